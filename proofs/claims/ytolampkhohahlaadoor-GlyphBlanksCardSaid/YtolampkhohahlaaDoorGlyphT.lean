/- What the law's head does (the chapter's examples), over this seat's program. -/
import Derived.Test.YtolampkhohahlaaDoorGlyphK
import Derived.Test.YtolampkhohahlaaDoorGlyphW
import Derived.Test.YtolampkhohahlaaDoorGlyphE
import Derived.Test.YtolampkhohahlaaDoorGlyphL
namespace Go.Proofs.YtolampkhohahlaaDoor.g3
open Go.ChangeShapes Go.WideShapes Go.ChangeAt Go.RowKit frame lift gl own
set_option linter.unusedVariables false
abbrev ex1 : ByteArray := ⟨#[226, 134, 145, 48, 44, 49, 55, 32, 226, 128, 162, 48]⟩
abbrev ex2 : ByteArray := ⟨#[226, 134, 147, 48, 49]⟩
theorem parse1 : parse (bytes ex1) = [⟨8593, [0, 17], true, 0⟩, ⟨8226, [0], true, 8⟩] := by kernel_rfl
theorem parse2 : parse (bytes ex2) = [⟨8595, [], false, 0⟩] := by kernel_rfl
theorem same1 : same (parse (bytes ex1)) [⟨8593, [0, 17], true, 0⟩, ⟨8226, [0], true, 8⟩] true = true := by rw [parse1]; decide
theorem same2 : same (parse (bytes ex2)) [⟨8595, [], false, 0⟩] true = true := by rw [parse2]; decide
/-- What 'Parse' hands back, as the law's 'as' wants it. -/
theorem bytes_byt (s : ByteArray) : ∀ c ∈ bytes s, 0 ≤ c ∧ c ≤ 255 := by
  intro c hc
  unfold bytes at hc
  obtain ⟨b, _, rfl⟩ := List.mem_map.1 hc
  have := b.toNat_lt
  omega
theorem parse_is (L : Bs) : parse L = parseAt 0 L := rfl
theorem parse_ok (s : ByteArray) : (parse (bytes s)).length ≤ s.size ∧ ∀ e ∈ parse (bytes s), (0 ≤ e.op ∧ e.op ≤ 1310719) ∧ e.args.length ≤ s.size ∧ (∀ m ∈ e.args, U64 m) ∧ e.at_ ≤ s.size := by
  obtain ⟨h1, h2⟩ := parse_facts (bytes s).length (bytes s) 0 (Nat.le_refl _) (bytes_byt s)
  rw [bytes_len] at h1 h2
  refine ⟨h1, fun e he => ?_⟩
  obtain ⟨j1, j2, j3, j4, j5⟩ := h2 e he
  exact ⟨j1, j2, j3, by omega⟩
def GPost (w : World) (l : List Ent) (e : Ending) (w' : World) : Prop := Below w.heap.size w w' ∧ ∃ v, e = .returned v ∧ GEnts w' v l
theorem gparse_G {s : ByteArray} (hs : s.size ≤ 1000000) (w : World) : Calls Tryd.prog 13 #[.string s] w (GPost w (parse (bytes s))) := by
  refine (gparse_any hs w).mono ?_
  rintro e w' ⟨hb, v, ps, rfl, hO, hp⟩
  refine ⟨hb, v, rfl, ?_⟩
  rw [← hp]
  exact hO.reads
theorem as_parse {s : ByteArray} (hs : s.size ≤ 100000) {v : Value} (w : World) (h : GEnts w v (parse (bytes s))) : Calls Tryd.prog 11 #[v] w (AsPost w (parse (bytes s))) := by
  obtain ⟨h1, h2⟩ := parse_ok s
  exact as_any w h (by omega) (fun e he => by have := (h2 e he).1; omega)
theorem row_lit (w : World) (cs : Array Value) (t : TypeId) (n size : Nat) (h : cs.size = n * size) (hm : n ≤ maxLen) : (w.alloc (.cells cs t)).ownsRow w.heap.size t size (.slice (some ⟨w.heap.size, 0, none⟩) n n) n cs.toList :=
  ⟨by simpa using h, .inr ⟨w.heap.size, n, cs, rfl, Nat.le_refl _, (MapKept.heap_alloc w _).1, Nat.le_refl _, hm, h, List.take_of_length_le (by rw [Array.length_toList, h]; exact Nat.le_refl _)⟩⟩
theorem own_lit (w : World) (l : List Int) (cs : Array Value) (hcs : cs = (l.map (Value.int .u64)).toArray) (t : TypeId) (n : Nat) (hn : n = l.length) (h : l.length ≤ 1000000) : Own (w.alloc (.cells cs t)) w.heap.size t .u64 (.slice (some ⟨w.heap.size, 0, none⟩) n n) l := by
  subst hcs
  subst hn
  have := row_lit w (l.map (Value.int .u64)).toArray t l.length 1 (by simp) (by simp only [maxLen]; omega)
  simpa [Own] using this
def lw1 (w : World) : World := (((w.alloc (.cells #[.int .u64 0, .int .u64 17] 47)).alloc (.cells #[.int .u64 0] 47)).alloc (.cells #[.int .i64 8593, .slice (some ⟨w.heap.size, 0, none⟩) 2 2, .bool true, .int .i64 0, .int .i64 8226, .slice (some ⟨w.heap.size + 1, 0, none⟩) 1 1, .bool true, .int .i64 8] 49))
theorem lw1_below (w : World) : Below w.heap.size w (lw1 w) := (((Below.refl _ _).alloc (Nat.le_refl _) _).alloc (by rw [World.size_alloc]; omega) _).alloc (by rw [World.size_alloc, World.size_alloc]; omega) _
theorem lit1 (w : World) : REnts (lw1 w)
    (.slice (some ⟨w.heap.size + 1 + 1, 0, none⟩) 2 2) [⟨8593, [0, 17], true, 0⟩, ⟨8226, [0], true, 8⟩] := by
  have h1 := (own_lit w [0, 17] #[.int .u64 0, .int .u64 17] rfl 47 2 rfl (by decide)).alloc (.cells #[.int .u64 0] 47)
  have h2 := own_lit (w.alloc (.cells #[.int .u64 0, .int .u64 17] 47)) [0] #[.int .u64 0] rfl 47 1 rfl (by decide)
  have e1 : (w.alloc (.cells #[.int .u64 0, .int .u64 17] 47)).heap.size = w.heap.size + 1 := by simp
  rw [e1] at h2
  have h3 := row_lit ((w.alloc (.cells #[.int .u64 0, .int .u64 17] 47)).alloc (.cells #[.int .u64 0] 47)) #[.int .i64 8593, .slice (some ⟨w.heap.size, 0, none⟩) 2 2, .bool true, .int .i64 0, .int .i64 8226, .slice (some ⟨w.heap.size + 1, 0, none⟩) 1 1, .bool true, .int .i64 8] 49 2 4 rfl (by decide)
  have e2 : ((w.alloc (.cells #[.int .u64 0, .int .u64 17] 47)).alloc (.cells #[.int .u64 0] 47)).heap.size = w.heap.size + 1 + 1 := by simp
  rw [e2] at h3
  refine row_reads (ps := [(.slice (some ⟨w.heap.size, 0, none⟩) 2 2, ⟨8593, [0, 17], true, 0⟩), (.slice (some ⟨w.heap.size + 1, 0, none⟩) 1 1, ⟨8226, [0], true, 8⟩)]) h3 ?_
  intro p hp
  simp only [List.mem_cons, List.not_mem_nil, or_false] at hp
  rcases hp with rfl | rfl
  · exact own_ints (h1.alloc _)
  · exact own_ints (h2.alloc _)
def lw2 (w : World) : World := (w.alloc (.cells #[.int .i64 8595, .slice none 0 0, .bool false, .int .i64 0] 49))
theorem lw2_below (w : World) : Below w.heap.size w (lw2 w) := (Below.refl _ _).alloc (Nat.le_refl _) _
theorem lit2 (w : World) : REnts (lw2 w) (.slice (some ⟨w.heap.size, 0, none⟩) 1 1) [⟨8595, [], false, 0⟩] := by
  refine row_reads (ps := [(.slice none 0 0, ⟨8595, [], false, 0⟩)]) (row_lit w _ 49 1 4 rfl (by decide)) ?_
  intro p hp
  simp only [List.mem_cons, List.not_mem_nil, or_false] at hp
  subst hp
  exact .inl ⟨rfl, _, _, rfl⟩
set_option maxRecDepth 100000 in
set_option maxHeartbeats 4000000 in
theorem shown_any (w : World) : Calls Tryd.prog 8 #[] w fun e w' => e = .returned (.bool true) ∧ Below w.heap.size w w' := by
  go_enter Tryd.func8, Tryd.ntmps8
  go_wp2_with fail
  refine (gparse_G (s := ex1) (by decide) w).mono ?_
  rintro e w1 ⟨hb1, v1, rfl, hG1⟩
  go_wp2_with fail
  refine (gparse_G (s := ex2) (by decide) w1).mono ?_
  rintro e w2 ⟨hb2, v2, rfl, hG2⟩
  have HG1 := Lib.hid (hG1.below hb2)
  have HG2 := Lib.hid hG2
  have hbw := hb1.trans (hb2.mono hb1.size)
  clear hG1 hG2 hb1 hb2
  go_wp2_with fail
  refine (as_parse (s := ex1) (by decide) w2 HG1.out).mono ?_
  rintro e w3 ⟨hb3, v3, rfl, hA⟩
  have HA := Lib.hid hA
  have hG2 := HG2.out.below hb3
  have hbw3 := hbw.trans (hb3.mono hbw.size)
  clear HG2 HG1 hA hbw hb3
  have HG2 := Lib.hid hG2
  clear hG2
  go_wp2_with fail
  refine (same_any true (lw1 w3) (HA.out.below (lw1_below w3)).reads (lit1 w3) (by rw [parse1]; decide) (by rw [parse1]; decide)).mono ?_
  rintro e w5 ⟨he, hb5⟩
  rw [same1] at he
  subst he
  have hb35 := (lw1_below w3).trans (hb5.mono (lw1_below w3).size)
  have hG2 := HG2.out.below hb35
  have hbw5 := hbw3.trans (hb35.mono hbw3.size)
  have HG3 := Lib.hid hG2
  clear HG2 HA hG2 hb35 hb5 hbw3
  go_wp2_with fail
  refine (as_parse (s := ex2) (by decide) w5 HG3.out).mono ?_
  rintro e w6 ⟨hb6, v6, rfl, hA⟩
  have HA := Lib.hid hA
  have hbw6 := hbw5.trans (hb6.mono hbw5.size)
  clear hA hb6 hbw5 HG3
  go_wp2_with fail
  refine (same_any true (lw2 w6) (HA.out.below (lw2_below w6)).reads (lit2 w6) (by rw [parse2]; decide) (by rw [parse2]; decide)).mono ?_
  rintro e w7 ⟨he, hb7⟩
  rw [same2] at he
  subst he
  have hb67 := (lw2_below w6).trans (hb7.mono (lw2_below w6).size)
  have hbw7 := hbw6.trans (hb67.mono hbw6.size)
  clear hb67 hb7 hbw6 HA
  go_wp2_with fail
  go_ret
  exact ⟨rfl, hbw7⟩
end Go.Proofs.YtolampkhohahlaaDoor.g3
