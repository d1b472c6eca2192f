/- Package wmem and hatstandref2, on: the making of a memory, its words, its notes, over this seat's program. -/
import Derived.Test.YtkhhkdkbckdehaaMem
import Derived.Laws.CopyOwn
import Derived.Laws.AppendOwnNone
namespace Go.Proofs.Ytkhhkdkbckdehaa.wm
open Go.ChangeShapes Go.WideShapes Go.ChangeAt Go.RowKit frame lift
set_option linter.unusedVariables false

/-- v is a slice of whole numbers that W' has and W has not. -/
def New1 (W W' : World) (e : TypeId) (k : IntKind) (v : Value) (l : List Int) : Prop := RowOf W' (fun g => W.heap.size ≤ g ∧ g < W'.heap.size) e 1 v l.length (l.map (Value.int k))
def CopyPost (W : World) (l : List Int) (e : Ending) (W' : World) : Prop := ∃ v', e = .returned v' ∧ New1 W W' 33 .u64 v' l ∧ Below W.heap.size W W'
theorem info64 : (Try.prog.info? 33).map (fun i => (i.zero, i.size, i.bytes)) = some (some (.int .u64 0), 1, 8) := by kernel_rfl
theorem row_whole {w : World} {base : Nat} {e : TypeId} {g n : Nat} {xs : List Value} (h : w.ownsRow base e 1 (.slice (some ⟨g, 0, none⟩) n n) n xs) : w.heap[g]? = some (.cells xs.toArray e (0, 0)) := by
  obtain ⟨h1, ⟨h2, _⟩ | ⟨g', cap, cur, hv, _, hg, _, _, hs, ht⟩⟩ := h
  · simp at h2
  · simp at hv
    obtain ⟨rfl, rfl⟩ := hv
    rw [hg, ← ht, List.take_of_length_le (by simp [hs])]
theorem whole_row {w : World} {e : TypeId} {g n : Nat} {xs : List Value} (h : w.heap[g]? = some (.cells xs.toArray e (0, 0))) (hn : xs.length = n) (hm : n ≤ maxLen) : w.ownsRow 0 e 1 (.slice (some ⟨g, 0, none⟩) n n) n xs :=
  ⟨by simpa using hn, .inr ⟨g, n, xs.toArray, rfl, Nat.zero_le _, h, Nat.le_refl _, hm, by simpa using hn, by simp [← hn]⟩⟩
theorem made_len (n : Nat) : (madeCells #[Value.int .u64 0] n).toList.length = n := by simp [madeCells]
theorem copied_any {w : World} {v : Value} {l : List Int} (h : Ints w .u64 v l) (hl : l.length ≤ 1000000) :
    Calls Try.prog 23 #[v] w (CopyPost w l) := by
  obtain ⟨i, hi, hz0, hz1, hz2⟩ := info_parts info64
  have J1 := Lib.hid hi; have J2 := Lib.hid hz0; have J3 := Lib.hid hz1; have J4 := Lib.hid hz2; clear hi hz0 hz1 hz2
  have hs0 : ∃ a cap, v = .slice a l.length cap ∧ (0 < l.length → ∃ b off, a = some ⟨b, off, none⟩ ∧ b < w.heap.size ∧ ∀ i, i < l.length → w.cell? ⟨b, off + i, none⟩ = some (.int .u64 (nth l i))) := by
    rcases h with ⟨rfl, a, cap, rfl⟩ | ⟨h0, b, off, cap, rfl, _, _, hb, hc⟩
    · exact ⟨a, cap, rfl, fun h => by simp at h⟩
    · exact ⟨_, cap, rfl, fun _ => ⟨b, off, rfl, hb, hc⟩⟩
  clear h
  obtain ⟨a, cap, rfl, hs⟩ := hs0
  have HS := Lib.hid hs; clear hs
  go_enter Try.func23, Try.ntmps23
  go_wp2_with (at_make; refine wpList_make_full _ rfl _ _ 22 rfl 0 33 i (.int .u64 0) 1 Try.underlying22 J1.out J2.out J3.out _ _ _ _ l.length rfl rfl rfl rfl ?m1 ?m2 (Nat.zero_le _) ?_)
  case m1 => rw [J4.out]; omega
  case m2 => simp only [maxLen]; omega
  intro w1 hown hgrow
  have HW := Lib.hid (row_whole hown)
  have hB1 : Below w.heap.size w w1 := ⟨hgrow.os, hgrow.tape, hgrow.output, hgrow.size, fun k hk => hgrow.block k hk (by simp)⟩
  have hlt : w.heap.size < w1.heap.size := lt_of_block (row_whole hown)
  have HB1 := Lib.hid hB1
  clear hown hgrow hB1
  go_wp2_with (with_reducible refine wpList_copy_splice rfl (.tmp 7) (.tmp 8) 22 22 rfl 33 Try.underlying22 (by kernel_rfl) _ _ _ _ _ _ rfl rfl w.heap.size 0 _ 33 HW.out (l.map (Value.int .u64)) ?n1 ?n2 ?n3 (ints_oneCell _ _) w.heap.size w HB1.out (Nat.le_refl _) ?_)
  case n1 => simp
  case n2 =>
    intro hp
    obtain ⟨b, off, rfl, hb, hc⟩ := HS.out hp
    refine ⟨_, rfl, fun j u hj => ?_⟩
    rw [add_plain]
    obtain ⟨hjl, hju⟩ := List.getElem?_eq_some_iff.1 hj
    rw [HB1.out.cell (p := ⟨b, off + j, none⟩) hb, hc j hjl]
    simp [nth, List.getD, hjl, hju]
  case n3 => rw [List.length_map, made_len]; omega
  intro w2 hw2 hb2
  have hf : New1 w w2 33 .u64 (.slice (some ⟨w.heap.size, 0, none⟩) l.length l.length) l := by
    have e : splice (madeCells #[Value.int .u64 0] l.length).toList 0 (l.map (Value.int .u64)) = l.map (Value.int .u64) := by
      unfold splice
      rw [List.drop_eq_nil_of_le (by rw [made_len]; simp)]
      simp
    have h := hw2.out
    rw [e] at h
    exact ⟨whole_row h (by simp) (by simp only [maxLen]; omega), fun g hg => by
      simp [Value.ownBlock] at hg
      subst hg
      exact ⟨Nat.le_refl _, lt_of_block h⟩⟩
  have HF := Lib.hid hf; clear hf
  go_wp2_with fail
  go_ret
  exact ⟨_, rfl, HF.out, hb2⟩
theorem nil_row {w : World} {base : Nat} {e : TypeId} {size : Nat} : w.ownsRow base e size (.slice none 0 0) 0 [] := World.ownsRow_nil w base e size
/-- A new memory. -/
def NewPost (At : World → (Nat → Prop) → Nat → St → Prop) (W : World) (l : List Int) (e : Ending) (W' : World) : Prop :=
  ∃ b, e = .returned (.tuple #[.pointer (some ⟨b, 0, none⟩), .int .i64 0]) ∧ At W' (fun g => W.heap.size ≤ g ∧ g < W'.heap.size) b ⟨l, []⟩ ∧ Below W.heap.size W W'
theorem new_big {w : World} {v : Value} {l : List Int} (h : Ints w .u64 v l) (hl : 1024 < l.length) :
    Calls Try.prog 10 #[v] w fun e w' => e = .returned (.tuple #[.pointer none, .int .i64 1]) ∧ w = w' := by
  rcases h with ⟨rfl, a, cap, rfl⟩ | ⟨h0, b, off, cap, rfl, hc, hm, hb, hc⟩
  · simp at hl
  · unfold maxLen at hm
    go_enter Try.func10, Try.ntmps10
    go_wp2_with fail
    go_ret2
    exact ⟨rfl, rfl⟩
theorem two_new {w w1 : World} {T e1 e2 : TypeId} {s2 : Nat} {v' : Value} {l : List Value} (hb : Below w.heap.size w w1) (h : RowOf w1 (fun g => w.heap.size ≤ g ∧ g < w1.heap.size) e1 1 v' l.length l) :
    Two (w1.alloc (Obj.cells #[v', .slice none 0 0] T)) (fun g => w.heap.size ≤ g ∧ g < (w1.alloc (Obj.cells #[v', .slice none 0 0] T)).heap.size) w1.heap.size T e1 e2 s2 l 0 [] ∧ Below w.heap.size w (w1.alloc (Obj.cells #[v', .slice none 0 0] T)) := by
  have hsz : (w1.alloc (Obj.cells #[v', .slice none 0 0] T)).heap.size = w1.heap.size + 1 := by simp
  refine ⟨⟨v', .slice none 0 0, fun k hk => hk.2, ⟨hb.size, by omega⟩, heap_alloc_new w1 _, ⟨h.1.alloc _, fun g hg => ?_⟩, ⟨nil_row, fun g hg => by simp [Value.ownBlock] at hg⟩⟩, hb.alloc hb.size _⟩
  have := h.2 g hg
  exact ⟨this.1, by omega⟩
theorem new_mem {w w1 : World} {v' : Value} {l : List Int} (hb : Below w.heap.size w w1) (h : New1 w w1 33 .u64 v' l) :
    MemAt (w1.alloc (Obj.cells #[v', .slice none 0 0] 62)) (fun g => w.heap.size ≤ g ∧ g < (w1.alloc (Obj.cells #[v', .slice none 0 0] 62)).heap.size) w1.heap.size ⟨l, []⟩ ∧ Below w.heap.size w (w1.alloc (Obj.cells #[v', .slice none 0 0] 62)) :=
  two_new hb (l := l.map (Value.int .u64)) (by unfold New1 at h; rw [List.length_map]; exact h)
theorem new_ref {w w1 : World} {v' : Value} {l : List Int} (hb : Below w.heap.size w w1) (h : New1 w w1 33 .u64 v' l) :
    RefAt (w1.alloc (Obj.cells #[v', .slice none 0 0] 40)) (fun g => w.heap.size ≤ g ∧ g < (w1.alloc (Obj.cells #[v', .slice none 0 0] 40)).heap.size) w1.heap.size ⟨l, []⟩ ∧ Below w.heap.size w (w1.alloc (Obj.cells #[v', .slice none 0 0] 40)) :=
  two_new hb (l := l.map (Value.int .u64)) (by unfold New1 at h; rw [List.length_map]; exact h)
theorem new_any {w : World} {v : Value} {l : List Int} (h : Ints w .u64 v l) (hl : l.length ≤ 1024) :
    Calls Try.prog 10 #[v] w (NewPost MemAt w l) := by
  have HC := Lib.hid (copied_any h (by omega))
  have hs0 : ∃ a cap, v = .slice a l.length cap := by
    rcases h with ⟨rfl, a, cap, rfl⟩ | ⟨h0, b, off, cap, rfl, _, _, hb, hc⟩
    · exact ⟨a, cap, rfl⟩
    · exact ⟨_, cap, rfl⟩
  clear h
  obtain ⟨a, cap, rfl⟩ := hs0
  go_enter Try.func10, Try.ntmps10
  go_wp2_with fail
  refine HC.out.mono ?_
  rintro e w1 ⟨v', rfl, hn, hb⟩
  obtain ⟨a1, c1, rfl, _, _⟩ := hn.slice
  have HN := Lib.hid hn; clear hn
  go_wp2_with fail
  go_ret2
  exact ⟨w1.heap.size, rfl, new_mem hb HN.out⟩
theorem ref_new_big {w : World} {v : Value} {l : List Int} (h : Ints w .u64 v l) (hl : 1024 < l.length) :
    Calls Try.prog 11 #[v] w fun e w' => e = .returned (.tuple #[.pointer none, .int .i64 1]) ∧ w = w' := by
  rcases h with ⟨rfl, a, cap, rfl⟩ | ⟨h0, b, off, cap, rfl, hc, hm, hb, hc⟩
  · simp at hl
  · unfold maxLen at hm
    go_enter Try.func11, Try.ntmps11
    go_wp2_with fail
    go_ret2
    exact ⟨rfl, rfl⟩
theorem ref_new_any {w : World} {v : Value} {l : List Int} (h : Ints w .u64 v l) (hl : l.length ≤ 1024) :
    Calls Try.prog 11 #[v] w (NewPost RefAt w l) := by
  have hE : w.heap.size ≤ (w.alloc (Obj.cells #[] 33)).heap.size := by simp
  have hN0 : RowOf (w.alloc (Obj.cells #[] 33)) (fun g => w.heap.size ≤ g ∧ g < (w.alloc (Obj.cells #[] 33)).heap.size) 33 1 (.slice (some ⟨w.heap.size, 0, none⟩) 0 0) 0 [] :=
    ⟨World.ownsRow_lit w #[] 0 (Nat.zero_le _) (by simp [maxLen]) (by simp), fun g hg => by
      simp [Value.ownBlock] at hg
      subst hg
      simp⟩
  have hB0 : Below w.heap.size w (w.alloc (Obj.cells #[] 33)) := (Below.refl _ _).alloc (Nat.le_refl _) _
  have HN0 := Lib.hid hN0; have HB0 := Lib.hid hB0
  clear hN0 hB0 hE
  rcases h with ⟨rfl, a, cap, rfl⟩ | ⟨h0, b, off, cap, rfl, hc, hm, hb, hc⟩
  · cases a <;>
    · go_enter Try.func11, Try.ntmps11
      go_wp2_with fail
      go_ret2
      have hs : (w.alloc (Obj.cells #[] 33)).heap.size = w.heap.size + 1 := by simp
      have h := new_ref (l := []) HB0.out HN0.out
      rw [hs] at h
      exact ⟨_, rfl, h⟩
  · unfold maxLen at hm
    have HC := Lib.hid hc; clear hc
    obtain ⟨i, hi, hz0, hz1, hz2⟩ := info_parts info64
    have J1 := Lib.hid hi; have J2 := Lib.hid hz0; have J3 := Lib.hid hz1; have J4 := Lib.hid hz2; clear hi hz0 hz1 hz2
    go_enter Try.func11, Try.ntmps11
    go_wp2_with ((at_builtin; refine wpList_append_lies _ rfl _ _ 22 rfl 0 33 i (.int .u64 0) 1 8 Try.underlying22 J1.out J2.out J3.out J4.out rfl (by decide) _ 0 _ rfl HN0.out.1 ⟨b, off, none⟩ l.length cap (l.map (Value.int .u64)) rfl ?c0 ?c1 (ints_oneCell _ _) h0 ?c3 ?c4 (Nat.zero_le _) (w.heap.size + 1) (by simp) ?_))
    case c0 => simp
    case c1 =>
      intro j u hj
      obtain ⟨hjl, hju⟩ := List.getElem?_eq_some_iff.1 hj
      rw [add_plain, HB0.out.cell (p := ⟨b, off + j, none⟩) hb]
      have hjl' : j < l.length := by simpa using hjl
      rw [HC.out j hjl', ← hju]
      simp [nth, List.getD, hjl']
    case c3 => simp only [maxLen]; omega
    case c4 => omega
    intro g cap9 w1 hown hgrow hat hlt
    have hf : New1 w w1 33 .u64 (.slice (some ⟨g, 0, none⟩) l.length cap9) l := by
      refine ⟨by simpa using hown, fun g' hg => ?_⟩
      simp [Value.ownBlock] at hg hat
      subst hg
      rcases hat with rfl | rfl
      · exact ⟨Nat.le_refl _, hlt⟩
      · exact ⟨by omega, hlt⟩
    have hb1 : Below w.heap.size w w1 := HB0.out.grown hgrow HB0.out.size (fun k hk => by simp [Value.ownBlock] at hk; omega)
    have HF := Lib.hid hf
    clear hown hgrow hat hf
    go_wp2_with fail
    go_ret2
    exact ⟨_, rfl, new_ref hb1 HF.out⟩
end Go.Proofs.Ytkhhkdkbckdehaa.wm
