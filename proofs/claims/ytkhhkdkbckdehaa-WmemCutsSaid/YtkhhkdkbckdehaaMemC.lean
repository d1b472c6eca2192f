/- Package wmem and hatstandref2 as things that lie apart; the law's own small functions (shown, pick, does), over this seat's program. -/
import Derived.Test.YtkhhkdkbckdehaaMemB
import Derived.Test.YtkhhkdkbckdehaaSep
import Derived.BigQuiet
namespace Go.Proofs.Ytkhhkdkbckdehaa.wm
open Go.ChangeShapes Go.WideShapes Go.ChangeAt Go.RowKit frame lift sep
set_option linter.unusedVariables false

def mem (b : Nat) (S : St) : Thing := two b 62 33 20 1 (S.ws.map (Value.int .u64)) S.ns.length (S.ns.map enc1)
def ref (b : Nat) (S : St) : Thing := two b 40 33 63 5 (S.ws.map (Value.int .u64)) S.ns.length (S.ns.flatMap enc5)
def ptr (b : Nat) : Value := .pointer (some ⟨b, 0, none⟩)
section
variable {W w : World} {L : List Thing} {b c : Nat} {S T : St}
theorem load_in (h : Here W (mem b S :: L) w) (hf : S.ns.length ≤ 1000000) (a : Int) :
    Calls Try.prog 21 #[.pointer (some ⟨b, 0, none⟩), .int .i64 a] w fun e w' => e = .returned (.tuple #[.int .u64 (ldV S a), .int .i64 (acE S a)]) ∧ Here W (mem b (ldS S a) :: L) w' :=
  h.call fun F hF => load_any hF hf a
theorem store_in (h : Here W (mem b S :: L) w) (hf : S.ns.length ≤ 1000000) (a v : Int) :
    Calls Try.prog 22 #[.pointer (some ⟨b, 0, none⟩), .int .i64 a, .int .u64 v] w fun e w' => e = .returned (.int .i64 (acE S a)) ∧ Here W (mem b (stS S a v) :: L) w' :=
  h.call fun F hF => store_any hF hf a v
theorem swap_in (h : Here W (mem b S :: L) w) (hf : S.ns.length ≤ 1000000) (a o v : Int) :
    Calls Try.prog 20 #[.pointer (some ⟨b, 0, none⟩), .int .i64 a, .int .u64 o, .int .u64 v] w fun e w' => e = .returned (.tuple #[.bool (swV S a o), .int .i64 (acE S a)]) ∧ Here W (mem b (swS S a o v) :: L) w' :=
  h.call fun F hF => swap_any hF hf a o v
theorem ref_load_in (h : Here W (mem b T :: ref c S :: L) w) (hf : S.ns.length ≤ 1000000) (a : Int) :
    Calls Try.prog 24 #[.pointer (some ⟨c, 0, none⟩), .int .i64 a] w fun e w' => e = .returned (.tuple #[.int .u64 (ldV S a), .int .i64 (acE S a)]) ∧ Here W (mem b T :: ref c (ldS S a) :: L) w' :=
  h.call2 fun F hF => ref_load_any hF hf a
theorem ref_store_in (h : Here W (mem b T :: ref c S :: L) w) (hf : S.ns.length ≤ 1000000) (a v : Int) :
    Calls Try.prog 25 #[.pointer (some ⟨c, 0, none⟩), .int .i64 a, .int .u64 v] w fun e w' => e = .returned (.int .i64 (acE S a)) ∧ Here W (mem b T :: ref c (stS S a v) :: L) w' :=
  h.call2 fun F hF => ref_store_any hF hf a v
theorem ref_swap_in (h : Here W (mem b T :: ref c S :: L) w) (hf : S.ns.length ≤ 1000000) (a o v : Int) :
    Calls Try.prog 26 #[.pointer (some ⟨c, 0, none⟩), .int .i64 a, .int .u64 o, .int .u64 v] w fun e w' => e = .returned (.tuple #[.bool (swV S a o), .int .i64 (acE S a)]) ∧ Here W (mem b T :: ref c (swS S a o v) :: L) w' :=
  h.call2 fun F hF => ref_swap_any hF hf a o v
/-- A new memory ahead of the other things. -/
def NewIn (mk : Nat → St → Thing) (W : World) (L : List Thing) (l : List Int) (e : Ending) (W' : World) : Prop := ∃ b, e = .returned (.tuple #[.pointer (some ⟨b, 0, none⟩), .int .i64 0]) ∧ Here W (mk b ⟨l, []⟩ :: L) W'
theorem new_in {v : Value} {l : List Int} (h : Here W L w) (hi : Ints w .u64 v l) (hl : l.length ≤ 1024) : Calls Try.prog 10 #[v] w (NewIn mem W L l) :=
  (new_any hi hl).mono fun e w' ⟨b, he, hm, hb⟩ => ⟨b, he, h.new hb (A := mem b ⟨l, []⟩) hm (fun k hk => hk.1)⟩
theorem ref_new_in {v : Value} {l : List Int} (h : Here W L w) (hi : Ints w .u64 v l) (hl : l.length ≤ 1024) : Calls Try.prog 11 #[v] w (NewIn ref W L l) :=
  (ref_new_any hi hl).mono fun e w' ⟨b, he, hm, hb⟩ => ⟨b, he, h.new hb (A := ref b ⟨l, []⟩) hm (fun k hk => hk.1)⟩
theorem mem_here (h : Here W L w) (hm : mem b S ∈ L) : ∃ F v1 v2, TwoV w F b 62 33 20 1 v1 v2 (S.ws.map (Value.int .u64)) S.ns.length (S.ns.map enc1) := by
  obtain ⟨F, ⟨v1, v2, h⟩, _⟩ := h.get _ hm
  exact ⟨F, v1, v2, h⟩
theorem ref_here (h : Here W L w) (hm : ref b S ∈ L) : ∃ F v1 v2, TwoV w F b 40 33 63 5 v1 v2 (S.ws.map (Value.int .u64)) S.ns.length (S.ns.flatMap enc5) := by
  obtain ⟨F, ⟨v1, v2, h⟩, _⟩ := h.get _ hm
  exact ⟨F, v1, v2, h⟩
theorem count_any (h : Here W L w) (hm : mem b S ∈ L) :
    Calls Try.prog 15 #[.pointer (some ⟨b, 0, none⟩)] w fun e w' => e = .returned (.int .i64 S.ns.length) ∧ w = w' := by
  obtain ⟨F, v1, v2, h⟩ := mem_here h hm
  obtain ⟨a1, c1, rfl, hn1, hm1⟩ := h.r2.slice
  have hc1 := h.c1
  clear h hm
  go_enter Try.func15, Try.ntmps15
  go_wp2_with fail
  go_ret
  exact ⟨rfl, rfl⟩
theorem len_any (h : Here W L w) (hm : mem b S ∈ L) :
    Calls Try.prog 16 #[.pointer (some ⟨b, 0, none⟩)] w fun e w' => e = .returned (.int .i64 S.ws.length) ∧ w = w' := by
  obtain ⟨F, v1, v2, h⟩ := mem_here h hm
  obtain ⟨a1, c1, rfl, hn1, hm1⟩ := h.r1.slice
  have hc1 := h.c0
  rw [List.length_map] at hc1
  clear h hm
  go_enter Try.func16, Try.ntmps16
  go_wp2_with fail
  go_ret
  exact ⟨rfl, rfl⟩
theorem ints_of {F : Nat → Prop} {e : TypeId} {v : Value} {k : IntKind} {l : List Int} (h : RowOf w F e 1 v l.length (l.map (Value.int k))) : Ints w k v l := by
  by_cases h0 : 0 < l.length
  · obtain ⟨g, cap, rfl, hg, hlt, hn, hm, hc, hf⟩ := h.at_ h0
    refine .inr ⟨h0, g, 0, cap, rfl, hn, hm, hlt, fun i hi => ?_⟩
    rw [Nat.zero_add, hc i (by omega)]
    simp [nth, List.getD, hi]
  · obtain ⟨a, c, rfl, _, _⟩ := h.slice
    obtain rfl : l = [] := List.eq_nil_of_length_eq_zero (by omega)
    exact .inl ⟨rfl, _, _, rfl⟩
theorem words_any (h : Here W L w) (hm : mem b S ∈ L) (hl : S.ws.length ≤ 1000000) :
    Calls Try.prog 14 #[.pointer (some ⟨b, 0, none⟩)] w (CopyPost w S.ws) := by
  obtain ⟨F, v1, v2, h⟩ := mem_here h hm
  have hi : Ints w .u64 v1 S.ws := ints_of (by simpa using h.r1)
  have HC := Lib.hid (copied_any hi hl)
  obtain ⟨a1, c1, rfl, hn1, hm1⟩ := h.r1.slice
  have hc1 := h.c0
  rw [List.length_map] at hc1
  rw [List.length_map] at HC
  clear h hm hi
  go_enter Try.func14, Try.ntmps14
  go_wp2_with fail
  refine HC.out.mono ?_
  rintro e w1 ⟨v', rfl, hn, hb⟩
  have HN := Lib.hid hn; clear hn
  go_wp2_with fail
  go_ret
  exact ⟨_, rfl, HN.out, hb⟩
end
theorem shown_any (w : World) : Calls Try.prog 9 #[] w fun e w' => e = .returned (.bool true) ∧ Below w.heap.size w w' := by
  have hi : Ints (w.alloc (Obj.cells #[.int .u64 7] 33)) .u64 (.slice (some ⟨w.heap.size, 0, none⟩) 1 1) [7] :=
    .inr ⟨by decide, w.heap.size, 0, 1, rfl, by decide, by simp [maxLen], by simp, fun i hi => by
      obtain rfl : i = 0 := by simp at hi; omega
      exact cell_of_row _ _ 0 _ _ _ (heap_alloc_new w _)⟩
  have HI := Lib.hid hi; clear hi
  have H0 := Lib.hid ((Here.start w).alloc (Obj.cells #[.int .u64 7] 33))
  go_enter Try.func9, Try.ntmps9
  go_wp2_with fail
  refine (new_in H0.out HI.out (by decide)).mono ?_
  rintro e w1 ⟨b, rfl, h1⟩
  clear HI H0
  have H1 := Lib.hid h1; clear h1
  go_wp2_with fail
  refine (swap_in H1.out (by decide) 0 7 9).mono ?_
  rintro e w2 ⟨he, h2⟩
  rw [show swV ⟨[7], []⟩ 0 7 = true from rfl, show acE ⟨[7], []⟩ 0 = 0 from rfl] at he
  subst he
  have H2 := Lib.hid h2; clear h2
  go_wp2_with fail
  refine (swap_in H2.out (by decide) 0 7 8).mono ?_
  rintro e w3 ⟨he, h3⟩
  rw [show swV (swS ⟨[7], []⟩ 0 7 9) 0 7 = false from rfl, show acE (swS ⟨[7], []⟩ 0 7 9) 0 = 0 from rfl] at he
  subst he
  have H3 := Lib.hid h3; clear h3
  go_wp2_with fail
  refine (load_in H3.out (by decide) 0).mono ?_
  rintro e w4 ⟨he, h4⟩
  rw [show ldV (swS (swS ⟨[7], []⟩ 0 7 9) 0 7 8) 0 = 9 from rfl, show acE (swS (swS ⟨[7], []⟩ 0 7 9) 0 7 8) 0 = 0 from rfl] at he
  subst he
  have H4 := Lib.hid h4; clear h4
  go_wp2_with fail
  refine (count_any H4.out (List.mem_cons_self ..)).mono ?_
  rintro e w5 ⟨he, rfl⟩
  rw [show (ldS (swS (swS ⟨[7], []⟩ 0 7 9) 0 7 8) 0).ns.length = 3 from rfl] at he
  subst he
  go_wp2_with fail
  go_ret
  exact ⟨rfl, H4.out.below⟩
end Go.Proofs.Ytkhhkdkbckdehaa.wm
