/- The example at the head of chapter 5's statements; numbers picked; over this seat's program. -/
import Derived.Test.YtjmbjlijkohkfaaLifA
namespace Go.Proofs.Ytjmbjlijkohkfaa.lf
open Go.ChangeShapes Go.WideShapes Go.ChangeAt Go.RowKit frame lift sep own join
set_option linter.unusedVariables false
def pickI (c n : Int) : Int := (if c < 0 then -(c + 1) else c) % n
theorem pickI_bd (c n : Int) (hn : 0 < n) : 0 ≤ pickI c n ∧ pickI c n < n := ⟨Int.emod_nonneg _ (by omega), Int.emod_lt_of_pos _ hn⟩
theorem pick_any (c n : Int) (h0 : -9223372036854775808 ≤ c) (h1 : c ≤ 9223372036854775807) (hn : 0 < n) (hn' : n ≤ 9223372036854775807) (w : World) :
    Calls Try.prog 21 #[.int .i64 c, .int .i64 n] w fun e w' => e = .returned (.int .i64 (pickI c n)) ∧ w = w' := by
  by_cases h : c < 0
  · have H1 : Hid (pickI c n = -((c + 1).tmod n)) := by
      unfold Hid pickI
      rw [if_pos h, ← Int.tmod_eq_emod_of_nonneg (by omega), Int.neg_tmod]
    go_enter Try.func21, Try.ntmps21
    go_wp2_with fail
    go_ret
    rw [H1.out]
    exact ⟨rfl, rfl⟩
  · have H1 : Hid (pickI c n = c % n) := by simp [Hid, pickI, h]
    go_enter Try.func21, Try.ntmps21
    go_wp2_with fail
    go_ret
    rw [H1.out]
    exact ⟨rfl, rfl⟩
def shownL : List Ans := [⟨true, 5, 1⟩, ⟨true, 6, 2⟩, ⟨false, 5, 1⟩, ⟨false, 0, 2⟩]
set_option maxHeartbeats 1000000 in
theorem shown_any (w : World) : Calls Try.prog 10 #[] w fun e w' => e = .returned (.bool true) ∧ Below w.heap.size w w' := by
  have hb : Below w.heap.size w (w.alloc (.cells (shownL.flatMap encO).toArray 30 (0, 0))) := (Below.refl _ _).alloc (Nat.le_refl _) _
  have ho : Ops (w.alloc (.cells (shownL.flatMap encO).toArray 30 (0, 0))) (.slice (some ⟨w.heap.size, 0, none⟩) 4 4) shownL :=
    ops_of_row (B := w.heap.size) (e := 30) (l := shownL) ⟨rfl, .inr ⟨w.heap.size, 4, (shownL.flatMap encO).toArray, rfl, Nat.le_refl _, heap_alloc_new w _, Nat.le_refl _, by simp [maxLen], rfl, List.take_of_length_le (by simp [shownL, encO])⟩⟩
  have HO := Lib.hid ho; have HB := Lib.hid hb
  have HR : Hid (runL [] 1 shownL = ([], 4)) := by unfold Hid; decide
  clear ho hb
  go_enter Try.func10, Try.ntmps10
  go_wp2_with fail
  refine (run_any (s := []) (v := .slice none 0 0) (.inl ⟨rfl, none, 0, rfl⟩) HO.out (by decide) 1).mono ?_
  rintro e w1 ⟨t, rfl, ht, hb1⟩
  rw [HR.out] at ht ⊢
  obtain ⟨at_, ct, rfl, _⟩ := form ht
  have HB1 := Lib.hid (below_trans HB.out hb1)
  clear ht hb1
  go_wp2_with fail
  go_ret
  exact ⟨rfl, HB1.out⟩
theorem cells3 {F : Nat → Prop} {W w : World} {b : Nat} {x y z : Value} {e : TypeId} {L : List Thing} (h : Hold F W (blk b (.cells #[x, y, z] e (0, 0)) :: L) w) :
    (w.cell? ⟨b, 0, none⟩ = some x ∧ w.cell? ⟨b, 1, none⟩ = some y ∧ w.cell? ⟨b, 2, none⟩ = some z) ∧ (w.frozen? ⟨b, 0, none⟩ = false ∧ w.frozen? ⟨b, 1, none⟩ = false ∧ w.frozen? ⟨b, 2, none⟩ = false) :=
  ⟨⟨h.cell (List.mem_cons_self ..) 0, h.cell (List.mem_cons_self ..) 1, h.cell (List.mem_cons_self ..) 2⟩, h.froz (List.mem_cons_self ..) 0, h.froz (List.mem_cons_self ..) 1, h.froz (List.mem_cons_self ..) 2⟩
theorem kept3 {F : Nat → Prop} {W w : World} {b : Nat} {x y z : Value} {e : TypeId} {L : List Thing} (h : Hold F W (blk b (.cells #[x, y, z] e (0, 0)) :: L) w) (o : Obj) :
    (w.alloc o).cell? ⟨b, 0, none⟩ = some x ∧ (w.alloc o).cell? ⟨b, 1, none⟩ = some y ∧ (w.alloc o).cell? ⟨b, 2, none⟩ = some z := (cells3 (h.alloc o)).1
end Go.Proofs.Ytjmbjlijkohkfaa.lf
