/- Contracts of package glyph: digits, numbers, over this seat's program. -/
import Derived.Test.YtolampkhohahlaaDoorGlyphB
import Derived.Test.YtolampkhohahlaaDoorGlyphM
import Derived.Test.YtolampkhohahlaaDoorGlyphH
import Derived.Deep.RegionLaw
namespace Go.Proofs.YtolampkhohahlaaDoor.g3
open Go.ChangeShapes Go.WideShapes Go.ChangeAt Go.RowKit frame lift gl own
set_option linter.unusedVariables false
theorem isBlank_any (r : Int) (w : World) : Calls Tryd.prog 25 #[.int .i32 r] w fun e w' => e = .returned (.bool (gl.blank r)) ∧ w = w' := by
  cases h1 : (r == 9) with
  | true =>
    have H : Hid (gl.blank r = true) := by unfold Hid gl.blank; rw [h1]; rfl
    go_enter Tryd.func25, Tryd.ntmps25
    go_wp2_with fail
    go_ret
    rw [H.out]; exact ⟨rfl, rfl⟩
  | false =>
    cases h2 : (r == 10) with
    | true =>
      have H : Hid (gl.blank r = true) := by unfold Hid gl.blank; rw [h2]; simp
      go_enter Tryd.func25, Tryd.ntmps25
      go_wp2_with fail
      go_ret
      rw [H.out]; exact ⟨rfl, rfl⟩
    | false =>
      have H : Hid (gl.blank r = (r == 32)) := by unfold Hid gl.blank; rw [h1, h2]; rfl
      go_enter Tryd.func25, Tryd.ntmps25
      go_wp2_with fail
      go_ret
      rw [H.out]; exact ⟨rfl, rfl⟩
theorem isOfNumbers_any (r : Int) (w : World) : Calls Tryd.prog 23 #[.int .i32 r] w fun e w' => e = .returned (.bool (numb r)) ∧ w = w' := by
  cases h1 : (r == 44) with
  | true =>
    have H : Hid (numb r = true) := by unfold Hid numb; rw [h1]; simp
    go_enter Tryd.func23, Tryd.ntmps23
    go_wp2_with fail
    go_ret
    rw [H.out]; exact ⟨rfl, rfl⟩
  | false =>
    by_cases h2 : 48 ≤ r
    · have H : Hid (numb r = decide (r ≤ 57)) := by unfold Hid numb; rw [h1]; simp [h2]
      go_enter Tryd.func23, Tryd.ntmps23
      go_wp2_with fail
      go_ret
      rw [H.out]; exact ⟨rfl, rfl⟩
    · have H : Hid (numb r = false) := by unfold Hid numb; rw [h1]; simp; omega
      go_enter Tryd.func23, Tryd.ntmps23
      go_wp2_with fail
      go_ret
      rw [H.out]; exact ⟨rfl, rfl⟩
def encN (n : Num) : Value := .agg #[.int .u64 n.v, .bool n.d, .bool n.wr]
theorem isOne_any (n : Num) (w : World) : Calls Tryd.prog 37 #[encN n] w fun e w' => e = .returned (.bool n.one) ∧ Below w.heap.size w w' := by
  obtain ⟨v, d, wr⟩ := n
  unfold encN
  cases d
  all_goals
    go_enter Tryd.func37, Tryd.ntmps37
    go_wp2_with fail
    go_ret
    refine ⟨by simp [Num.one], (Below.refl _ _).alloc (Nat.le_refl _) _⟩
theorem mul64 (x : Int) (h0 : 0 ≤ x) (h1 : x ≤ 18446744073709551615) (w : World) : Calls Tryd.prog 38 #[.int .u64 x, .int .u64 10] w fun e w' => e = .returned (.tuple #[.int .u64 (x * 10 / 18446744073709551616), .int .u64 (x * 10 % 18446744073709551616)]) ∧ w = w' := by
  obtain ⟨x, rfl⟩ := Int.eq_ofNat_of_zero_le h0
  refine (Tryd.bits_Mul64 x 10 (by omega) (by decide) w).mono ?_
  rintro e w' ⟨rfl, rfl⟩
  refine ⟨?_, rfl⟩
  congr 5
theorem add64 (x y : Int) (hx : 0 ≤ x) (hy : 0 ≤ y) (w : World) : (callFunc 39 #[.int .u64 x, .int .u64 y, .int .u64 0]).run Tryd.prog w =
    .ok (.value (.tuple #[.int .u64 ((x + y) % 18446744073709551616), .int .u64 ((x + y) / 18446744073709551616)])) w := by
  obtain ⟨x, rfl⟩ := Int.eq_ofNat_of_zero_le hx
  obtain ⟨y, rfl⟩ := Int.eq_ofNat_of_zero_le hy
  refine (Any7.bits_Add64 Tryd.lays7_25 x y 0 (by omega) w).trans ?_
  congr 5
set_option maxHeartbeats 4000000 in
theorem with_any (n : Num) (hn : U64 n.v) (b : Int) (hb : Dig b) (w : World) : Calls Tryd.prog 33 #[encN n, .int .i32 b] w fun e w' => e = .returned (encN (n.step b)) ∧ Below w.heap.size w w' := by
  obtain ⟨v, d, wr⟩ := n
  obtain ⟨h0, h1⟩ := hn
  obtain ⟨g0, g1⟩ := hb
  dsimp only at h0 h1
  have hw1 : IntKind.i32.wrap (b - 48) = b - 48 := by rw [IntKind.wrap_i32]; omega
  have hw2 : IntKind.u64.wrap (b - 48) = b - 48 := by rw [IntKind.wrap_u64]; omega
  have hm0 : 0 ≤ v * 10 % 18446744073709551616 := by omega
  have hb0 : 0 ≤ b - 48 := by omega
  have HOV : Hid (v * 10 / 18446744073709551616 = 0 → ((v * 10 % 18446744073709551616 + (b - 48)) / 18446744073709551616 != 0) = decide (18446744073709551615 < v * 10 + (b - 48))) := fun h => by
    rw [Bool.eq_iff_iff]
    simp
    omega
  unfold encN
  cases d
  all_goals
    cases wr
    all_goals
      go_enter Tryd.func33, Tryd.ntmps33
      go_wp2_with (first | (go_at_call 38; refine (mul64 _ h0 h1 _).mono ?_; rintro e w' ⟨rfl, rfl⟩) | simp only [add64 _ _ hm0 hb0])
      all_goals
        simp [bodyPost, results, Tryd.results33, go_sem]
        refine ⟨?_, ((Below.refl _ _).alloc (Nat.le_refl _) _).alloc (by simp) _⟩
        simp [Num.step]
        first | done | omega | rw [HOV.out (by assumption)]
end Go.Proofs.YtolampkhohahlaaDoor.g3
