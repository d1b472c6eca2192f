/- Contracts of package hatstandref3, on: Digits, over this seat's program. -/
import Derived.Test.YtolampkhohahlaaDoorGlyphU
namespace Go.Proofs.YtolampkhohahlaaDoor.g3
open Go.ChangeShapes Go.WideShapes Go.ChangeAt Go.RowKit frame lift gl own
set_option linter.unusedVariables false
theorem digF_fuel (f : Nat) : ∀ (g n : Nat), 0 < f → 0 < g → n < 10 ^ f → n < 10 ^ g → digF f n = digF g n := by
  induction f with
  | zero => intro g n h; omega
  | succ f ih =>
    intro g n _ hg h h'
    cases g with
    | zero => omega
    | succ g =>
      rw [digF, digF]
      split
      · rfl
      · have pos : ∀ f, n / 10 < 10 ^ f → 0 < f := fun f hf => by
          rcases Nat.eq_zero_or_pos f with e | e
          · subst e; simp at hf; omega
          · exact e
        have a1 : n / 10 < 10 ^ f := by rw [Nat.pow_succ] at h; omega
        have a2 : n / 10 < 10 ^ g := by rw [Nat.pow_succ] at h'; omega
        rw [ih g (n / 10) (pos f a1) (pos g a2) a1 a2]
theorem slice_dig0 (w : World) : (Instr.slice 9 (.string ⟨#[48, 49, 50, 51, 52, 53, 54, 55, 56, 57]⟩) (some (.int .u64 ((0 : Nat) : Int))) (some (.int .u64 (((0 : Nat) : Int) + 1))) none).run Tryd.prog w = .ok (.string (digS 0)) w := by kernel_rfl
theorem slice_dig1 (w : World) : (Instr.slice 9 (.string ⟨#[48, 49, 50, 51, 52, 53, 54, 55, 56, 57]⟩) (some (.int .u64 ((1 : Nat) : Int))) (some (.int .u64 (((1 : Nat) : Int) + 1))) none).run Tryd.prog w = .ok (.string (digS 1)) w := by kernel_rfl
theorem slice_dig2 (w : World) : (Instr.slice 9 (.string ⟨#[48, 49, 50, 51, 52, 53, 54, 55, 56, 57]⟩) (some (.int .u64 ((2 : Nat) : Int))) (some (.int .u64 (((2 : Nat) : Int) + 1))) none).run Tryd.prog w = .ok (.string (digS 2)) w := by kernel_rfl
theorem slice_dig3 (w : World) : (Instr.slice 9 (.string ⟨#[48, 49, 50, 51, 52, 53, 54, 55, 56, 57]⟩) (some (.int .u64 ((3 : Nat) : Int))) (some (.int .u64 (((3 : Nat) : Int) + 1))) none).run Tryd.prog w = .ok (.string (digS 3)) w := by kernel_rfl
theorem slice_dig4 (w : World) : (Instr.slice 9 (.string ⟨#[48, 49, 50, 51, 52, 53, 54, 55, 56, 57]⟩) (some (.int .u64 ((4 : Nat) : Int))) (some (.int .u64 (((4 : Nat) : Int) + 1))) none).run Tryd.prog w = .ok (.string (digS 4)) w := by kernel_rfl
theorem slice_dig5 (w : World) : (Instr.slice 9 (.string ⟨#[48, 49, 50, 51, 52, 53, 54, 55, 56, 57]⟩) (some (.int .u64 ((5 : Nat) : Int))) (some (.int .u64 (((5 : Nat) : Int) + 1))) none).run Tryd.prog w = .ok (.string (digS 5)) w := by kernel_rfl
theorem slice_dig6 (w : World) : (Instr.slice 9 (.string ⟨#[48, 49, 50, 51, 52, 53, 54, 55, 56, 57]⟩) (some (.int .u64 ((6 : Nat) : Int))) (some (.int .u64 (((6 : Nat) : Int) + 1))) none).run Tryd.prog w = .ok (.string (digS 6)) w := by kernel_rfl
theorem slice_dig7 (w : World) : (Instr.slice 9 (.string ⟨#[48, 49, 50, 51, 52, 53, 54, 55, 56, 57]⟩) (some (.int .u64 ((7 : Nat) : Int))) (some (.int .u64 (((7 : Nat) : Int) + 1))) none).run Tryd.prog w = .ok (.string (digS 7)) w := by kernel_rfl
theorem slice_dig8 (w : World) : (Instr.slice 9 (.string ⟨#[48, 49, 50, 51, 52, 53, 54, 55, 56, 57]⟩) (some (.int .u64 ((8 : Nat) : Int))) (some (.int .u64 (((8 : Nat) : Int) + 1))) none).run Tryd.prog w = .ok (.string (digS 8)) w := by kernel_rfl
theorem slice_dig9 (w : World) : (Instr.slice 9 (.string ⟨#[48, 49, 50, 51, 52, 53, 54, 55, 56, 57]⟩) (some (.int .u64 ((9 : Nat) : Int))) (some (.int .u64 (((9 : Nat) : Int) + 1))) none).run Tryd.prog w = .ok (.string (digS 9)) w := by kernel_rfl
theorem slice_dig (k : Nat) (hk : k ≤ 9) (w : World) : (Instr.slice 9 (.string ⟨#[48, 49, 50, 51, 52, 53, 54, 55, 56, 57]⟩) (some (.int .u64 (k : Int))) (some (.int .u64 ((k : Int) + 1))) none).run Tryd.prog w = .ok (.string (digS k)) w :=
  match k, hk with
  | 0, _ => slice_dig0 w
  | 1, _ => slice_dig1 w
  | 2, _ => slice_dig2 w
  | 3, _ => slice_dig3 w
  | 4, _ => slice_dig4 w
  | 5, _ => slice_dig5 w
  | 6, _ => slice_dig6 w
  | 7, _ => slice_dig7 w
  | 8, _ => slice_dig8 w
  | 9, _ => slice_dig9 w
  | k + 10, h => absurd h (by omega)
/-- The digits of what is left. -/
def dg (m : Nat) : Bs := if m = 0 then [] else digF 20 m
theorem dg_step (m : Nat) (h : 0 < m) (h1 : m ≤ 18446744073709551615) : dg m = dg (m / 10) ++ [48 + ((m % 10 : Nat) : Int)] := by
  unfold dg
  rw [if_neg (by omega)]
  by_cases hm : m < 10
  · rw [if_pos (by omega), digF, if_pos hm, Nat.mod_eq_of_lt hm]
    rfl
  · rw [if_neg (by omega), digF, if_neg hm, digF_fuel 19 20 (m / 10) (by omega) (by omega) (by omega) (by omega)]
theorem digits_step (m : Nat) (h1 : m ≤ 18446744073709551615) : digits m = dg (m / 10) ++ [48 + ((m % 10 : Nat) : Int)] := by
  by_cases h : m = 0
  · subst h; rfl
  · rw [← dg_step m (by omega) h1]
    unfold dg digits
    rw [if_neg h]
    rfl
set_option maxRecDepth 100000 in
set_option maxHeartbeats 1000000 in
theorem digits_any (n : Int) (h0 : 0 ≤ n) (h1 : n ≤ 18446744073709551615) (w : World) : Calls Tryd.prog 22 #[.int .u64 n] w (StrPost w (digits n)) := by
  obtain ⟨m, rfl⟩ : ∃ m : Nat, n = m := ⟨n.toNat, by omega⟩
  have hm1 : m ≤ 18446744073709551615 := by omega
  have HD := Lib.hid (digits_step m hm1)
  obtain ⟨k, hk⟩ : ∃ k : Nat, m % 10 = k := ⟨_, rfl⟩
  have hk9 : k ≤ 9 := by omega
  have hsl := slice_dig k hk9
  have HB := Lib.hid (digS_bytes k hk9)
  rw [hk] at HD
  have hki : (m : Int) % 10 = (k : Int) := by omega
  have hk9i : (k : Int) ≤ 9 := by omega
  clear hm1 hk
  go_enter Tryd.func22, Tryd.ntmps22
  go_wp2_with fail
  go_loop [0, 3] (fun x s => ∃ (r : Nat) (t : ByteArray), r ≤ 1844674407370955161 ∧ x = .int .u64 r ∧ s = .string t ∧ Hid (digits m = dg r ++ bytes t)) (fun x _ => (intOf x).toNat)
  case atStart => exact ⟨m / 10, _, by omega, by rw [Int.natCast_ediv]; rfl, rfl, by unfold Hid; rw [HD.out, HB.out]⟩
  case round =>
    obtain ⟨r, t, hr, rfl, rfl, HR⟩ := hrel
    clear hsl hki
    by_cases hr0 : 0 < r
    · have hd2 := dg_step r hr0 (by omega)
      obtain ⟨q, hq⟩ : ∃ q : Nat, r % 10 = q := ⟨_, rfl⟩
      have hq9 : q ≤ 9 := by omega
      have hsl := slice_dig q hq9
      have HB2 := Lib.hid (digS_bytes q hq9)
      rw [hq] at hd2
      have HD2 := Lib.hid hd2
      have hqi : (r : Int) % 10 = (q : Int) := by omega
      have hq9i : (q : Int) ≤ 9 := by omega
      clear hd2 hq
      have hri : (0 : Int) < (r : Int) := by omega
      have ht : t.size ≤ 20 := by
        have h1 := congrArg List.length HR.out
        rw [List.length_append, bytes_len] at h1
        have h2 : (digits m).length ≤ 20 := digF_len 20 _
        omega
      have hds : (digS q).size = 1 := rfl
      go_wp2_with fail
      go_round
      case rel => exact ⟨r / 10, _, by omega, by rw [Int.natCast_ediv]; rfl, rfl, by unfold Hid; rw [HR.out, HD2.out, bytes_app, HB2.out, List.append_assoc]⟩
      case measure => simp [intOf]; omega
    · obtain rfl : r = 0 := by omega
      have HF : Hid (bytes t = digits m) := by unfold Hid; rw [HR.out]; rfl
      go_wp2_with fail
      go_ret
      exact ⟨Below.refl _ _, t, rfl, HF.out⟩
end Go.Proofs.YtolampkhohahlaaDoor.g3
