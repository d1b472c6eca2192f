/- What a range over a string reads is the rune that the bytes begin with. -/
import Derived.Test.YtolampkhohahlaaDoorGlyphB
import Derived.Laws.RangeAny
import Derived.Lib.OthersKept
namespace Go.Proofs.YtolampkhohahlaaDoor.g3
open Go.ChangeShapes Go.WideShapes Go.ChangeAt Go.RowKit frame lift gl own
theorem bt_drop (s : ByteArray) (pos k : Nat) : bt ((bytes s).drop pos) k = if pos + k < s.size then ((s.get! (pos + k)).toNat : Int) else -1 := by
  have e : bt ((bytes s).drop pos) k = bt (bytes s) (pos + k) := by simp [bt, List.getD]
  rw [e]
  split
  · rename_i h
    rw [bytes_at s _ h]
    have := get_at s (pos + k) h
    rw [Nat.add_zero] at this
    rw [this]
  · rename_i h
    have hl : (bytes s).length ≤ pos + k := by rw [bytes_len]; omega
    simp [bt, List.getD, hl]
theorem decode_rune (s : ByteArray) (pos : Nat) (h : pos < s.size) : ((Utf8.decode s pos).1 : Int) = (rune ((bytes s).drop pos)).1 ∧ (Utf8.decode s pos).2 = (rune ((bytes s).drop pos)).2 := by
  have b0 := bt_drop s pos 0
  have b1 := bt_drop s pos 1
  have b2 := bt_drop s pos 2
  have b3 := bt_drop s pos 3
  rw [if_pos (by omega)] at b0
  unfold rune inn
  rw [b0, b1, b2, b3]
  unfold Utf8.decode
  dsimp only
  have l0 := (s.get! (pos + 0)).toNat_lt
  have l1 := (s.get! (pos + 1)).toNat_lt
  have l2 := (s.get! (pos + 2)).toNat_lt
  have l3 := (s.get! (pos + 3)).toNat_lt
  obtain ⟨a0, ea0⟩ : ∃ a, (s.get! (pos + 0)).toNat = a := ⟨_, rfl⟩
  obtain ⟨a1, ea1⟩ : ∃ a, (s.get! (pos + 1)).toNat = a := ⟨_, rfl⟩
  obtain ⟨a2, ea2⟩ : ∃ a, (s.get! (pos + 2)).toNat = a := ⟨_, rfl⟩
  obtain ⟨a3, ea3⟩ : ∃ a, (s.get! (pos + 3)).toNat = a := ⟨_, rfl⟩
  rw [ea0] at l0; rw [ea1] at l1; rw [ea2] at l2; rw [ea3] at l3
  simp only [ea0, ea1, ea2, ea3]
  clear b0 b1 b2 b3 ea0 ea1 ea2 ea3
  have q1 : (pos + 1 < s.size) ∨ ¬ (pos + 1 < s.size) := Decidable.em _
  by_cases c0 : a0 < 128
  · rw [if_pos c0, if_pos (show ((a0 : Int) < 128) by omega)]
    exact ⟨rfl, rfl⟩
  · rw [if_neg c0, if_neg (show ¬ ((a0 : Int) < 128) by omega)]
    by_cases c1 : 192 ≤ a0 ∧ a0 ≤ 223
    · have e1 : (a0 / 32 == 6) = true := by rw [beq_iff_eq]; omega
      rw [e1]
      by_cases p1 : pos + 1 < s.size
      · simp only [p1, if_true, decide_true, Bool.true_and]
        by_cases d1 : 128 ≤ a1 ∧ a1 ≤ 191
        · have e2 : (a1 / 64 == 2) = true := by rw [beq_iff_eq]; omega
          rw [e2, if_pos rfl]
          have e3 : (decide ((128 : Int) ≤ (a1 : Int)) && decide ((a1 : Int) ≤ 191)) = true := by simp; omega
          rw [e3]
          by_cases d2 : 194 ≤ a0
          · rw [if_pos (show (a0 % 32 * 64 + a1 % 64 ≥ 128) by omega), if_pos (show ((194 : Int) ≤ (a0 : Int) ∧ (a0 : Int) ≤ 223) by omega)]
            simp only [cond_true]
            constructor
            · omega
            · trivial
          · rw [if_neg (show ¬ (a0 % 32 * 64 + a1 % 64 ≥ 128) by omega), if_neg (show ¬ ((194 : Int) ≤ (a0 : Int) ∧ (a0 : Int) ≤ 223) by omega), if_neg (show ¬ ((224 : Int) ≤ (a0 : Int) ∧ (a0 : Int) ≤ 239) by omega), if_neg (show ¬ ((240 : Int) ≤ (a0 : Int) ∧ (a0 : Int) ≤ 244) by omega)]
            exact ⟨rfl, rfl⟩
        · have e2 : (a1 / 64 == 2) = false := by rw [beq_eq_false_iff_ne]; omega
          have e3 : (decide ((128 : Int) ≤ (a1 : Int)) && decide ((a1 : Int) ≤ 191)) = false := by
            rw [Bool.and_eq_false_iff]; simp; omega
          have e4 : (a0 / 16 == 14) = false := by rw [beq_eq_false_iff_ne]; omega
          have e5 : (a0 / 8 == 30) = false := by rw [beq_eq_false_iff_ne]; omega
          rw [e2, e3, e4, e5]
          simp only [Bool.false_and, Bool.false_eq_true, if_false, cond_false]
          split
          · exact ⟨rfl, rfl⟩
          · rw [if_neg (show ¬ ((224 : Int) ≤ (a0 : Int) ∧ (a0 : Int) ≤ 239) by omega), if_neg (show ¬ ((240 : Int) ≤ (a0 : Int) ∧ (a0 : Int) ≤ 244) by omega)]
            exact ⟨rfl, rfl⟩
      · have e4 : (a0 / 16 == 14) = false := by rw [beq_eq_false_iff_ne]; omega
        have e5 : (a0 / 8 == 30) = false := by rw [beq_eq_false_iff_ne]; omega
        rw [e4, e5]
        simp only [p1, if_false, decide_false, Bool.false_and, Bool.and_false, Bool.false_eq_true]
        rw [show (decide ((128 : Int) ≤ -1) && decide ((-1 : Int) ≤ 191)) = false by decide]
        simp only [cond_false]
        split
        · exact ⟨rfl, rfl⟩
        · rw [if_neg (show ¬ ((224 : Int) ≤ (a0 : Int) ∧ (a0 : Int) ≤ 239) by omega), if_neg (show ¬ ((240 : Int) ≤ (a0 : Int) ∧ (a0 : Int) ≤ 244) by omega)]
          exact ⟨rfl, rfl⟩
    · have e1 : (a0 / 32 == 6) = false := by rw [beq_eq_false_iff_ne]; omega
      rw [e1, if_neg (show ¬ ((194 : Int) ≤ (a0 : Int) ∧ (a0 : Int) ≤ 223) by omega)]
      simp only [Bool.false_and, Bool.false_eq_true, if_false]
      by_cases c2 : 224 ≤ a0 ∧ a0 ≤ 239
      · have e4 : (a0 / 16 == 14) = true := by rw [beq_iff_eq]; omega
        have e5 : (a0 / 8 == 30) = false := by rw [beq_eq_false_iff_ne]; omega
        rw [e4, e5, if_pos (show ((224 : Int) ≤ (a0 : Int) ∧ (a0 : Int) ≤ 239) by omega)]
        simp only [Bool.true_and, Bool.false_and, Bool.false_eq_true, if_false]
        by_cases p1 : pos + 1 < s.size
        · by_cases p2 : pos + 2 < s.size
          · simp only [p1, p2, if_true, decide_true, Bool.true_and]
            by_cases d1 : (128 ≤ a1 ∧ a1 ≤ 191) ∧ 128 ≤ a2 ∧ a2 ≤ 191
            · have e2 : (a1 / 64 == 2) = true := by rw [beq_iff_eq]; omega
              have e3 : (a2 / 64 == 2) = true := by rw [beq_iff_eq]; omega
              have e7 : (decide ((128 : Int) ≤ (a2 : Int)) && decide ((a2 : Int) ≤ 191)) = true := by simp; omega
              rw [e2, e3, e7]
              simp only [Bool.and_self, if_true, Bool.and_true]
              by_cases d2 : lo2 (a0 : Int) ≤ (a1 : Int) ∧ (a1 : Int) ≤ hi2 (a0 : Int)
              · rw [show (decide (lo2 (a0 : Int) ≤ (a1 : Int)) && decide ((a1 : Int) ≤ hi2 (a0 : Int))) = true by simp; exact d2]
                have dl := d2.1; have dh := d2.2
                unfold lo2 at dl
                unfold hi2 at dh
                rw [if_pos]
                · simp only [cond_true]
                  constructor
                  · omega
                  · trivial
                · simp [Utf8.valid]
                  split at dl <;> split at dh <;> omega
              · rw [show (decide (lo2 (a0 : Int) ≤ (a1 : Int)) && decide ((a1 : Int) ≤ hi2 (a0 : Int))) = false by rw [Bool.and_eq_false_iff]; simp; omega]
                unfold lo2 hi2 at d2
                rw [if_neg]
                · exact ⟨rfl, rfl⟩
                · simp [Utf8.valid]
                  split at d2 <;> split at d2 <;> omega
            · have hl := lo2_ge (a0 : Int)
              have hh : hi2 (a0 : Int) ≤ 191 := by unfold hi2; split <;> omega
              rw [show (a1 / 64 == 2 && a2 / 64 == 2) = false by rw [Bool.and_eq_false_iff, beq_eq_false_iff_ne, beq_eq_false_iff_ne]; omega]
              rw [show (decide (lo2 (a0 : Int) ≤ (a1 : Int)) && decide ((a1 : Int) ≤ hi2 (a0 : Int)) && (decide ((128 : Int) ≤ (a2 : Int)) && decide ((a2 : Int) ≤ 191))) = false by
                rw [Bool.and_eq_false_iff, Bool.and_eq_false_iff, Bool.and_eq_false_iff]; simp; omega]
              exact ⟨rfl, rfl⟩
          · simp only [p2, if_false, decide_false, Bool.false_and, Bool.and_false, Bool.false_eq_true]
            rw [show (decide ((128 : Int) ≤ -1) && decide ((-1 : Int) ≤ 191)) = false by decide, Bool.and_false]
            exact ⟨rfl, rfl⟩
        · have hl := lo2_ge (a0 : Int)
          simp only [p1, if_false, decide_false, Bool.false_and, Bool.false_eq_true]
          rw [show decide (lo2 (a0 : Int) ≤ -1) = false by simp; omega, Bool.false_and, Bool.false_and]
          exact ⟨rfl, rfl⟩
      · have e4 : (a0 / 16 == 14) = false := by rw [beq_eq_false_iff_ne]; omega
        rw [e4, if_neg (show ¬ ((224 : Int) ≤ (a0 : Int) ∧ (a0 : Int) ≤ 239) by omega)]
        simp only [Bool.false_and, Bool.false_eq_true, if_false]
        by_cases c3 : 240 ≤ a0 ∧ a0 ≤ 247
        · have e5 : (a0 / 8 == 30) = true := by rw [beq_iff_eq]; omega
          rw [e5]
          simp only [Bool.true_and]
          by_cases p1 : pos + 1 < s.size
          · by_cases p2 : pos + 2 < s.size
            · by_cases p3 : pos + 3 < s.size
              · simp only [p1, p2, p3, if_true, decide_true, Bool.true_and]
                by_cases d1 : (128 ≤ a1 ∧ a1 ≤ 191) ∧ (128 ≤ a2 ∧ a2 ≤ 191) ∧ 128 ≤ a3 ∧ a3 ≤ 191
                · have e2 : (a1 / 64 == 2) = true := by rw [beq_iff_eq]; omega
                  have e3 : (a2 / 64 == 2) = true := by rw [beq_iff_eq]; omega
                  have e6 : (a3 / 64 == 2) = true := by rw [beq_iff_eq]; omega
                  have e7 : (decide ((128 : Int) ≤ (a2 : Int)) && decide ((a2 : Int) ≤ 191)) = true := by simp; omega
                  have e8 : (decide ((128 : Int) ≤ (a3 : Int)) && decide ((a3 : Int) ≤ 191)) = true := by simp; omega
                  rw [e2, e3, e6, e7, e8]
                  simp only [Bool.and_self, if_true, Bool.and_true]
                  by_cases d3 : a0 ≤ 244
                  · rw [if_pos (by omega : (240 : Int) ≤ (a0 : Int) ∧ (a0 : Int) ≤ 244)]
                    by_cases d2 : lo3 (a0 : Int) ≤ (a1 : Int) ∧ (a1 : Int) ≤ hi3 (a0 : Int)
                    · rw [show (decide (lo3 (a0 : Int) ≤ (a1 : Int)) && decide ((a1 : Int) ≤ hi3 (a0 : Int))) = true by simp; exact d2]
                      have dl := d2.1; have dh := d2.2
                      unfold lo3 at dl
                      unfold hi3 at dh
                      rw [if_pos]
                      · simp only [cond_true]
                        constructor
                        · omega
                        · trivial
                      · simp [Utf8.valid]
                        split at dl <;> split at dh <;> omega
                    · rw [show (decide (lo3 (a0 : Int) ≤ (a1 : Int)) && decide ((a1 : Int) ≤ hi3 (a0 : Int))) = false by rw [Bool.and_eq_false_iff]; simp; omega]
                      unfold lo3 hi3 at d2
                      rw [if_neg]
                      · exact ⟨rfl, rfl⟩
                      · simp [Utf8.valid]
                        split at d2 <;> split at d2 <;> omega
                  · rw [if_neg (by omega : ¬ ((240 : Int) ≤ (a0 : Int) ∧ (a0 : Int) ≤ 244)), if_neg]
                    · exact ⟨rfl, rfl⟩
                    · simp [Utf8.valid]
                      omega
                · have hl := lo3_ge (a0 : Int)
                  have hh : hi3 (a0 : Int) ≤ 191 := by unfold hi3; split <;> omega
                  rw [show (a1 / 64 == 2 && a2 / 64 == 2 && a3 / 64 == 2) = false by rw [Bool.and_eq_false_iff, Bool.and_eq_false_iff, beq_eq_false_iff_ne, beq_eq_false_iff_ne, beq_eq_false_iff_ne]; omega]
                  rw [show (decide (lo3 (a0 : Int) ≤ (a1 : Int)) && decide ((a1 : Int) ≤ hi3 (a0 : Int)) && (decide ((128 : Int) ≤ (a2 : Int)) && decide ((a2 : Int) ≤ 191)) && (decide ((128 : Int) ≤ (a3 : Int)) && decide ((a3 : Int) ≤ 191))) = false by
                    rw [Bool.and_eq_false_iff, Bool.and_eq_false_iff, Bool.and_eq_false_iff, Bool.and_eq_false_iff, Bool.and_eq_false_iff]; simp; omega]
                  simp only [Bool.false_eq_true, if_false, cond_false]
                  split <;> exact ⟨rfl, rfl⟩
              · simp only [p3, if_false, decide_false, Bool.false_and, Bool.and_false, Bool.false_eq_true]
                rw [show (decide ((128 : Int) ≤ -1) && decide ((-1 : Int) ≤ 191)) = false by decide, Bool.and_false]
                split <;> exact ⟨rfl, rfl⟩
            · simp only [p2, if_false, decide_false, Bool.false_and, Bool.and_false, Bool.false_eq_true]
              rw [show (decide ((128 : Int) ≤ -1) && decide ((-1 : Int) ≤ 191)) = false by decide, Bool.and_false, Bool.false_and]
              split <;> exact ⟨rfl, rfl⟩
          · have hl := lo3_ge (a0 : Int)
            simp only [p1, if_false, decide_false, Bool.false_and, Bool.false_eq_true]
            rw [show decide (lo3 (a0 : Int) ≤ -1) = false by simp; omega, Bool.false_and, Bool.false_and, Bool.false_and]
            split <;> exact ⟨rfl, rfl⟩
        · have e5 : (a0 / 8 == 30) = false := by rw [beq_eq_false_iff_ne]; omega
          rw [e5]
          simp only [Bool.false_and, Bool.false_eq_true, if_false]
          rw [if_neg (show ¬ ((240 : Int) ≤ (a0 : Int) ∧ (a0 : Int) ≤ 244) by omega)]
          exact ⟨rfl, rfl⟩
end Go.Proofs.YtolampkhohahlaaDoor.g3
