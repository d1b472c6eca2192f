/- Contracts of package hatstandref3, over this seat's program. -/
import Derived.Test.YtolampkhohahlaaDoorGlyphB
namespace Go.Proofs.YtolampkhohahlaaDoor.g3
open Go.ChangeShapes Go.WideShapes Go.ChangeAt Go.RowKit frame lift gl
set_option linter.unusedVariables false
theorem next_any (s : ByteArray) (i : Nat) (lo hi : Int) (hs : s.size ≤ maxLen) (hi0 : i ≤ 100) (hlo : 0 ≤ lo) (w : World) :
    Calls Tryd.prog 34 #[.string s, .int .i64 i, .int .u8 lo, .int .u8 hi] w fun e w' => e = .returned (.bool (inn (bytes s) i lo hi)) ∧ w = w' := by
  unfold maxLen at hs
  by_cases h : i < s.size
  · have e := bytes_at s i h
    by_cases h1 : lo ≤ (s[i].toNat : Int)
    · have H : Hid (inn (bytes s) i lo hi = decide ((s[i].toNat : Int) ≤ hi)) := by unfold Hid inn; rw [e]; simp [h1]
      clear e
      go_enter Tryd.func34, Tryd.ntmps34
      go_wp2_with fail
      go_ret
      rw [H.out]
      exact ⟨rfl, rfl⟩
    · have H : Hid (inn (bytes s) i lo hi = false) := by unfold Hid inn; rw [e]; simp; omega
      clear e
      go_enter Tryd.func34, Tryd.ntmps34
      go_wp2_with fail
      go_ret
      rw [H.out]
      exact ⟨rfl, rfl⟩
  · have H : Hid (inn (bytes s) i lo hi = false) := inn_out _ i (by rw [bytes_len]; omega) _ _ (by omega)
    go_enter Tryd.func34, Tryd.ntmps34
    go_wp2_with fail
    go_ret
    rw [H.out]
    exact ⟨rfl, rfl⟩
def RuneSaid (s : ByteArray) (w : World) : Prop := Calls Tryd.prog 28 #[.string s] w fun e w' => e = .returned (.tuple #[.int .i64 (rune (bytes s)).1, .int .i64 (rune (bytes s)).2]) ∧ Below w.heap.size w w'
theorem rune_A {s : ByteArray} (hs : s.size ≤ maxLen) (h0 : 0 < s.size) (w : World) (c : Int) (hc : (s[0].toNat : Int) = c) (hA : c < 128) : RuneSaid s w := by
  have hb := byte_bd s 0 h0
  have H : Hid (rune (bytes s) = (c, 1)) := by unfold Hid rune; rw [bytes_at s 0 h0, hc, if_pos hA]
  rw [hc] at hb
  unfold maxLen at hs
  unfold RuneSaid
  go_enter Tryd.func28, Tryd.ntmps28
  go_wp2_with fail
  go_ret2
  rw [H.out]
  exact ⟨rfl, Below.refl _ _⟩
theorem rune_E {s : ByteArray} (hs : s.size ≤ maxLen) (h0 : 0 < s.size) (w : World) (c : Int) (hc : (s[0].toNat : Int) = c) (hA : (128 ≤ c ∧ c < 194) ∨ 244 < c) : RuneSaid s w := by
  have hb := byte_bd s 0 h0
  have H : Hid (rune (bytes s) = (65533, 1)) := by
    unfold Hid rune
    rw [bytes_at s 0 h0, hc]
    dsimp only
    rw [if_neg (by omega), if_neg (by omega), if_neg (by omega), if_neg (by omega)]
  rw [hc] at hb
  unfold maxLen at hs
  unfold RuneSaid
  rcases hA with ⟨hA, hA'⟩ | hA <;>
  · go_enter Tryd.func28, Tryd.ntmps28
    go_wp2_with fail
    go_ret2
    rw [H.out]
    exact ⟨rfl, Below.refl _ _⟩
theorem rune_B {s : ByteArray} (hs : s.size ≤ maxLen) (h0 : 0 < s.size) (w : World) (c : Int) (hc : (s[0].toNat : Int) = c) (hA : 194 ≤ c ∧ c ≤ 223) : RuneSaid s w := by
  have hb := byte_bd s 0 h0
  obtain ⟨hA1, hA2⟩ := hA
  have HS := Lib.hid hs
  cases hn : inn (bytes s) 1 128 191 with
  | false =>
    have H : Hid (rune (bytes s) = (65533, 1)) := by
      unfold Hid rune
      rw [bytes_at s 0 h0, hc]
      dsimp only
      rw [if_neg (by omega), if_pos (by omega), hn]
      rfl
    have HN := Lib.hid hn; clear hn
    rw [hc] at hb
    unfold maxLen at hs
    unfold RuneSaid
    go_enter Tryd.func28, Tryd.ntmps28
    go_wp2_with fail
    refine (next_any s 1 128 191 HS.out (by omega) (by omega) _).mono ?_
    rintro e w' ⟨he, rfl⟩
    rw [HN.out] at he
    subst he
    go_wp2_with fail
    go_ret2
    rw [H.out]
    exact ⟨rfl, Below.refl _ _⟩
  | true =>
    have h1 : 1 < s.size := by rw [← bytes_len]; exact inn_lt hn (by omega)
    obtain ⟨b1, hb1⟩ : ∃ b1, (s[1].toNat : Int) = b1 := ⟨_, rfl⟩
    have H : Hid (rune (bytes s) = ((c - 192) * 64 + (b1 - 128), 2)) := by
      unfold Hid rune
      rw [bytes_at s 0 h0, hc, bytes_at s 1 h1, hb1]
      dsimp only
      rw [if_neg (by omega), if_pos (by omega), hn]
      rfl
    have hq : 128 ≤ b1 ∧ b1 ≤ 191 := by
      unfold inn at hn
      rw [bytes_at s 1 h1, hb1] at hn
      simpa using hn
    obtain ⟨hq1, hq2⟩ := hq
    have HN := Lib.hid hn; clear hn
    rw [hc] at hb
    unfold maxLen at hs
    unfold RuneSaid
    go_enter Tryd.func28, Tryd.ntmps28
    go_wp2_with fail
    refine (next_any s 1 128 191 HS.out (by omega) (by omega) _).mono ?_
    rintro e w' ⟨he, rfl⟩
    rw [HN.out] at he
    subst he
    go_wp2_with fail
    go_ret2
    rw [H.out]
    exact ⟨rfl, Below.refl _ _⟩
set_option maxRecDepth 100000 in
set_option maxHeartbeats 2000000 in
theorem rune_C0 {s : ByteArray} (hs : s.size ≤ maxLen) (h0 : 0 < s.size) (w : World) (c : Int) (hc : (s[0].toNat : Int) = c) (hA : c = 224) : RuneSaid s w := by
  subst hA
  have hL1 : lo2 224 = 160 := rfl
  have hL2 : hi2 224 = 191 := rfl
  have hb := byte_bd s 0 h0
  have HS := Lib.hid hs
  have hR : rune (bytes s) = bif inn (bytes s) 1 160 191 && inn (bytes s) 2 128 191 then (((224 : Int) - 224) * 4096 + (bt (bytes s) 1 - 128) * 64 + (bt (bytes s) 2 - 128), 3) else (65533, 1) := by
    unfold rune
    rw [bytes_at s 0 h0, hc]
    dsimp only
    rw [if_neg (by omega), if_neg (by omega), if_pos (by omega), hL1, hL2]
  rw [hc] at hb
  clear hL1 hL2
  cases hn1 : inn (bytes s) 1 160 191 with
  | false =>
    have H : Hid (rune (bytes s) = (65533, 1)) := by unfold Hid; rw [hR, hn1]; simp
    have HN1 := Lib.hid hn1
    clear hR hn1
    unfold maxLen at hs
    unfold RuneSaid
    go_enter Tryd.func28, Tryd.ntmps28
    go_wp2_with fail
    refine (next_any s 1 160 191 HS.out (by omega) (by omega) _).mono ?_
    rintro e w' ⟨he, rfl⟩
    rw [HN1.out] at he
    subst he
    go_wp2_with fail
    go_ret2
    rw [H.out]
    exact ⟨rfl, Below.refl _ _⟩
  | true =>
    cases hn2 : inn (bytes s) 2 128 191 with
    | false =>
      have H : Hid (rune (bytes s) = (65533, 1)) := by unfold Hid; rw [hR, hn1, hn2]; simp
      have HN1 := Lib.hid hn1
      have HN2 := Lib.hid hn2
      clear hR hn1 hn2
      unfold maxLen at hs
      unfold RuneSaid
      go_enter Tryd.func28, Tryd.ntmps28
      go_wp2_with fail
      refine (next_any s 1 160 191 HS.out (by omega) (by omega) _).mono ?_
      rintro e w' ⟨he, rfl⟩
      rw [HN1.out] at he
      subst he
      go_wp2_with fail
      refine (next_any s 2 128 191 HS.out (by omega) (by omega) _).mono ?_
      rintro e w' ⟨he, rfl⟩
      rw [HN2.out] at he
      subst he
      go_wp2_with fail
      go_ret2
      rw [H.out]
      exact ⟨rfl, Below.refl _ _⟩
    | true =>
      have h1 : 1 < s.size := by rw [← bytes_len]; exact inn_lt hn1 (by omega)
      obtain ⟨b1, hb1⟩ : ∃ b1, (s[1].toNat : Int) = b1 := ⟨_, rfl⟩
      have h2 : 2 < s.size := by rw [← bytes_len]; exact inn_lt hn2 (by omega)
      obtain ⟨b2, hb2⟩ : ∃ b2, (s[2].toNat : Int) = b2 := ⟨_, rfl⟩
      have H : Hid (rune (bytes s) = ((b1 - 128) * 64 + (b2 - 128), 3)) := by unfold Hid; rw [hR, hn1, hn2, bytes_at s 1 h1, hb1, bytes_at s 2 h2, hb2]; simp
      have hq1 : 160 ≤ b1 ∧ b1 ≤ 191 := by
        have hn := hn1
        unfold inn at hn
        rw [bytes_at s 1 h1, hb1] at hn
        simpa using hn
      obtain ⟨hq1a, hq1b⟩ := hq1
      have hq2 : 128 ≤ b2 ∧ b2 ≤ 191 := by
        have hn := hn2
        unfold inn at hn
        rw [bytes_at s 2 h2, hb2] at hn
        simpa using hn
      obtain ⟨hq2a, hq2b⟩ := hq2
      have HN1 := Lib.hid hn1
      have HN2 := Lib.hid hn2
      clear hR hn1 hn2
      unfold maxLen at hs
      unfold RuneSaid
      go_enter Tryd.func28, Tryd.ntmps28
      go_wp2_with fail
      refine (next_any s 1 160 191 HS.out (by omega) (by omega) _).mono ?_
      rintro e w' ⟨he, rfl⟩
      rw [HN1.out] at he
      subst he
      go_wp2_with fail
      refine (next_any s 2 128 191 HS.out (by omega) (by omega) _).mono ?_
      rintro e w' ⟨he, rfl⟩
      rw [HN2.out] at he
      subst he
      go_wp2_with fail
      go_quiet (fail)
      go_wp2_with fail
      go_ret2
      rw [H.out]
      exact ⟨rfl, drewN_below (Below.refl _ _) _⟩
set_option maxRecDepth 100000 in
set_option maxHeartbeats 2000000 in
theorem rune_C1 {s : ByteArray} (hs : s.size ≤ maxLen) (h0 : 0 < s.size) (w : World) (c : Int) (hc : (s[0].toNat : Int) = c) (hA : c = 237) : RuneSaid s w := by
  subst hA
  have hL1 : lo2 237 = 128 := rfl
  have hL2 : hi2 237 = 159 := rfl
  have hb := byte_bd s 0 h0
  have HS := Lib.hid hs
  have hR : rune (bytes s) = bif inn (bytes s) 1 128 159 && inn (bytes s) 2 128 191 then (((237 : Int) - 224) * 4096 + (bt (bytes s) 1 - 128) * 64 + (bt (bytes s) 2 - 128), 3) else (65533, 1) := by
    unfold rune
    rw [bytes_at s 0 h0, hc]
    dsimp only
    rw [if_neg (by omega), if_neg (by omega), if_pos (by omega), hL1, hL2]
  rw [hc] at hb
  clear hL1 hL2
  cases hn1 : inn (bytes s) 1 128 159 with
  | false =>
    have H : Hid (rune (bytes s) = (65533, 1)) := by unfold Hid; rw [hR, hn1]; simp
    have HN1 := Lib.hid hn1
    clear hR hn1
    unfold maxLen at hs
    unfold RuneSaid
    go_enter Tryd.func28, Tryd.ntmps28
    go_wp2_with fail
    refine (next_any s 1 128 159 HS.out (by omega) (by omega) _).mono ?_
    rintro e w' ⟨he, rfl⟩
    rw [HN1.out] at he
    subst he
    go_wp2_with fail
    go_ret2
    rw [H.out]
    exact ⟨rfl, Below.refl _ _⟩
  | true =>
    cases hn2 : inn (bytes s) 2 128 191 with
    | false =>
      have H : Hid (rune (bytes s) = (65533, 1)) := by unfold Hid; rw [hR, hn1, hn2]; simp
      have HN1 := Lib.hid hn1
      have HN2 := Lib.hid hn2
      clear hR hn1 hn2
      unfold maxLen at hs
      unfold RuneSaid
      go_enter Tryd.func28, Tryd.ntmps28
      go_wp2_with fail
      refine (next_any s 1 128 159 HS.out (by omega) (by omega) _).mono ?_
      rintro e w' ⟨he, rfl⟩
      rw [HN1.out] at he
      subst he
      go_wp2_with fail
      refine (next_any s 2 128 191 HS.out (by omega) (by omega) _).mono ?_
      rintro e w' ⟨he, rfl⟩
      rw [HN2.out] at he
      subst he
      go_wp2_with fail
      go_ret2
      rw [H.out]
      exact ⟨rfl, Below.refl _ _⟩
    | true =>
      have h1 : 1 < s.size := by rw [← bytes_len]; exact inn_lt hn1 (by omega)
      obtain ⟨b1, hb1⟩ : ∃ b1, (s[1].toNat : Int) = b1 := ⟨_, rfl⟩
      have h2 : 2 < s.size := by rw [← bytes_len]; exact inn_lt hn2 (by omega)
      obtain ⟨b2, hb2⟩ : ∃ b2, (s[2].toNat : Int) = b2 := ⟨_, rfl⟩
      have H : Hid (rune (bytes s) = (((237 : Int) - 224) * 4096 + (b1 - 128) * 64 + (b2 - 128), 3)) := by unfold Hid; rw [hR, hn1, hn2, bytes_at s 1 h1, hb1, bytes_at s 2 h2, hb2]; rfl
      have hq1 : 128 ≤ b1 ∧ b1 ≤ 159 := by
        have hn := hn1
        unfold inn at hn
        rw [bytes_at s 1 h1, hb1] at hn
        simpa using hn
      obtain ⟨hq1a, hq1b⟩ := hq1
      have hq2 : 128 ≤ b2 ∧ b2 ≤ 191 := by
        have hn := hn2
        unfold inn at hn
        rw [bytes_at s 2 h2, hb2] at hn
        simpa using hn
      obtain ⟨hq2a, hq2b⟩ := hq2
      have HN1 := Lib.hid hn1
      have HN2 := Lib.hid hn2
      clear hR hn1 hn2
      unfold maxLen at hs
      unfold RuneSaid
      go_enter Tryd.func28, Tryd.ntmps28
      go_wp2_with fail
      refine (next_any s 1 128 159 HS.out (by omega) (by omega) _).mono ?_
      rintro e w' ⟨he, rfl⟩
      rw [HN1.out] at he
      subst he
      go_wp2_with fail
      refine (next_any s 2 128 191 HS.out (by omega) (by omega) _).mono ?_
      rintro e w' ⟨he, rfl⟩
      rw [HN2.out] at he
      subst he
      go_wp2_with fail
      go_quiet (fail)
      go_wp2_with fail
      go_ret2
      rw [H.out]
      exact ⟨rfl, drewN_below (Below.refl _ _) _⟩
set_option maxRecDepth 100000 in
set_option maxHeartbeats 2000000 in
theorem rune_C2 {s : ByteArray} (hs : s.size ≤ maxLen) (h0 : 0 < s.size) (w : World) (c : Int) (hc : (s[0].toNat : Int) = c) (hA : 224 < c ∧ c ≤ 239 ∧ c ≠ 237) : RuneSaid s w := by
  obtain ⟨hA1, hA2, hA3⟩ := hA
  have hL1 : lo2 c = 128 := by unfold lo2; rw [if_neg (by omega)]
  have hL2 : hi2 c = 191 := by unfold hi2; rw [if_neg (by omega)]
  have k1 : (c == 224) = false := by rw [beq_eq_false_iff_ne]; omega
  have k2 : (c == 237) = false := by rw [beq_eq_false_iff_ne]; omega
  have hb := byte_bd s 0 h0
  have HS := Lib.hid hs
  have hR : rune (bytes s) = bif inn (bytes s) 1 128 191 && inn (bytes s) 2 128 191 then ((c - 224) * 4096 + (bt (bytes s) 1 - 128) * 64 + (bt (bytes s) 2 - 128), 3) else (65533, 1) := by
    unfold rune
    rw [bytes_at s 0 h0, hc]
    dsimp only
    rw [if_neg (by omega), if_neg (by omega), if_pos (by omega), hL1, hL2]
  rw [hc] at hb
  clear hL1 hL2
  cases hn1 : inn (bytes s) 1 128 191 with
  | false =>
    have H : Hid (rune (bytes s) = (65533, 1)) := by unfold Hid; rw [hR, hn1]; simp
    have HN1 := Lib.hid hn1
    clear hR hn1
    unfold maxLen at hs
    unfold RuneSaid
    go_enter Tryd.func28, Tryd.ntmps28
    go_wp2_with fail
    refine (next_any s 1 128 191 HS.out (by omega) (by omega) _).mono ?_
    rintro e w' ⟨he, rfl⟩
    rw [HN1.out] at he
    subst he
    go_wp2_with fail
    go_ret2
    rw [H.out]
    exact ⟨rfl, Below.refl _ _⟩
  | true =>
    cases hn2 : inn (bytes s) 2 128 191 with
    | false =>
      have H : Hid (rune (bytes s) = (65533, 1)) := by unfold Hid; rw [hR, hn1, hn2]; simp
      have HN1 := Lib.hid hn1
      have HN2 := Lib.hid hn2
      clear hR hn1 hn2
      unfold maxLen at hs
      unfold RuneSaid
      go_enter Tryd.func28, Tryd.ntmps28
      go_wp2_with fail
      refine (next_any s 1 128 191 HS.out (by omega) (by omega) _).mono ?_
      rintro e w' ⟨he, rfl⟩
      rw [HN1.out] at he
      subst he
      go_wp2_with fail
      refine (next_any s 2 128 191 HS.out (by omega) (by omega) _).mono ?_
      rintro e w' ⟨he, rfl⟩
      rw [HN2.out] at he
      subst he
      go_wp2_with fail
      go_ret2
      rw [H.out]
      exact ⟨rfl, Below.refl _ _⟩
    | true =>
      have h1 : 1 < s.size := by rw [← bytes_len]; exact inn_lt hn1 (by omega)
      obtain ⟨b1, hb1⟩ : ∃ b1, (s[1].toNat : Int) = b1 := ⟨_, rfl⟩
      have h2 : 2 < s.size := by rw [← bytes_len]; exact inn_lt hn2 (by omega)
      obtain ⟨b2, hb2⟩ : ∃ b2, (s[2].toNat : Int) = b2 := ⟨_, rfl⟩
      have H : Hid (rune (bytes s) = ((c - 224) * 4096 + (b1 - 128) * 64 + (b2 - 128), 3)) := by unfold Hid; rw [hR, hn1, hn2, bytes_at s 1 h1, hb1, bytes_at s 2 h2, hb2]; rfl
      have hq1 : 128 ≤ b1 ∧ b1 ≤ 191 := by
        have hn := hn1
        unfold inn at hn
        rw [bytes_at s 1 h1, hb1] at hn
        simpa using hn
      obtain ⟨hq1a, hq1b⟩ := hq1
      have hq2 : 128 ≤ b2 ∧ b2 ≤ 191 := by
        have hn := hn2
        unfold inn at hn
        rw [bytes_at s 2 h2, hb2] at hn
        simpa using hn
      obtain ⟨hq2a, hq2b⟩ := hq2
      have HN1 := Lib.hid hn1
      have HN2 := Lib.hid hn2
      clear hR hn1 hn2
      unfold maxLen at hs
      unfold RuneSaid
      go_enter Tryd.func28, Tryd.ntmps28
      go_wp2_with fail
      refine (next_any s 1 128 191 HS.out (by omega) (by omega) _).mono ?_
      rintro e w' ⟨he, rfl⟩
      rw [HN1.out] at he
      subst he
      go_wp2_with fail
      refine (next_any s 2 128 191 HS.out (by omega) (by omega) _).mono ?_
      rintro e w' ⟨he, rfl⟩
      rw [HN2.out] at he
      subst he
      go_wp2_with fail
      go_quiet (fail)
      go_wp2_with fail
      go_ret2
      rw [H.out]
      exact ⟨rfl, drewN_below (Below.refl _ _) _⟩
set_option maxRecDepth 100000 in
set_option maxHeartbeats 2000000 in
theorem rune_D0 {s : ByteArray} (hs : s.size ≤ maxLen) (h0 : 0 < s.size) (w : World) (c : Int) (hc : (s[0].toNat : Int) = c) (hA : c = 240) : RuneSaid s w := by
  subst hA
  have hL1 : lo3 240 = 144 := rfl
  have hL2 : hi3 240 = 191 := rfl
  have hb := byte_bd s 0 h0
  have HS := Lib.hid hs
  have hR : rune (bytes s) = bif inn (bytes s) 1 144 191 && inn (bytes s) 2 128 191 && inn (bytes s) 3 128 191 then (((240 : Int) - 240) * 262144 + (bt (bytes s) 1 - 128) * 4096 + (bt (bytes s) 2 - 128) * 64 + (bt (bytes s) 3 - 128), 4) else (65533, 1) := by
    unfold rune
    rw [bytes_at s 0 h0, hc]
    dsimp only
    rw [if_neg (by omega), if_neg (by omega), if_neg (by omega), if_pos (by omega), hL1, hL2]
  rw [hc] at hb
  clear hL1 hL2
  cases hn1 : inn (bytes s) 1 144 191 with
  | false =>
    have H : Hid (rune (bytes s) = (65533, 1)) := by unfold Hid; rw [hR, hn1]; simp
    have HN1 := Lib.hid hn1
    clear hR hn1
    unfold maxLen at hs
    unfold RuneSaid
    go_enter Tryd.func28, Tryd.ntmps28
    go_wp2_with fail
    refine (next_any s 1 144 191 HS.out (by omega) (by omega) _).mono ?_
    rintro e w' ⟨he, rfl⟩
    rw [HN1.out] at he
    subst he
    go_wp2_with fail
    go_ret2
    rw [H.out]
    exact ⟨rfl, Below.refl _ _⟩
  | true =>
    cases hn2 : inn (bytes s) 2 128 191 with
    | false =>
      have H : Hid (rune (bytes s) = (65533, 1)) := by unfold Hid; rw [hR, hn1, hn2]; simp
      have HN1 := Lib.hid hn1
      have HN2 := Lib.hid hn2
      clear hR hn1 hn2
      unfold maxLen at hs
      unfold RuneSaid
      go_enter Tryd.func28, Tryd.ntmps28
      go_wp2_with fail
      refine (next_any s 1 144 191 HS.out (by omega) (by omega) _).mono ?_
      rintro e w' ⟨he, rfl⟩
      rw [HN1.out] at he
      subst he
      go_wp2_with fail
      refine (next_any s 2 128 191 HS.out (by omega) (by omega) _).mono ?_
      rintro e w' ⟨he, rfl⟩
      rw [HN2.out] at he
      subst he
      go_wp2_with fail
      go_ret2
      rw [H.out]
      exact ⟨rfl, Below.refl _ _⟩
    | true =>
      cases hn3 : inn (bytes s) 3 128 191 with
      | false =>
        have H : Hid (rune (bytes s) = (65533, 1)) := by unfold Hid; rw [hR, hn1, hn2, hn3]; simp
        have HN1 := Lib.hid hn1
        have HN2 := Lib.hid hn2
        have HN3 := Lib.hid hn3
        clear hR hn1 hn2 hn3
        unfold maxLen at hs
        unfold RuneSaid
        go_enter Tryd.func28, Tryd.ntmps28
        go_wp2_with fail
        refine (next_any s 1 144 191 HS.out (by omega) (by omega) _).mono ?_
        rintro e w' ⟨he, rfl⟩
        rw [HN1.out] at he
        subst he
        go_wp2_with fail
        refine (next_any s 2 128 191 HS.out (by omega) (by omega) _).mono ?_
        rintro e w' ⟨he, rfl⟩
        rw [HN2.out] at he
        subst he
        go_wp2_with fail
        refine (next_any s 3 128 191 HS.out (by omega) (by omega) _).mono ?_
        rintro e w' ⟨he, rfl⟩
        rw [HN3.out] at he
        subst he
        go_wp2_with fail
        go_ret2
        rw [H.out]
        exact ⟨rfl, Below.refl _ _⟩
      | true =>
        have h1 : 1 < s.size := by rw [← bytes_len]; exact inn_lt hn1 (by omega)
        obtain ⟨b1, hb1⟩ : ∃ b1, (s[1].toNat : Int) = b1 := ⟨_, rfl⟩
        have h2 : 2 < s.size := by rw [← bytes_len]; exact inn_lt hn2 (by omega)
        obtain ⟨b2, hb2⟩ : ∃ b2, (s[2].toNat : Int) = b2 := ⟨_, rfl⟩
        have h3 : 3 < s.size := by rw [← bytes_len]; exact inn_lt hn3 (by omega)
        obtain ⟨b3, hb3⟩ : ∃ b3, (s[3].toNat : Int) = b3 := ⟨_, rfl⟩
        have H : Hid (rune (bytes s) = ((b1 - 128) * 4096 + (b2 - 128) * 64 + (b3 - 128), 4)) := by unfold Hid; rw [hR, hn1, hn2, hn3, bytes_at s 1 h1, hb1, bytes_at s 2 h2, hb2, bytes_at s 3 h3, hb3]; simp
        have hq1 : 144 ≤ b1 ∧ b1 ≤ 191 := by
          have hn := hn1
          unfold inn at hn
          rw [bytes_at s 1 h1, hb1] at hn
          simpa using hn
        obtain ⟨hq1a, hq1b⟩ := hq1
        have hq2 : 128 ≤ b2 ∧ b2 ≤ 191 := by
          have hn := hn2
          unfold inn at hn
          rw [bytes_at s 2 h2, hb2] at hn
          simpa using hn
        obtain ⟨hq2a, hq2b⟩ := hq2
        have hq3 : 128 ≤ b3 ∧ b3 ≤ 191 := by
          have hn := hn3
          unfold inn at hn
          rw [bytes_at s 3 h3, hb3] at hn
          simpa using hn
        obtain ⟨hq3a, hq3b⟩ := hq3
        have HN1 := Lib.hid hn1
        have HN2 := Lib.hid hn2
        have HN3 := Lib.hid hn3
        clear hR hn1 hn2 hn3
        unfold maxLen at hs
        unfold RuneSaid
        go_enter Tryd.func28, Tryd.ntmps28
        go_wp2_with fail
        refine (next_any s 1 144 191 HS.out (by omega) (by omega) _).mono ?_
        rintro e w' ⟨he, rfl⟩
        rw [HN1.out] at he
        subst he
        go_wp2_with fail
        refine (next_any s 2 128 191 HS.out (by omega) (by omega) _).mono ?_
        rintro e w' ⟨he, rfl⟩
        rw [HN2.out] at he
        subst he
        go_wp2_with fail
        refine (next_any s 3 128 191 HS.out (by omega) (by omega) _).mono ?_
        rintro e w' ⟨he, rfl⟩
        rw [HN3.out] at he
        subst he
        go_wp2_with fail
        go_quiet (fail)
        go_wp2_with fail
        go_ret2
        rw [H.out]
        exact ⟨rfl, drewN_below (Below.refl _ _) _⟩
set_option maxRecDepth 100000 in
set_option maxHeartbeats 2000000 in
theorem rune_D1 {s : ByteArray} (hs : s.size ≤ maxLen) (h0 : 0 < s.size) (w : World) (c : Int) (hc : (s[0].toNat : Int) = c) (hA : c = 244) : RuneSaid s w := by
  subst hA
  have hL1 : lo3 244 = 128 := rfl
  have hL2 : hi3 244 = 143 := rfl
  have hb := byte_bd s 0 h0
  have HS := Lib.hid hs
  have hR : rune (bytes s) = bif inn (bytes s) 1 128 143 && inn (bytes s) 2 128 191 && inn (bytes s) 3 128 191 then (((244 : Int) - 240) * 262144 + (bt (bytes s) 1 - 128) * 4096 + (bt (bytes s) 2 - 128) * 64 + (bt (bytes s) 3 - 128), 4) else (65533, 1) := by
    unfold rune
    rw [bytes_at s 0 h0, hc]
    dsimp only
    rw [if_neg (by omega), if_neg (by omega), if_neg (by omega), if_pos (by omega), hL1, hL2]
  rw [hc] at hb
  clear hL1 hL2
  cases hn1 : inn (bytes s) 1 128 143 with
  | false =>
    have H : Hid (rune (bytes s) = (65533, 1)) := by unfold Hid; rw [hR, hn1]; simp
    have HN1 := Lib.hid hn1
    clear hR hn1
    unfold maxLen at hs
    unfold RuneSaid
    go_enter Tryd.func28, Tryd.ntmps28
    go_wp2_with fail
    refine (next_any s 1 128 143 HS.out (by omega) (by omega) _).mono ?_
    rintro e w' ⟨he, rfl⟩
    rw [HN1.out] at he
    subst he
    go_wp2_with fail
    go_ret2
    rw [H.out]
    exact ⟨rfl, Below.refl _ _⟩
  | true =>
    cases hn2 : inn (bytes s) 2 128 191 with
    | false =>
      have H : Hid (rune (bytes s) = (65533, 1)) := by unfold Hid; rw [hR, hn1, hn2]; simp
      have HN1 := Lib.hid hn1
      have HN2 := Lib.hid hn2
      clear hR hn1 hn2
      unfold maxLen at hs
      unfold RuneSaid
      go_enter Tryd.func28, Tryd.ntmps28
      go_wp2_with fail
      refine (next_any s 1 128 143 HS.out (by omega) (by omega) _).mono ?_
      rintro e w' ⟨he, rfl⟩
      rw [HN1.out] at he
      subst he
      go_wp2_with fail
      refine (next_any s 2 128 191 HS.out (by omega) (by omega) _).mono ?_
      rintro e w' ⟨he, rfl⟩
      rw [HN2.out] at he
      subst he
      go_wp2_with fail
      go_ret2
      rw [H.out]
      exact ⟨rfl, Below.refl _ _⟩
    | true =>
      cases hn3 : inn (bytes s) 3 128 191 with
      | false =>
        have H : Hid (rune (bytes s) = (65533, 1)) := by unfold Hid; rw [hR, hn1, hn2, hn3]; simp
        have HN1 := Lib.hid hn1
        have HN2 := Lib.hid hn2
        have HN3 := Lib.hid hn3
        clear hR hn1 hn2 hn3
        unfold maxLen at hs
        unfold RuneSaid
        go_enter Tryd.func28, Tryd.ntmps28
        go_wp2_with fail
        refine (next_any s 1 128 143 HS.out (by omega) (by omega) _).mono ?_
        rintro e w' ⟨he, rfl⟩
        rw [HN1.out] at he
        subst he
        go_wp2_with fail
        refine (next_any s 2 128 191 HS.out (by omega) (by omega) _).mono ?_
        rintro e w' ⟨he, rfl⟩
        rw [HN2.out] at he
        subst he
        go_wp2_with fail
        refine (next_any s 3 128 191 HS.out (by omega) (by omega) _).mono ?_
        rintro e w' ⟨he, rfl⟩
        rw [HN3.out] at he
        subst he
        go_wp2_with fail
        go_ret2
        rw [H.out]
        exact ⟨rfl, Below.refl _ _⟩
      | true =>
        have h1 : 1 < s.size := by rw [← bytes_len]; exact inn_lt hn1 (by omega)
        obtain ⟨b1, hb1⟩ : ∃ b1, (s[1].toNat : Int) = b1 := ⟨_, rfl⟩
        have h2 : 2 < s.size := by rw [← bytes_len]; exact inn_lt hn2 (by omega)
        obtain ⟨b2, hb2⟩ : ∃ b2, (s[2].toNat : Int) = b2 := ⟨_, rfl⟩
        have h3 : 3 < s.size := by rw [← bytes_len]; exact inn_lt hn3 (by omega)
        obtain ⟨b3, hb3⟩ : ∃ b3, (s[3].toNat : Int) = b3 := ⟨_, rfl⟩
        have H : Hid (rune (bytes s) = (((244 : Int) - 240) * 262144 + (b1 - 128) * 4096 + (b2 - 128) * 64 + (b3 - 128), 4)) := by unfold Hid; rw [hR, hn1, hn2, hn3, bytes_at s 1 h1, hb1, bytes_at s 2 h2, hb2, bytes_at s 3 h3, hb3]; rfl
        have hq1 : 128 ≤ b1 ∧ b1 ≤ 143 := by
          have hn := hn1
          unfold inn at hn
          rw [bytes_at s 1 h1, hb1] at hn
          simpa using hn
        obtain ⟨hq1a, hq1b⟩ := hq1
        have hq2 : 128 ≤ b2 ∧ b2 ≤ 191 := by
          have hn := hn2
          unfold inn at hn
          rw [bytes_at s 2 h2, hb2] at hn
          simpa using hn
        obtain ⟨hq2a, hq2b⟩ := hq2
        have hq3 : 128 ≤ b3 ∧ b3 ≤ 191 := by
          have hn := hn3
          unfold inn at hn
          rw [bytes_at s 3 h3, hb3] at hn
          simpa using hn
        obtain ⟨hq3a, hq3b⟩ := hq3
        have HN1 := Lib.hid hn1
        have HN2 := Lib.hid hn2
        have HN3 := Lib.hid hn3
        clear hR hn1 hn2 hn3
        unfold maxLen at hs
        unfold RuneSaid
        go_enter Tryd.func28, Tryd.ntmps28
        go_wp2_with fail
        refine (next_any s 1 128 143 HS.out (by omega) (by omega) _).mono ?_
        rintro e w' ⟨he, rfl⟩
        rw [HN1.out] at he
        subst he
        go_wp2_with fail
        refine (next_any s 2 128 191 HS.out (by omega) (by omega) _).mono ?_
        rintro e w' ⟨he, rfl⟩
        rw [HN2.out] at he
        subst he
        go_wp2_with fail
        refine (next_any s 3 128 191 HS.out (by omega) (by omega) _).mono ?_
        rintro e w' ⟨he, rfl⟩
        rw [HN3.out] at he
        subst he
        go_wp2_with fail
        go_quiet (fail)
        go_wp2_with fail
        go_ret2
        rw [H.out]
        exact ⟨rfl, drewN_below (Below.refl _ _) _⟩
set_option maxRecDepth 100000 in
set_option maxHeartbeats 2000000 in
theorem rune_D2 {s : ByteArray} (hs : s.size ≤ maxLen) (h0 : 0 < s.size) (w : World) (c : Int) (hc : (s[0].toNat : Int) = c) (hA : 240 < c ∧ c ≤ 243) : RuneSaid s w := by
  obtain ⟨hA1, hA2⟩ := hA
  have hL1 : lo3 c = 128 := by unfold lo3; rw [if_neg (by omega)]
  have hL2 : hi3 c = 191 := by unfold hi3; rw [if_neg (by omega)]
  have k1 : (c == 240) = false := by rw [beq_eq_false_iff_ne]; omega
  have k2 : (c == 244) = false := by rw [beq_eq_false_iff_ne]; omega
  have hb := byte_bd s 0 h0
  have HS := Lib.hid hs
  have hR : rune (bytes s) = bif inn (bytes s) 1 128 191 && inn (bytes s) 2 128 191 && inn (bytes s) 3 128 191 then ((c - 240) * 262144 + (bt (bytes s) 1 - 128) * 4096 + (bt (bytes s) 2 - 128) * 64 + (bt (bytes s) 3 - 128), 4) else (65533, 1) := by
    unfold rune
    rw [bytes_at s 0 h0, hc]
    dsimp only
    rw [if_neg (by omega), if_neg (by omega), if_neg (by omega), if_pos (by omega), hL1, hL2]
  rw [hc] at hb
  clear hL1 hL2
  cases hn1 : inn (bytes s) 1 128 191 with
  | false =>
    have H : Hid (rune (bytes s) = (65533, 1)) := by unfold Hid; rw [hR, hn1]; simp
    have HN1 := Lib.hid hn1
    clear hR hn1
    unfold maxLen at hs
    unfold RuneSaid
    go_enter Tryd.func28, Tryd.ntmps28
    go_wp2_with fail
    refine (next_any s 1 128 191 HS.out (by omega) (by omega) _).mono ?_
    rintro e w' ⟨he, rfl⟩
    rw [HN1.out] at he
    subst he
    go_wp2_with fail
    go_ret2
    rw [H.out]
    exact ⟨rfl, Below.refl _ _⟩
  | true =>
    cases hn2 : inn (bytes s) 2 128 191 with
    | false =>
      have H : Hid (rune (bytes s) = (65533, 1)) := by unfold Hid; rw [hR, hn1, hn2]; simp
      have HN1 := Lib.hid hn1
      have HN2 := Lib.hid hn2
      clear hR hn1 hn2
      unfold maxLen at hs
      unfold RuneSaid
      go_enter Tryd.func28, Tryd.ntmps28
      go_wp2_with fail
      refine (next_any s 1 128 191 HS.out (by omega) (by omega) _).mono ?_
      rintro e w' ⟨he, rfl⟩
      rw [HN1.out] at he
      subst he
      go_wp2_with fail
      refine (next_any s 2 128 191 HS.out (by omega) (by omega) _).mono ?_
      rintro e w' ⟨he, rfl⟩
      rw [HN2.out] at he
      subst he
      go_wp2_with fail
      go_ret2
      rw [H.out]
      exact ⟨rfl, Below.refl _ _⟩
    | true =>
      cases hn3 : inn (bytes s) 3 128 191 with
      | false =>
        have H : Hid (rune (bytes s) = (65533, 1)) := by unfold Hid; rw [hR, hn1, hn2, hn3]; simp
        have HN1 := Lib.hid hn1
        have HN2 := Lib.hid hn2
        have HN3 := Lib.hid hn3
        clear hR hn1 hn2 hn3
        unfold maxLen at hs
        unfold RuneSaid
        go_enter Tryd.func28, Tryd.ntmps28
        go_wp2_with fail
        refine (next_any s 1 128 191 HS.out (by omega) (by omega) _).mono ?_
        rintro e w' ⟨he, rfl⟩
        rw [HN1.out] at he
        subst he
        go_wp2_with fail
        refine (next_any s 2 128 191 HS.out (by omega) (by omega) _).mono ?_
        rintro e w' ⟨he, rfl⟩
        rw [HN2.out] at he
        subst he
        go_wp2_with fail
        refine (next_any s 3 128 191 HS.out (by omega) (by omega) _).mono ?_
        rintro e w' ⟨he, rfl⟩
        rw [HN3.out] at he
        subst he
        go_wp2_with fail
        go_ret2
        rw [H.out]
        exact ⟨rfl, Below.refl _ _⟩
      | true =>
        have h1 : 1 < s.size := by rw [← bytes_len]; exact inn_lt hn1 (by omega)
        obtain ⟨b1, hb1⟩ : ∃ b1, (s[1].toNat : Int) = b1 := ⟨_, rfl⟩
        have h2 : 2 < s.size := by rw [← bytes_len]; exact inn_lt hn2 (by omega)
        obtain ⟨b2, hb2⟩ : ∃ b2, (s[2].toNat : Int) = b2 := ⟨_, rfl⟩
        have h3 : 3 < s.size := by rw [← bytes_len]; exact inn_lt hn3 (by omega)
        obtain ⟨b3, hb3⟩ : ∃ b3, (s[3].toNat : Int) = b3 := ⟨_, rfl⟩
        have H : Hid (rune (bytes s) = ((c - 240) * 262144 + (b1 - 128) * 4096 + (b2 - 128) * 64 + (b3 - 128), 4)) := by unfold Hid; rw [hR, hn1, hn2, hn3, bytes_at s 1 h1, hb1, bytes_at s 2 h2, hb2, bytes_at s 3 h3, hb3]; rfl
        have hq1 : 128 ≤ b1 ∧ b1 ≤ 191 := by
          have hn := hn1
          unfold inn at hn
          rw [bytes_at s 1 h1, hb1] at hn
          simpa using hn
        obtain ⟨hq1a, hq1b⟩ := hq1
        have hq2 : 128 ≤ b2 ∧ b2 ≤ 191 := by
          have hn := hn2
          unfold inn at hn
          rw [bytes_at s 2 h2, hb2] at hn
          simpa using hn
        obtain ⟨hq2a, hq2b⟩ := hq2
        have hq3 : 128 ≤ b3 ∧ b3 ≤ 191 := by
          have hn := hn3
          unfold inn at hn
          rw [bytes_at s 3 h3, hb3] at hn
          simpa using hn
        obtain ⟨hq3a, hq3b⟩ := hq3
        have HN1 := Lib.hid hn1
        have HN2 := Lib.hid hn2
        have HN3 := Lib.hid hn3
        clear hR hn1 hn2 hn3
        unfold maxLen at hs
        unfold RuneSaid
        go_enter Tryd.func28, Tryd.ntmps28
        go_wp2_with fail
        refine (next_any s 1 128 191 HS.out (by omega) (by omega) _).mono ?_
        rintro e w' ⟨he, rfl⟩
        rw [HN1.out] at he
        subst he
        go_wp2_with fail
        refine (next_any s 2 128 191 HS.out (by omega) (by omega) _).mono ?_
        rintro e w' ⟨he, rfl⟩
        rw [HN2.out] at he
        subst he
        go_wp2_with fail
        refine (next_any s 3 128 191 HS.out (by omega) (by omega) _).mono ?_
        rintro e w' ⟨he, rfl⟩
        rw [HN3.out] at he
        subst he
        go_wp2_with fail
        go_quiet (fail)
        go_wp2_with fail
        go_ret2
        rw [H.out]
        exact ⟨rfl, drewN_below (Below.refl _ _) _⟩
theorem rune_any {s : ByteArray} (hs : s.size ≤ maxLen) (h0 : 0 < s.size) (w : World) : RuneSaid s w := by
  obtain ⟨c, hc⟩ : ∃ c, (s[0].toNat : Int) = c := ⟨_, rfl⟩
  by_cases hA : c < 128
  · exact rune_A hs h0 w c hc hA
  · by_cases hE : c < 194 ∨ 244 < c
    · exact rune_E hs h0 w c hc (by omega)
    · by_cases hB : c ≤ 223
      · exact rune_B hs h0 w c hc (by omega)
      · by_cases h1 : c = 224
        · exact rune_C0 hs h0 w c hc h1
        · by_cases h2 : c = 237
          · exact rune_C1 hs h0 w c hc h2
          · by_cases h3 : c ≤ 239
            · exact rune_C2 hs h0 w c hc (by omega)
            · by_cases h4 : c = 240
              · exact rune_D0 hs h0 w c hc h4
              · by_cases h5 : c = 244
                · exact rune_D1 hs h0 w c hc h5
                · exact rune_D2 hs h0 w c hc (by omega)
end Go.Proofs.YtolampkhohahlaaDoor.g3
