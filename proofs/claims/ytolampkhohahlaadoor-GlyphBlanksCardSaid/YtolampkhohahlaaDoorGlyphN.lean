/- Contracts of package hatstandref3, on: blanks, numbers, arguments, over this seat's program. -/
import Derived.Test.YtolampkhohahlaaDoorGlyphR
import Derived.Deep.AppendLies
namespace Go.Proofs.YtolampkhohahlaaDoor.g3
open Go.ChangeShapes Go.WideShapes Go.ChangeAt Go.RowKit frame lift gl
set_option linter.unusedVariables false
theorem blank_any (r : Int) (w : World) : Calls Tryd.prog 19 #[.int .i64 r] w fun e w' => e = .returned (.bool (gl.blank r)) ∧ w = w' := by
  cases h1 : (r == 9) with
  | true =>
    have H : Hid (gl.blank r = true) := by unfold Hid gl.blank; rw [h1]; rfl
    go_enter Tryd.func19, Tryd.ntmps19
    go_wp2_with fail
    go_ret
    rw [H.out]
    exact ⟨rfl, rfl⟩
  | false =>
    cases h2 : (r == 10) with
    | true =>
      have H : Hid (gl.blank r = true) := by unfold Hid gl.blank; rw [h1, h2]; rfl
      go_enter Tryd.func19, Tryd.ntmps19
      go_wp2_with fail
      go_ret
      rw [H.out]
      exact ⟨rfl, rfl⟩
    | false =>
      have H : Hid (gl.blank r = (r == 32)) := by unfold Hid gl.blank; rw [h1, h2]; rfl
      go_enter Tryd.func19, Tryd.ntmps19
      go_wp2_with fail
      go_ret
      rw [H.out]
      exact ⟨rfl, rfl⟩
theorem numb_any (r : Int) (w : World) : Calls Tryd.prog 20 #[.int .i64 r] w fun e w' => e = .returned (.bool (numb r)) ∧ w = w' := by
  by_cases h1 : 48 ≤ r
  · by_cases h2 : r ≤ 57
    · have H : Hid (numb r = true) := by unfold Hid numb; simp [h1, h2]
      go_enter Tryd.func20, Tryd.ntmps20
      go_wp2_with fail
      go_ret
      rw [H.out]
      exact ⟨rfl, rfl⟩
    · have H : Hid (numb r = (r == 44)) := by unfold Hid numb; simp [h1, h2]
      go_enter Tryd.func20, Tryd.ntmps20
      go_wp2_with fail
      go_ret
      rw [H.out]
      exact ⟨rfl, rfl⟩
  · have H : Hid (numb r = (r == 44)) := by unfold Hid numb; simp [h1]
    go_enter Tryd.func20, Tryd.ntmps20
    go_wp2_with fail
    go_ret
    rw [H.out]
    exact ⟨rfl, rfl⟩
def numV (L : Bs) : Int := (number L).getD 0
def numOk (L : Bs) : Bool := (number L).isSome
def NumSaid (s : ByteArray) (w : World) : Prop := Calls Tryd.prog 35 #[.string s] w fun e w' => e = .returned (.tuple #[.int .u64 (numV (bytes s)), .bool (numOk (bytes s))]) ∧ w = w'
theorem number_bad {s : ByteArray} (hs : s.size ≤ maxLen) (w : World) (hA : s.size = 0 ∨ 20 < s.size ∨ ∃ h : 1 < s.size, s[0].toNat = 48) : NumSaid s w := by
  have hl := bytes_len s
  have H : Hid (numV (bytes s) = 0 ∧ numOk (bytes s) = false) := by
    have e : number (bytes s) = none := by
      unfold number
      rw [if_pos]
      rcases hA with h | h | ⟨h, h'⟩
      · exact .inl (List.eq_nil_of_length_eq_zero (by omega))
      · exact .inr (.inl (by omega))
      · exact .inr (.inr ⟨by omega, by rw [bytes_at s 0 (by omega)]; omega⟩)
    unfold Hid numV numOk
    rw [e]
    exact ⟨rfl, rfl⟩
  clear hl
  unfold NumSaid
  unfold maxLen at hs
  rcases hA with h | h | ⟨h, h'⟩
  · have h1 : ((s.size : Int) == 0) = true := by simp [h]
    clear h
    go_enter Tryd.func35, Tryd.ntmps35
    go_wp2_with fail
    go_ret2
    rw [H.out.1, H.out.2]
    exact ⟨rfl, rfl⟩
  · have h1 : ((s.size : Int) == 0) = false := by rw [beq_eq_false_iff_ne]; omega
    go_enter Tryd.func35, Tryd.ntmps35
    go_wp2_with fail
    go_ret2
    rw [H.out.1, H.out.2]
    exact ⟨rfl, rfl⟩
  · have h1 : ((s.size : Int) == 0) = false := by rw [beq_eq_false_iff_ne]; omega
    have h2 : ((s[0].toNat : Int) == 48) = true := by simp [h']
    clear h'
    by_cases h3 : s.size ≤ 20
    · go_enter Tryd.func35, Tryd.ntmps35
      go_wp2_with fail
      go_ret2
      rw [H.out.1, H.out.2]
      exact ⟨rfl, rfl⟩
    · go_enter Tryd.func35, Tryd.ntmps35
      go_wp2_with fail
      go_ret2
      rw [H.out.1, H.out.2]
      exact ⟨rfl, rfl⟩
set_option maxRecDepth 100000 in
set_option maxHeartbeats 2000000 in
theorem number_loop {s : ByteArray} (w : World) (h0 : 0 < s.size) (h20 : s.size ≤ 20) (hh : s.size = 1 ∨ ∃ h : 1 < s.size, s[0].toNat ≠ 48) : NumSaid s w := by
  have hl := bytes_len s
  have HN : Hid (number (bytes s) = numLoop 0 (bytes s)) := by
    unfold Hid number
    rw [if_neg]
    intro h
    rcases h with h | h | ⟨h, h'⟩
    · have := congrArg List.length h; rw [hl, List.length_nil] at this; omega
    · omega
    · rcases hh with hh | ⟨hh, hh'⟩
      · omega
      · rw [bytes_at s 0 h0] at h'
        have : s[0].toNat = 48 := by omega
        exact hh' this
  have HL := Lib.hid hl; clear hl
  have h1 : ((s.size : Int) == 0) = false := by rw [beq_eq_false_iff_ne]; omega
  have hcase : s.size ≤ 1 ∨ (1 < s.size ∧ ((s[0].toNat : Int) == 48) = false) := by
    rcases hh with hh | ⟨hh, hh'⟩
    · exact .inl (by omega)
    · exact .inr ⟨hh, by rw [beq_eq_false_iff_ne]; intro e; exact hh' (by omega)⟩
  clear hh
  unfold NumSaid
  rcases hcase with hcase | ⟨hcase, h2⟩
  all_goals
    go_enter Tryd.func35, Tryd.ntmps35
    go_wp2_with fail
    go_loop [4, 5] (fun n i => ∃ (k : Nat) (a : Int), k ≤ s.size ∧ 0 ≤ a ∧ a ≤ 18446744073709551615 ∧ i = .int .i64 k ∧ n = .int .u64 a ∧ Hid (numLoop 0 (bytes s) = numLoop a ((bytes s).drop k))) (fun _ i => s.size - (intOf i).toNat)
    case atStart => exact ⟨0, 0, Nat.zero_le _, Int.le_refl 0, by decide, rfl, rfl, by rw [List.drop_zero]; rfl⟩
    case round =>
      obtain ⟨k, a, hk, ha0, ha1, rfl, rfl, HR⟩ := hrel
      by_cases hlt : k < s.size
      · have hbb := byte_bd s k hlt
        have hkl : k < (bytes s).length := by rw [HL.out]; exact hlt
        obtain ⟨b, hb⟩ : ∃ b, (s[k].toNat : Int) = b := ⟨_, rfl⟩
        have HD : Hid ((bytes s).drop k = b :: (bytes s).drop (k + 1)) := by
          unfold Hid
          rw [List.drop_eq_getElem_cons hkl]
          congr 1
          have e := bytes_at s k hlt
          rw [hb] at e
          simpa [bt, List.getD, hkl] using e
        clear hkl
        rw [hb] at hbb
        obtain ⟨hb0, hb1⟩ := hbb
        by_cases c1 : b < 48
        · have H : Hid (number (bytes s) = none) := by unfold Hid; rw [HN.out, HR.out, HD.out, numLoop, if_pos (.inl c1)]
          go_wp2_with fail
          go_ret2
          unfold numV numOk
          rw [H.out]
          exact ⟨rfl, rfl⟩
        · by_cases c2 : 57 < b
          · have H : Hid (number (bytes s) = none) := by unfold Hid; rw [HN.out, HR.out, HD.out, numLoop, if_pos (.inr (.inl c2))]
            go_wp2_with fail
            go_ret2
            unfold numV numOk
            rw [H.out]
            exact ⟨rfl, rfl⟩
          · by_cases c3 : 1844674407370955161 < a
            · have H : Hid (number (bytes s) = none) := by unfold Hid; rw [HN.out, HR.out, HD.out, numLoop, if_pos (.inr (.inr (.inl c3)))]
              go_wp2_with fail
              go_ret2
              unfold numV numOk
              rw [H.out]
              exact ⟨rfl, rfl⟩
            · by_cases c4 : a = 1844674407370955161
              · have c4' : (a == 1844674407370955161) = true := by simpa using c4
                by_cases c5 : 53 < b
                · have H : Hid (number (bytes s) = none) := by unfold Hid; rw [HN.out, HR.out, HD.out, numLoop, if_pos (.inr (.inr (.inr ⟨c4, c5⟩)))]
                  clear c4
                  go_wp2_with fail
                  go_ret2
                  unfold numV numOk
                  rw [H.out]
                  exact ⟨rfl, rfl⟩
                · have H : Hid (numLoop 0 (bytes s) = numLoop (10 * a + (b - 48)) ((bytes s).drop (k + 1))) := by unfold Hid; rw [HR.out, HD.out, numLoop, if_neg (by omega)]
                  have hn : 10 * a + (b - 48) ≤ 18446744073709551615 := by omega
                  clear c4
                  go_wp2_with fail
                  go_round
                  case rel => exact ⟨k + 1, 10 * a + (b - 48), by omega, by omega, hn, by go_num, rfl, H⟩
                  case measure => simp [intOf]; omega
              · have c4' : (a == 1844674407370955161) = false := by simpa using c4
                have H : Hid (numLoop 0 (bytes s) = numLoop (10 * a + (b - 48)) ((bytes s).drop (k + 1))) := by unfold Hid; rw [HR.out, HD.out, numLoop, if_neg (by omega)]
                have hn : 10 * a + (b - 48) ≤ 18446744073709551615 := by omega
                clear c4
                go_wp2_with fail
                go_round
                case rel => exact ⟨k + 1, 10 * a + (b - 48), by omega, by omega, hn, by go_num, rfl, H⟩
                case measure => simp [intOf]; omega
      · obtain rfl : k = s.size := by omega
        have H : Hid (number (bytes s) = some a) := by unfold Hid; rw [HN.out, HR.out, List.drop_eq_nil_of_le (by rw [HL.out]; omega), numLoop]
        go_wp2_with fail
        go_ret2
        unfold numV numOk
        rw [H.out]
        exact ⟨rfl, rfl⟩
theorem number_any {s : ByteArray} (hs : s.size ≤ maxLen) (w : World) : NumSaid s w := by
  by_cases h0 : s.size = 0
  · exact number_bad hs w (.inl h0)
  · by_cases h1 : 20 < s.size
    · exact number_bad hs w (.inr (.inl h1))
    · by_cases h2 : s.size = 1
      · exact number_loop w (by omega) (by omega) (.inl h2)
      · have h3 : 1 < s.size := by omega
        by_cases h4 : s[0].toNat = 48
        · exact number_bad hs w (.inr (.inr ⟨h3, h4⟩))
        · exact number_loop w (by omega) (by omega) (.inr ⟨h3, h4⟩)
end Go.Proofs.YtolampkhohahlaaDoor.g3
