/- SourceDeadline: a deadline is never ahead of now, and comes just when so much time went by, as long as there is time: no condition. -/
import Derived.Test.YthncogpkhaheeaaSrcB
namespace Go.Proofs.Ythncogpkhaheeaa.sourceDeadline
open Go.ChangeShapes Go.WideShapes Go.ChangeAt Go.RowKit frame lift sep src
set_option linter.unusedVariables false
theorem ok_now {s : Int} (h : 0 ≤ s) (h1 : s ≤ top) : ScOk ⟨s, []⟩ := ⟨h, h1, fun d hd => by simp at hd⟩
set_option maxHeartbeats 16000000 in
theorem walk (v0 : Value) (l : List Int) (a1 a2 : Int) (f1 : (Lit.int .u64 a1).wf = true) (f2 : (Lit.int .u64 a2).wf = true) (w : World) (f0 : Ints w .u64 v0 l) (z0 : Fit .u64 l) :
    Calls Try.prog 6 #[v0, .int .u64 a1, .int .u64 a2] w fun e w' => e = .returned (.bool true) ∧ Below w.heap.size w w' := by
  have HZ := Lib.hid z0
  obtain ⟨b0, b1⟩ := bd_u64 f1
  obtain ⟨m0, m1⟩ := bd_u64 f2
  obtain ⟨a0, c0, rfl, hf⟩ := u64_form f0
  have HF := Lib.hid hf
  clear f0 z0 hf f1 f2
  by_cases hbig : 50 < l.length
  · have hbi : (50 : Int) < (l.length : Int) := by omega
    go_enter Try.func6, Try.ntmps6
    go_wp2_with fail
    refine (shown_in (Hold.empty w)).mono ?_
    rintro e w1 ⟨rfl, h1⟩
    have H1 := Lib.hid h1; clear h1
    go_wp2_with fail
    refine (new_in H1.out).mono ?_
    rintro e w2 ⟨a, rfl, h2⟩
    have H2 := Lib.hid h2; clear h2
    go_wp2_with fail
    go_ret
    exact ⟨rfl, H2.out.below⟩
  · have hbi : ¬ (50 : Int) < (l.length : Int) := by omega
    go_enter Try.func6, Try.ntmps6
    go_wp2_with fail
    refine (shown_in (Hold.empty w)).mono ?_
    rintro e w1 ⟨rfl, h1⟩
    have H1 := Lib.hid h1; clear h1
    go_wp2_with fail
    refine (new_in H1.out).mono ?_
    rintro e w2 ⟨a, rfl, h2⟩
    have H2 := Lib.hid h2; clear h2
    go_wp2_with fail
    go_loopw [9] (fun i wr => ∃ (k : Nat) (s : Int), k ≤ l.length ∧ i = .int .i64 k ∧ 0 ≤ s ∧ s ≤ (k : Int) * 1125899906842624 ∧ Hid (Hold (fun _ => False) w [src a ⟨s, []⟩] wr)) (fun i _ => l.length - (intOf i).toNat)
    case atStart => exact ⟨0, 0, Nat.zero_le _, rfl, by decide, by simp, H2.out⟩
    case round =>
      obtain ⟨k, s, hk, rfl, s0, s1, HH⟩ := hrel
      have st : s ≤ 56294995342131200 := by omega
      have K0 : Hid (ScOk ⟨s, []⟩) := ok_now s0 (by unfold top; omega)
      by_cases hlt : k < l.length
      · obtain ⟨g, off, rfl, hg, hc⟩ := HF.out (by omega)
        have e0 := (HH.out.below.cell (p := ⟨g, off + k, none⟩) hg).trans (hc k hlt)
        obtain ⟨n0, n1⟩ := nth_u64 HZ.out k
        obtain ⟨x, hx⟩ : ∃ x, nth l k = x := ⟨_, rfl⟩
        rw [hx] at e0 n0 n1
        have hi1 : (0 : Int) ≤ (k : Int) := by omega
        have hi2 : (k : Int) < (l.length : Int) := by omega
        obtain ⟨y, hy⟩ : ∃ y, x % 1125899906842624 = y := ⟨_, rfl⟩
        have y0 : 0 ≤ y ∧ y ≤ 1125899906842624 := by omega
        have T1 : Hid (tickS ⟨s, []⟩ y = ⟨s + y, []⟩) := by
          unfold Hid tickS dead top
          rw [if_pos (show s + y ≤ _ by omega)]
        clear hc hx
        go_wp2_with fail
        rw [hy]
        refine (tick_in HH.out K0.out y y0.1 (by unfold top; omega)).mono ?_
        rintro e w4 ⟨rfl, h4⟩
        rw [T1.out] at h4
        have H4 := Lib.hid h4; clear h4
        go_wp2_with fail
        go_roundw
        case rel => exact ⟨k + 1, s + y, by omega, by go_num, by omega, by omega, H4.out⟩
        case measure => simp [intOf]; omega
      · obtain rfl : k = l.length := by omega
        have W0 : Hid (0 ≤ s ∧ s ≤ top) := ⟨s0, by unfold top; omega⟩
        have B1 : Hid (0 ≤ a1 ∧ a1 ≤ top) := ⟨b0, by unfold top; omega⟩
        have M1 : Hid (0 ≤ a2 ∧ a2 ≤ top) := ⟨m0, by unfold top; omega⟩
        have Z0 : Hid (dead s 0 = s) := dead_zero W0.out.2
        clear s1
        have hcases : (18446744073709551615 < s + a1) ∨ (s + a1 ≤ 18446744073709551615 ∧ a1 ≤ a2 ∧ s + a1 ≤ dead s a2) ∨ (s + a1 ≤ 18446744073709551615 ∧ a2 < a1 ∧ dead s a2 < s + a1) := by
          unfold dead top
          by_cases h1 : 18446744073709551615 < s + a1
          · exact .inl h1
          · by_cases h2 : a1 ≤ a2
            · exact .inr (.inl ⟨by omega, h2, by split <;> omega⟩)
            · exact .inr (.inr ⟨by omega, by omega, by split <;> omega⟩)
        obtain ⟨tn, htn⟩ : ∃ tn, dead s a2 = tn := ⟨_, rfl⟩
        have TN : Hid (tickS ⟨s, []⟩ a2 = ⟨tn, []⟩) := by unfold Hid tickS; rw [htn]
        have tn0 : s ≤ tn := by rw [← htn]; exact dead_ge W0.out.2 m0
        rw [htn] at hcases
        clear htn
        go_wp2_with fail
        refine (now_in HH.out (List.mem_cons_self ..)).mono ?_
        rintro e w4 ⟨rfl, rfl⟩
        rcases hcases with hq | ⟨hq, hq1, hq2⟩ | ⟨hq, hq1, hq2⟩
        · have D1 : Hid (dead s a1 = 18446744073709551615) := by unfold Hid dead top; rw [if_neg (by omega)]
          have hq3 : 18446744073709551615 - s < a1 := by omega
          have hq4 : ¬ (18446744073709551615 : Int) < s := by omega
          go_wp2_with fail
          refine (dead_any s a1 W0.out.1 W0.out.2 B1.out.1 B1.out.2 _).mono ?_
          rintro e w5 ⟨rfl, rfl⟩
          rw [D1.out]
          go_wp2_with fail
          refine (tick_in HH.out K0.out a2 M1.out.1 M1.out.2).mono ?_
          rintro e w4 ⟨rfl, h4⟩
          rw [TN.out] at h4
          have H4 := Lib.hid h4; clear h4
          go_wp2_with fail
          refine (dead_any s 0 W0.out.1 W0.out.2 (by decide) (by decide) _).mono ?_
          rintro e w5 ⟨rfl, rfl⟩
          rw [Z0.out]
          go_wp2_with fail
          go_ret
          exact ⟨rfl, H4.out.below⟩
        all_goals
          have D1 : Hid (dead s a1 = s + a1) := by unfold Hid dead top; rw [if_pos (by omega)]
          have hq3 : ¬ 18446744073709551615 - s < a1 := by omega
          have hq4 : ¬ s + a1 < s := by omega
          have hx : decide (s + a1 ≤ tn) = decide (a1 ≤ a2) := by
            first
              | rw [decide_eq_true hq2, decide_eq_true hq1]
              | rw [decide_eq_false (by omega), decide_eq_false (by omega)]
          go_wp2_with fail
          refine (dead_any s a1 W0.out.1 W0.out.2 B1.out.1 B1.out.2 _).mono ?_
          rintro e w5 ⟨rfl, rfl⟩
          rw [D1.out]
          go_wp2_with fail
          refine (tick_in HH.out K0.out a2 M1.out.1 M1.out.2).mono ?_
          rintro e w4 ⟨rfl, h4⟩
          rw [TN.out] at h4
          have H4 := Lib.hid h4; clear h4
          go_wp2_with fail
          refine (dead_any s 0 W0.out.1 W0.out.2 (by decide) (by decide) _).mono ?_
          rintro e w5 ⟨rfl, rfl⟩
          rw [Z0.out]
          go_wp2_with fail
          refine (now_in H4.out (List.mem_cons_self ..)).mono ?_
          rintro e w5 ⟨rfl, rfl⟩
          go_wp2_with fail
          go_ret
          exact ⟨rfl, H4.out.below⟩
theorem own : ownKnob Try.prog.godebug = none := by kernel_rfl
theorem laidOut : laidOutB Try.prog = true := by kernel_rfl
theorem cells_uint64 : Try.prog.cellsOf 23 = 1 := by kernel_rfl
set_option maxRecDepth 100000 in
theorem lifted (os : Os) (started : os.Started) (H : Type) (enc : TypeId × Value → H) :
    ReturnsInHanded {} Try.checked os 6 .any (Rows.sourceDeadlineSpec.pre6 enc Try.prog Try.f6 Rows.sourceDeadlineRow.domain false) (Rows.sourceDeadlineSpec.post enc Try.prog Try.f6 false true false false) := by
  refine returnsInHanded_of_change (C := Try.checked) own started (by kernel_rfl) Try.func6
    (ChangeSpec.witness6 (enc := enc) (C := Try.checked) false ⟨#[], #[.slice none 0 0, .int .u64 0, .int .u64 0], []⟩ 8 (by kernel_rfl) (by kernel_rfl) (by kernel_rfl) (by kernel_rfl)) ?_
  intro W base args ds gs before hval0 hW hcnd _
  have hval : ∀ (j : Nat) t v, Try.f6.params[j]? = some t → args[j]? = some v → Value.okWide Try.prog W .any base t v := hval0
  have hW' := hW
  obtain ⟨p, q, hA0, hV, rfl, hfz, hnd⟩ := hW
  have hA : DataW.TrodAll enc Try.prog W 0 (fun _ => true) true Try.f6.params.toList args.toList ds p := hA0
  rw [Try.params6] at hA hval
  obtain ⟨v0, vs0, d0, ds0, p0, q0, hargs, rfl, rfl, h0, r0⟩ := trodAll_cons hA
  obtain ⟨v1, vs1, d1, ds1, p1, q1, rfl, rfl, rfl, h1, r1⟩ := trodAll_cons r0
  obtain ⟨v2, vs2, d2, ds2, p2, q2, rfl, rfl, rfl, h2, r2⟩ := trodAll_cons r1
  obtain ⟨rfl, rfl, rfl⟩ := trodAll_nil r2
  obtain rfl : args = #[v0, v1, v2] := by cases args; simp_all
  obtain ⟨rfl, rfl⟩ := trodVars_none hV
  obtain ⟨a0, w0, z0⟩ := lift.open_row Try.underlying28 Try.underlying23 cells_uint64 (okWide_slice Try.underlying28 (hval 0 28 v0 rfl rfl)) h0
  obtain ⟨a1, rfl, rfl, rfl, w1⟩ := open_int Try.underlying23 (hval 1 23 v1 rfl rfl) h1
  obtain ⟨a2, rfl, rfl, rfl, w2⟩ := open_int Try.underlying23 (hval 2 23 v2 rfl rfl) h2
  clear hA0 hval0
  refine (walk v0 a0 a1 a2 w1 w2 W w0 z0).mono fun e W' ⟨he, hb⟩ => ?_
  subst he
  exact ⟨_, rfl, lift.post_law (tb := 4) laidOut (by rw [Try.params6]; exact fun t ht => (of_decide_eq_true (by kernel_rfl) : ∀ t ∈ [28, 23, 23], Try.prog.readableRec t = true ∧ t < Try.prog.types.size) t ht) (by kernel_rfl) Try.underlying4 rfl hW' rfl hb⟩
theorem over : Rows.sourceDeadlineRow.holds Try.pinned (OpenSpec.ofChange Rows.sourceDeadlineSpec) :=
  OpenClaim.holds_of_wide 6 Try.f6 rfl rfl rfl rfl rfl rfl rfl ⟨rfl, rfl, rfl, rfl, rfl⟩ rfl rfl rfl rfl rfl (by kernel_rfl) Try.func6 (by kernel_rfl)
    (of_decide_eq_true (by kernel_rfl)) (by unfold Func.isWrapper; first | (rw [if_pos (by decide +kernel)]; kernel_rfl) | (rw [if_neg (by decide +kernel)]; exact ⟨rfl, rfl⟩))
    (fun os started H enc _ => lifted os started H enc)
theorem proved : Rows.SourceDeadlineSaid :=
  over
end Go.Proofs.Ythncogpkhaheeaa.sourceDeadline
