/- SourceTicks: a tick of nothing changes nothing; ticks in another order lead to the same time: no condition. -/
import Derived.Test.YthncogpkhaheeaaSrcB
namespace Go.Proofs.Ythncogpkhaheeaa.sourceTicks
open Go.ChangeShapes Go.WideShapes Go.ChangeAt Go.RowKit frame lift sep src
set_option linter.unusedVariables false
theorem ok_dead {s : Int} (h : 0 ≤ s) : ScOk ⟨dead 0 s, []⟩ := by
  obtain ⟨h1, h2⟩ := dead_bd (Int.le_refl 0) h
  exact ⟨h1, h2, fun d hd => by simp at hd⟩
set_option maxHeartbeats 4000000 in
theorem walk (v0 : Value) (l : List Int) (w : World) (f0 : Ints w .u64 v0 l) (z0 : Fit .u64 l) :
    Calls Try.prog 9 #[v0] w fun e w' => e = .returned (.bool true) ∧ Below w.heap.size w w' := by
  have HZ := Lib.hid z0; have HN := Lib.hid (fit_nonneg z0)
  obtain ⟨a0, c0, rfl, hf⟩ := u64_form f0
  have HF := Lib.hid hf
  clear f0 z0 hf
  by_cases hbig : 50 < l.length
  · have hbi : (50 : Int) < (l.length : Int) := by omega
    go_enter Try.func9, Try.ntmps9
    go_wp2_with fail
    refine (shown_in (Hold.empty w)).mono ?_
    rintro e w1 ⟨rfl, h1⟩
    have H1 := Lib.hid h1; clear h1
    go_wp2_with fail
    refine (new_in H1.out).mono ?_
    rintro e w2 ⟨a, rfl, h2⟩
    have H2 := Lib.hid h2; clear h2
    go_wp2_with fail
    refine (new_in H2.out).mono ?_
    rintro e w3 ⟨b, rfl, h3⟩
    have H3 := Lib.hid h3; clear h3
    go_wp2_with fail
    go_ret
    exact ⟨rfl, H3.out.below⟩
  · have hbi : ¬ (50 : Int) < (l.length : Int) := by omega
    go_enter Try.func9, Try.ntmps9
    go_wp2_with fail
    refine (shown_in (Hold.empty w)).mono ?_
    rintro e w1 ⟨rfl, h1⟩
    have H1 := Lib.hid h1; clear h1
    go_wp2_with fail
    refine (new_in H1.out).mono ?_
    rintro e w2 ⟨a, rfl, h2⟩
    have H2 := Lib.hid h2; clear h2
    go_wp2_with fail
    refine (new_in H2.out).mono ?_
    rintro e w3 ⟨b, rfl, h3⟩
    have H3 := Lib.hid h3; clear h3
    go_wp2_with fail
    go_loopw [6] (fun i wr => ∃ k : Nat, k ≤ l.length ∧ i = .int .i64 k ∧ Hid (Hold (fun _ => False) w [src b ⟨dead 0 (l.drop (l.length - k)).sum, []⟩, src a ⟨dead 0 (l.take k).sum, []⟩] wr)) (fun i _ => l.length - (intOf i).toNat)
    case atStart => exact ⟨0, Nat.zero_le _, rfl, by
      have h := H3.out
      have e1 : (l.drop (l.length - 0)).sum = 0 := by simp
      have e2 : (l.take 0).sum = 0 := by simp
      have e3 : dead 0 0 = 0 := by decide
      unfold Hid
      rw [e1, e2, e3]
      exact h⟩
    case round =>
      obtain ⟨k, hk, rfl, HH⟩ := hrel
      by_cases hlt : k < l.length
      · obtain ⟨g, o, rfl, hg, hc⟩ := HF.out (by omega)
        have e0 := (HH.out.below.cell (p := ⟨g, o + k, none⟩) hg).trans (hc k hlt)
        obtain ⟨j, hj⟩ : ∃ j, l.length - 1 - k = j := ⟨_, rfl⟩
        have hjl : j < l.length := by omega
        have HCJ := Lib.hid (hc j hjl)
        have hji : (l.length : Int) - 1 - (k : Int) = (j : Int) := by omega
        obtain ⟨n0, n1⟩ := nth_u64 HZ.out k
        obtain ⟨m0, m1⟩ := nth_u64 HZ.out j
        have s1 := sum_nonneg (l.take k) (fun x hx => HN.out x (List.mem_of_mem_take hx))
        have s2 := sum_nonneg (l.drop (l.length - k)) (fun x hx => HN.out x (List.mem_of_mem_drop hx))
        have t1 : tickS ⟨dead 0 (l.take k).sum, []⟩ (nth l k) = ⟨dead 0 (l.take (k + 1)).sum, []⟩ := by
          unfold tickS
          rw [dead_add s1 n0, sum_take hlt]
        have t2 : tickS ⟨dead 0 (l.take (k + 1)).sum, []⟩ 0 = ⟨dead 0 (l.take (k + 1)).sum, []⟩ := by
          unfold tickS
          rw [dead_zero (dead_bd (Int.le_refl 0) (by rw [sum_take hlt]; omega)).2]
        have t3 : tickS ⟨dead 0 (l.drop (l.length - k)).sum, []⟩ (nth l j) = ⟨dead 0 (l.drop (l.length - (k + 1))).sum, []⟩ := by
          unfold tickS
          rw [dead_add s2 m0]
          have e1 : l.length - (k + 1) = j := by omega
          have e2 : l.length - k = j + 1 := by omega
          rw [e1, e2, sum_drop hjl, Int.add_comm]
        have T1 := Lib.hid t1; have T2 := Lib.hid t2; have T3 := Lib.hid t3
        have K1 := Lib.hid (ok_dead s1); have K2 := Lib.hid (ok_dead s2)
        have K3 : Hid (ScOk ⟨dead 0 (l.take (k + 1)).sum, []⟩) := ok_dead (by rw [sum_take hlt]; omega)
        have N0 := Lib.hid n0; have N1 := Lib.hid n1; have M0 := Lib.hid m0; have M1 := Lib.hid m1
        have hi1 : (0 : Int) ≤ (k : Int) := by omega
        have hi2 : (k : Int) < (l.length : Int) := by omega
        clear hc t1 t2 t3 s1 s2 n0 n1 m0 m1 hj
        go_wp2_with fail
        refine (tick_in HH.out.swap K1.out (nth l k) N0.out N1.out).mono ?_
        rintro e w4 ⟨rfl, h4⟩
        rw [T1.out] at h4
        have H4 := Lib.hid h4; clear h4
        go_wp2_with fail
        refine (tick_in H4.out K3.out 0 (by decide) (by decide)).mono ?_
        rintro e w5 ⟨rfl, h5⟩
        rw [T2.out] at h5
        have e5 := (h5.below.cell (p := ⟨g, o + j, none⟩) hg).trans HCJ.out
        have H5 := Lib.hid h5.swap; clear h5
        go_wp2_with fail
        refine (tick_in H5.out K2.out (nth l j) M0.out M1.out).mono ?_
        rintro e w6 ⟨rfl, h6⟩
        rw [T3.out] at h6
        have H6 := Lib.hid h6; clear h6
        go_wp2_with fail
        go_roundw
        case rel => exact ⟨k + 1, by omega, by go_num, H6.out⟩
        case measure => simp [intOf]; omega
      · obtain rfl : k = l.length := by omega
        have e1 : (l.drop (l.length - l.length)).sum = l.sum := by simp
        have e2 : (l.take l.length).sum = l.sum := by rw [List.take_length]
        rw [e1, e2] at HH
        obtain ⟨t, ht⟩ : ∃ t, dead 0 l.sum = t := ⟨_, rfl⟩
        rw [ht] at HH
        clear e1 e2 ht
        go_wp2_with fail
        refine (now_in HH.out (List.mem_cons_of_mem _ (List.mem_cons_self ..))).mono ?_
        rintro e w4 ⟨rfl, rfl⟩
        go_wp2_with fail
        refine (now_in HH.out (List.mem_cons_self ..)).mono ?_
        rintro e w4 ⟨rfl, rfl⟩
        go_wp2_with fail
        go_ret
        exact ⟨rfl, HH.out.below⟩
theorem own : ownKnob Try.prog.godebug = none := by kernel_rfl
theorem laidOut : laidOutB Try.prog = true := by kernel_rfl
theorem cells_uint64 : Try.prog.cellsOf 23 = 1 := by kernel_rfl
set_option maxRecDepth 100000 in
theorem lifted (os : Os) (started : os.Started) (H : Type) (enc : TypeId × Value → H) :
    ReturnsInHanded {} Try.checked os 9 .any (Rows.sourceTicksSpec.pre6 enc Try.prog Try.f9 Rows.sourceTicksRow.domain false) (Rows.sourceTicksSpec.post enc Try.prog Try.f9 false true false false) := by
  refine returnsInHanded_of_change (C := Try.checked) own started (by kernel_rfl) Try.func9
    (ChangeSpec.witness6 (enc := enc) (C := Try.checked) false ⟨#[], #[.slice none 0 0], []⟩ 8 (by kernel_rfl) (by kernel_rfl) (by kernel_rfl) (by kernel_rfl)) ?_
  intro W base args ds gs before hval0 hW hcnd _
  have hval : ∀ (j : Nat) t v, Try.f9.params[j]? = some t → args[j]? = some v → Value.okWide Try.prog W .any base t v := hval0
  have hW' := hW
  obtain ⟨p, q, hA0, hV, rfl, hfz, hnd⟩ := hW
  have hA : DataW.TrodAll enc Try.prog W 0 (fun _ => true) true Try.f9.params.toList args.toList ds p := hA0
  rw [Try.params9] at hA hval
  obtain ⟨v0, vs0, d0, ds0, p0, q0, hargs, rfl, rfl, h0, r0⟩ := trodAll_cons hA
  obtain ⟨rfl, rfl, rfl⟩ := trodAll_nil r0
  obtain rfl : args = #[v0] := by cases args; simp_all
  obtain ⟨rfl, rfl⟩ := trodVars_none hV
  obtain ⟨a0, w0, z0⟩ := lift.open_row Try.underlying28 Try.underlying23 cells_uint64 (okWide_slice Try.underlying28 (hval 0 28 v0 rfl rfl)) h0
  clear hA0 hval0
  refine (walk v0 a0 W w0 z0).mono fun e W' ⟨he, hb⟩ => ?_
  subst he
  exact ⟨_, rfl, lift.post_law (tb := 4) laidOut (by rw [Try.params9]; exact fun t ht => (of_decide_eq_true (by kernel_rfl) : ∀ t ∈ [28], Try.prog.readableRec t = true ∧ t < Try.prog.types.size) t ht) (by kernel_rfl) Try.underlying4 rfl hW' rfl hb⟩
theorem over : Rows.sourceTicksRow.holds Try.pinned (OpenSpec.ofChange Rows.sourceTicksSpec) :=
  OpenClaim.holds_of_wide 9 Try.f9 rfl rfl rfl rfl rfl rfl rfl ⟨rfl, rfl, rfl, rfl, rfl⟩ rfl rfl rfl rfl rfl (by kernel_rfl) Try.func9 (by kernel_rfl)
    (of_decide_eq_true (by kernel_rfl)) (by unfold Func.isWrapper; first | (rw [if_pos (by decide +kernel)]; kernel_rfl) | (rw [if_neg (by decide +kernel)]; exact ⟨rfl, rfl⟩))
    (fun os started H enc _ => lifted os started H enc)
theorem proved : Rows.SourceTicksSaid :=
  over
end Go.Proofs.Ythncogpkhaheeaa.sourceTicks
