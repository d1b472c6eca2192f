/- SourceRanges: a draw is below what it is divided by, and not below 0; by 1 it is 0; one that is less than that is told as it is: no condition. -/
import Derived.Test.YthncogpkhaheeaaSrcB
namespace Go.Proofs.Ythncogpkhaheeaa.sourceRanges
open Go.ChangeShapes Go.WideShapes Go.ChangeAt Go.RowKit frame lift sep src
set_option linter.unusedVariables false
set_option maxHeartbeats 4000000 in
theorem walk (a0 a1 : Int) (f0 : (Lit.int .u64 a0).wf = true) (f1 : (Lit.int .i64 a1).wf = true) (w : World) :
    Calls Try.prog 8 #[.int .u64 a0, .int .i64 a1] w fun e w' => e = .returned (.bool true) ∧ Below w.heap.size w w' := by
  obtain ⟨d0, d1⟩ := bd_u64 f0
  obtain ⟨c0, c1⟩ := bd_i64 f1
  obtain ⟨x, hx⟩ : ∃ x, a0 % 64 = x := ⟨_, rfl⟩
  have x0 : 0 ≤ x ∧ x ≤ 63 := by omega
  obtain ⟨p, hp⟩ : ∃ p, pickI a1 200 = p := ⟨_, rfl⟩
  have hpb := pickI_bd a1 200 (by decide)
  rw [hp] at hpb
  obtain ⟨x0, x1⟩ := x0
  obtain ⟨p0, p1⟩ := hpb
  obtain ⟨n, hn⟩ : ∃ n, 1 + p = n := ⟨_, rfl⟩
  have nb : 1 ≤ n ∧ n ≤ 200 := by omega
  obtain ⟨nb0, nb1⟩ := nb
  have hwn : IntKind.u64.wrap n = n := by rw [IntKind.wrap_u64]; omega
  have HP := Lib.hid hp
  have HX := Lib.hid hx
  have ea : addE x = 0 := by simp [addE, x1]
  have es1 : addS ⟨0, []⟩ x = ⟨0, [x]⟩ := by simp [addS, x1]
  have es2 : addS ⟨0, [x]⟩ x = ⟨0, [x, x]⟩ := by simp [addS, x1]
  have k2 : ScOk ⟨0, [x, x]⟩ := ⟨Int.le_refl _, by show (0 : Int) ≤ top; decide, fun d hd => by simp at hd; omega⟩
  have k3 : ScOk ⟨0, [x]⟩ := ⟨Int.le_refl _, by show (0 : Int) ≤ top; decide, fun d hd => by simp at hd; omega⟩
  have v1 : drawV ⟨0, [x, x]⟩ n = x % n ∧ drawS ⟨0, [x, x]⟩ n = ⟨0, [x]⟩ := by
    have : ¬ n < 1 := by omega
    simp [drawV, drawS, this]
  have v2 : drawV ⟨0, [x]⟩ 1 = 0 ∧ drawS ⟨0, [x]⟩ 1 = ⟨0, []⟩ := by simp [drawV, drawS]
  have EA := Lib.hid ea; have ES1 := Lib.hid es1; have ES2 := Lib.hid es2; have K2 := Lib.hid k2; have K3 := Lib.hid k3; have V1 := Lib.hid v1; have V2 := Lib.hid v2
  have y0 : 0 ≤ x % n := Int.emod_nonneg _ (by omega)
  have y1 : x % n < n := Int.emod_lt_of_pos _ (by omega)
  have hc : (x < n ∧ x % n = x) ∨ (n ≤ x ∧ x % n < x) := by
    by_cases h : x < n
    · exact .inl ⟨h, Int.emod_eq_of_lt x0 h⟩
    · exact .inr ⟨by omega, by omega⟩
  obtain ⟨y, hy⟩ : ∃ y, x % n = y := ⟨_, rfl⟩
  rw [hy] at y0 y1 hc
  have HY := Lib.hid hy
  have hwy : IntKind.u64.wrap y = y := by rw [IntKind.wrap_u64]; omega
  clear hx hp ea es1 es2 k2 k3 v1 v2 hy f0 f1
  go_enter Try.func8, Try.ntmps8
  go_wp2_with fail
  refine (shown_in (Hold.empty w)).mono ?_
  rintro e w1 ⟨rfl, h1⟩
  have H1 := Lib.hid h1; clear h1
  go_wp2_with fail
  refine (new_in H1.out).mono ?_
  rintro e w2 ⟨a, rfl, h2⟩
  have H2 := Lib.hid h2; clear h2
  go_wp2_with fail
  refine (pick_any a1 200 c0 c1 (by decide) (by decide) w2).mono ?_
  rintro e w3 ⟨rfl, rfl⟩
  rw [HP.out]
  go_wp2_with fail
  rw [HX.out]
  clear hn
  refine (add_in H2.out (by simp) x x0 (by unfold top; omega)).mono ?_
  rintro e w3 ⟨rfl, h3⟩
  rw [EA.out]
  rw [ES1.out] at h3
  have H3 := Lib.hid h3; clear h3
  go_wp2_with fail
  refine (add_in H3.out (by simp) x x0 (by unfold top; omega)).mono ?_
  rintro e w4 ⟨rfl, h4⟩
  rw [EA.out]
  rw [ES2.out] at h4
  have H4 := Lib.hid h4; clear h4
  go_wp2_with fail
  refine (draw_in H4.out K2.out (by simp) n (by omega)).mono ?_
  rintro e w5 ⟨rfl, h5⟩
  rw [V1.out.1, HY.out]
  rw [V1.out.2] at h5
  have H5 := Lib.hid h5; clear h5
  go_wp2_with fail
  refine (draw_in H5.out K3.out (by simp) 1 (by decide)).mono ?_
  rintro e w6 ⟨rfl, h6⟩
  rw [V2.out.1]
  rw [V2.out.2] at h6
  have H6 := Lib.hid h6; clear h6
  have hx2 : (decide (y = x) == decide (x < n)) = true := by
    rcases hc with ⟨hc1, rfl⟩ | ⟨hc1, hc2⟩
    · simp [hc1]
    · rw [decide_eq_false (by omega), decide_eq_false (by omega)]
      rfl
  have hx5 : decide (y = x) = decide (x < n) := by simpa using hx2
  have hx4 : (y == x) = decide (x < n) := hx5
  go_wp2_with fail
  refine (left_in H6.out (List.mem_cons_self ..) (by simp)).mono ?_
  rintro e w7 ⟨rfl, nL, rfl⟩
  go_wp2_with fail
  go_ret
  exact ⟨rfl, (H6.out.drewN _).below⟩
theorem own : ownKnob Try.prog.godebug = none := by kernel_rfl
theorem laidOut : laidOutB Try.prog = true := by kernel_rfl
set_option maxRecDepth 100000 in
theorem lifted (os : Os) (started : os.Started) (H : Type) (enc : TypeId × Value → H) :
    ReturnsInHanded {} Try.checked os 8 .any (Rows.sourceRangesSpec.pre6 enc Try.prog Try.f8 Rows.sourceRangesRow.domain false) (Rows.sourceRangesSpec.post enc Try.prog Try.f8 false true false false) := by
  refine returnsInHanded_of_change (C := Try.checked) own started (by kernel_rfl) Try.func8
    (ChangeSpec.witness6 (enc := enc) (C := Try.checked) false ⟨#[], #[.int .u64 0, .int .i64 0], []⟩ 8 (by kernel_rfl) (by kernel_rfl) (by kernel_rfl) (by kernel_rfl)) ?_
  intro W base args ds gs before hval0 hW hcnd _
  have hval : ∀ (j : Nat) t v, Try.f8.params[j]? = some t → args[j]? = some v → Value.okWide Try.prog W .any base t v := hval0
  have hW' := hW
  obtain ⟨p, q, hA0, hV, rfl, hfz, hnd⟩ := hW
  have hA : DataW.TrodAll enc Try.prog W 0 (fun _ => true) true Try.f8.params.toList args.toList ds p := hA0
  rw [Try.params8] at hA hval
  obtain ⟨v0, vs0, d0, ds0, p0, q0, hargs, rfl, rfl, h0, r0⟩ := trodAll_cons hA
  obtain ⟨v1, vs1, d1, ds1, p1, q1, rfl, rfl, rfl, h1, r1⟩ := trodAll_cons r0
  obtain ⟨rfl, rfl, rfl⟩ := trodAll_nil r1
  obtain rfl : args = #[v0, v1] := by cases args; simp_all
  obtain ⟨rfl, rfl⟩ := trodVars_none hV
  obtain ⟨a0, rfl, rfl, rfl, w0⟩ := open_int Try.underlying23 (hval 0 23 v0 rfl rfl) h0
  obtain ⟨a1, rfl, rfl, rfl, w1⟩ := open_int Try.underlying3 (hval 1 3 v1 rfl rfl) h1
  clear hA0 hval0
  refine (walk a0 a1 w0 w1 W).mono fun e W' ⟨he, hb⟩ => ?_
  subst he
  exact ⟨_, rfl, lift.post_law (tb := 4) laidOut (by rw [Try.params8]; exact fun t ht => (of_decide_eq_true (by kernel_rfl) : ∀ t ∈ [23, 3], Try.prog.readableRec t = true ∧ t < Try.prog.types.size) t ht) (by kernel_rfl) Try.underlying4 rfl hW' rfl hb⟩
theorem over : Rows.sourceRangesRow.holds Try.pinned (OpenSpec.ofChange Rows.sourceRangesSpec) :=
  OpenClaim.holds_of_wide 8 Try.f8 rfl rfl rfl rfl rfl rfl rfl ⟨rfl, rfl, rfl, rfl, rfl⟩ rfl rfl rfl rfl rfl (by kernel_rfl) Try.func8 (by kernel_rfl)
    (of_decide_eq_true (by kernel_rfl)) (by unfold Func.isWrapper; first | (rw [if_pos (by decide +kernel)]; kernel_rfl) | (rw [if_neg (by decide +kernel)]; exact ⟨rfl, rfl⟩))
    (fun os started H enc _ => lifted os started H enc)
theorem proved : Rows.SourceRangesSaid :=
  over
end Go.Proofs.Ythncogpkhaheeaa.sourceRanges
