/- PackTurns: for any two words and any index, as far as one word is behind another one, so far is that one behind it, from the other side; no index counts: no condition. -/
import Derived.Test.YtopfabbdcfonjaaPack
import Derived.Test.YtopfabbdcfonjaaLift
namespace Go.Proofs.Ytopfabbdcfonjaa.packTurns
open Go.ChangeShapes Go.WideShapes Go.ChangeAt Go.RowKit pk
set_option linter.unusedVariables false
theorem ahead_self (v i : Int) (h0 : 0 ≤ v) (h1 : v ≤ 18446744073709551615) (h2 : 0 ≤ i) (h3 : i ≤ 4294967295) (w : World) :
    Calls Try.prog 18 #[.int .u64 v, .int .u64 (v / 4294967296 * 4294967296 + i)] w fun e w' => e = .returned (.int .u32 0) ∧ Below w.heap.size w w' :=
  (ahead_any _ _ h0 h1 (by omega) (by omega) w).mono fun e w' ⟨he, hw⟩ => ⟨by rw [he, show ah v (v / 4294967296 * 4294967296 + i) = 0 from by unfold ah; omega], hw⟩
theorem ahead_blind (v u i : Int) (h0 : 0 ≤ v) (h1 : v ≤ 18446744073709551615) (h2 : 0 ≤ i) (h3 : i ≤ 4294967295) (h4 : 0 ≤ u) (h5 : u ≤ 18446744073709551615) (w : World) :
    Calls Try.prog 18 #[.int .u64 (v / 4294967296 * 4294967296 + i), .int .u64 u] w fun e w' => e = .returned (.int .u32 (ah v u)) ∧ Below w.heap.size w w' :=
  (ahead_any _ _ (by omega) (by omega) h4 h5 w).mono fun e w' ⟨he, hw⟩ => ⟨by rw [he, show ah (v / 4294967296 * 4294967296 + i) u = ah v u from by unfold ah; omega], hw⟩
theorem walk (a0 a1 a2 : Int) (f0 : (Lit.int .u64 a0).wf = true) (f1 : (Lit.int .u64 a1).wf = true) (f2 : (Lit.int .u32 a2).wf = true) (w : World) :
    Calls Try.prog 6 #[.int .u64 a0, .int .u64 a1, .int .u32 a2] w fun e w' => e = .returned (.bool true) ∧ Below w.heap.size w w' := by
  obtain ⟨h0, h0'⟩ := lift.bd_u64 f0
  obtain ⟨h1, h1'⟩ := lift.bd_u64 f1
  obtain ⟨h2, h2'⟩ := lift.bd_u32 f2
  clear f0 f1 f2
  have g1 := ah_bd a0 a1
  have g2 := ah_bd a1 a0
  have hs : ((ah a0 a1 + ah a1 a0) % 4294967296 == 0) = true := by
    rw [beq_iff_eq]; unfold ah; omega
  have hz : (ah a0 a1 == 0) = (a0 / 4294967296 == a1 / 4294967296) := by
    rw [Bool.eq_iff_iff]; simp only [beq_iff_eq]; unfold ah; omega
  have HZ := Lib.hid hz; clear hz
  go_enter Try.func6, Try.ntmps6
  go_wp2_with fail
  refine (shown_any _).mono ?_
  rintro e w10 ⟨rfl, hb⟩
  go_wp2_with fail
  refine (tag_any _ h0 h0' _).mono ?_
  rintro e w11 ⟨rfl, hb2⟩; replace hb := below_trans hb hb2; clear hb2
  go_wp2_with fail
  refine (word_any _ _ h2 h2' (by omega) (by omega) _).mono ?_
  rintro e w12 ⟨rfl, rfl⟩
  go_wp2_with fail
  refine (ahead_any _ _ h0 h0' h1 h1' _).mono ?_
  rintro e w13 ⟨rfl, hb2⟩; replace hb := below_trans hb hb2; clear hb2
  go_wp2_with fail
  refine (ahead_any _ _ h1 h1' h0 h0' _).mono ?_
  rintro e w14 ⟨rfl, hb2⟩; replace hb := below_trans hb hb2; clear hb2
  go_wp2_with fail
  refine (ahead_self _ _ h0 h0' h2 h2' _).mono ?_
  rintro e w15 ⟨rfl, hb2⟩; replace hb := below_trans hb hb2; clear hb2
  go_wp2_with fail
  refine (ahead_blind _ _ _ h0 h0' h2 h2' h1 h1' _).mono ?_
  rintro e w16 ⟨rfl, hb2⟩; replace hb := below_trans hb hb2; clear hb2
  go_wp2_with fail
  refine (ahead_any _ _ h0 h0' h1 h1' _).mono ?_
  rintro e w17 ⟨rfl, hb2⟩; replace hb := below_trans hb hb2; clear hb2
  go_wp2_with fail
  refine (ahead_any _ _ h0 h0' h1 h1' _).mono ?_
  rintro e w18 ⟨rfl, hb2⟩; replace hb := below_trans hb hb2; clear hb2
  go_wp2_with fail
  refine (tag_any _ h0 h0' _).mono ?_
  rintro e w19 ⟨rfl, hb2⟩; replace hb := below_trans hb hb2; clear hb2
  go_wp2_with fail
  refine (tag_any _ h1 h1' _).mono ?_
  rintro e w20 ⟨rfl, hb2⟩; replace hb := below_trans hb hb2; clear hb2
  go_wp2_with fail
  go_ret
  exact ⟨by simp [HZ.out], hb⟩
theorem own : ownKnob Try.prog.godebug = none := by kernel_rfl
theorem laidOut : laidOutB Try.prog = true := by kernel_rfl
set_option maxRecDepth 100000 in
theorem lifted (os : Os) (started : os.Started) (H : Type) (enc : TypeId × Value → H) :
    ReturnsInHanded {} Try.checked os 6 .any (Rows.packTurnsSpec.pre6 enc Try.prog Try.f6 Rows.packTurnsRow.domain false) (Rows.packTurnsSpec.post enc Try.prog Try.f6 false true false false) := by
  refine returnsInHanded_of_change (C := Try.checked) own started (by kernel_rfl) Try.func6
    (ChangeSpec.witness6 (enc := enc) (C := Try.checked) false ⟨#[], #[.int .u64 0, .int .u64 0, .int .u32 0], []⟩ 8 (by kernel_rfl) (by kernel_rfl) (by kernel_rfl) (by kernel_rfl)) ?_
  intro W base args ds gs before hval0 hW hcnd _
  have hval : ∀ (j : Nat) t v, Try.f6.params[j]? = some t → args[j]? = some v → Value.okWide Try.prog W .any base t v := hval0
  have hW' := hW
  obtain ⟨p, q, hA0, hV, rfl, hfz, hnd⟩ := hW
  have hA : DataW.TrodAll enc Try.prog W 0 (fun _ => true) true Try.f6.params.toList args.toList ds p := hA0
  rw [Try.params6] at hA hval
  obtain ⟨v0, vs0, d0, ds0, p0, q0, hargs, rfl, rfl, h0, r0⟩ := trodAll_cons hA
  obtain ⟨v1, vs1, d1, ds1, p1, q1, rfl, rfl, rfl, h1, r1⟩ := trodAll_cons r0
  obtain ⟨v2, vs2, d2, ds2, p2, q2, rfl, rfl, rfl, h2, r2⟩ := trodAll_cons r1
  obtain ⟨rfl, rfl, rfl⟩ := trodAll_nil r2
  obtain rfl : args = #[v0, v1, v2] := by cases args; simp_all
  obtain ⟨rfl, rfl⟩ := trodVars_none hV
  obtain ⟨a0, rfl, rfl, rfl, w0⟩ := open_int Try.underlying23 (hval 0 23 v0 rfl rfl) h0
  obtain ⟨a1, rfl, rfl, rfl, w1⟩ := open_int Try.underlying23 (hval 1 23 v1 rfl rfl) h1
  obtain ⟨a2, rfl, rfl, rfl, w2⟩ := open_int Try.underlying22 (hval 2 22 v2 rfl rfl) h2
  clear hA0 hval0
  refine (walk a0 a1 a2 w0 w1 w2 W).mono fun e W' ⟨he, hb⟩ => ?_
  subst he
  exact ⟨_, rfl, lift.post_law (tb := 4) laidOut (by rw [Try.params6]; exact fun t ht => (of_decide_eq_true (by kernel_rfl) : ∀ t ∈ [23, 23, 22], Try.prog.readableRec t = true ∧ t < Try.prog.types.size) t ht) (by kernel_rfl) Try.underlying4 rfl hW' rfl hb⟩
theorem over : Rows.packTurnsRow.holds Try.pinned (OpenSpec.ofChange Rows.packTurnsSpec) :=
  OpenClaim.holds_of_wide 6 Try.f6 rfl rfl rfl rfl rfl rfl rfl ⟨rfl, rfl, rfl, rfl, rfl⟩ rfl rfl rfl rfl rfl (by kernel_rfl) Try.func6 (by kernel_rfl)
    (of_decide_eq_true (by kernel_rfl)) (by unfold Func.isWrapper; first | (rw [if_pos (by decide +kernel)]; kernel_rfl) | (rw [if_neg (by decide +kernel)]; exact ⟨rfl, rfl⟩))
    (fun os started H enc _ => lifted os started H enc)
theorem proved : Rows.PackTurnsSaid :=
  over
end Go.Proofs.Ytopfabbdcfonjaa.packTurns
