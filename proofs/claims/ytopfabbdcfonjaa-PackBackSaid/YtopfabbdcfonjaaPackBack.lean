/- PackBack: for any two numbers of 32 bits and any two of 64, a word is its index and its tag, and nothing else: no condition. -/
import Derived.Test.YtopfabbdcfonjaaPack
import Derived.Test.YtopfabbdcfonjaaLift
namespace Go.Proofs.Ytopfabbdcfonjaa.packBack
open Go.ChangeShapes Go.WideShapes Go.ChangeAt Go.RowKit pk
set_option linter.unusedVariables false
theorem word_back (v : Int) (h0 : 0 ≤ v) (h1 : v ≤ 18446744073709551615) (w : World) :
    Calls Try.prog 10 #[.int .u32 (v % 4294967296), .int .u32 (v / 4294967296)] w fun e w' => e = .returned (.int .u64 v) ∧ w = w' :=
  (word_any _ _ (by omega) (by omega) (by omega) (by omega) w).mono fun e w' ⟨he, hw⟩ => ⟨by rw [he, show v / 4294967296 * 4294967296 + v % 4294967296 = v from by omega], hw⟩
theorem index_of (i t : Int) (h0 : 0 ≤ i) (h1 : i ≤ 4294967295) (h2 : 0 ≤ t) (h3 : t ≤ 4294967295) (w : World) :
    Calls Try.prog 12 #[.int .u64 (t * 4294967296 + i)] w fun e w' => e = .returned (.int .u32 i) ∧ Below w.heap.size w w' :=
  (index_any _ (by omega) (by omega) w).mono fun e w' ⟨he, hw⟩ => ⟨by rw [he, show (t * 4294967296 + i) % 4294967296 = i from by omega], hw⟩
theorem tag_of (i t : Int) (h0 : 0 ≤ i) (h1 : i ≤ 4294967295) (h2 : 0 ≤ t) (h3 : t ≤ 4294967295) (w : World) :
    Calls Try.prog 14 #[.int .u64 (t * 4294967296 + i)] w fun e w' => e = .returned (.int .u32 t) ∧ Below w.heap.size w w' :=
  (tag_any _ (by omega) (by omega) w).mono fun e w' ⟨he, hw⟩ => ⟨by rw [he, show (t * 4294967296 + i) / 4294967296 = t from by omega], hw⟩
theorem walk (a0 a1 a2 a3 : Int) (f0 : (Lit.int .u32 a0).wf = true) (f1 : (Lit.int .u32 a1).wf = true) (f2 : (Lit.int .u64 a2).wf = true) (f3 : (Lit.int .u64 a3).wf = true) (w : World) :
    Calls Try.prog 4 #[.int .u32 a0, .int .u32 a1, .int .u64 a2, .int .u64 a3] w fun e w' => e = .returned (.bool true) ∧ Below w.heap.size w w' := by
  obtain ⟨h0, h0'⟩ := lift.bd_u32 f0
  obtain ⟨h1, h1'⟩ := lift.bd_u32 f1
  obtain ⟨h2, h2'⟩ := lift.bd_u64 f2
  obtain ⟨h3, h3'⟩ := lift.bd_u64 f3
  clear f0 f1 f2 f3
  go_enter Try.func4, Try.ntmps4
  go_wp2_with fail
  refine (shown_any _).mono ?_
  rintro e w10 ⟨rfl, hb⟩
  go_wp2_with fail
  refine (word_any _ _ h0 h0' h1 h1' _).mono ?_
  rintro e w11 ⟨rfl, rfl⟩
  go_wp2_with fail
  refine (index_of _ _ h0 h0' h1 h1' _).mono ?_
  rintro e w12 ⟨rfl, hb2⟩; replace hb := below_trans hb hb2; clear hb2
  go_wp2_with fail
  refine (tag_of _ _ h0 h0' h1 h1' _).mono ?_
  rintro e w13 ⟨rfl, hb2⟩; replace hb := below_trans hb hb2; clear hb2
  go_wp2_with fail
  refine (index_any _ h2 h2' _).mono ?_
  rintro e w14 ⟨rfl, hb2⟩; replace hb := below_trans hb hb2; clear hb2
  go_wp2_with fail
  refine (tag_any _ h2 h2' _).mono ?_
  rintro e w15 ⟨rfl, hb2⟩; replace hb := below_trans hb hb2; clear hb2
  go_wp2_with fail
  refine (word_back _ h2 h2' _).mono ?_
  rintro e w16 ⟨rfl, rfl⟩
  go_wp2_with fail
  by_cases he : a2 = a3
  · subst he
    refine (index_any _ h2 h2' _).mono ?_
    rintro e w17 ⟨rfl, hb2⟩; replace hb := below_trans hb hb2; clear hb2
    go_wp2_with fail
    refine (index_any _ h2 h2' _).mono ?_
    rintro e w18 ⟨rfl, hb2⟩; replace hb := below_trans hb hb2; clear hb2
    go_wp2_with fail
    refine (tag_any _ h2 h2' _).mono ?_
    rintro e w19 ⟨rfl, hb2⟩; replace hb := below_trans hb hb2; clear hb2
    go_wp2_with fail
    refine (tag_any _ h2 h2' _).mono ?_
    rintro e w20 ⟨rfl, hb2⟩; replace hb := below_trans hb hb2; clear hb2
    go_wp2_with fail
    go_ret
    exact ⟨rfl, hb⟩
  · have hq : (a2 == a3) = false := by simpa using he
    by_cases hi : a2 % 4294967296 = a3 % 4294967296
    · have hj : (a2 / 4294967296 == a3 / 4294967296) = false := by
        have : a2 / 4294967296 ≠ a3 / 4294967296 := by omega
        simpa using this
      have hk : (a2 % 4294967296 == a3 % 4294967296) = true := by simpa using hi
      clear he hi
      refine (index_any _ h2 h2' _).mono ?_
      rintro e w21 ⟨rfl, hb2⟩; replace hb := below_trans hb hb2; clear hb2
      go_wp2_with fail
      refine (index_any _ h3 h3' _).mono ?_
      rintro e w22 ⟨rfl, hb2⟩; replace hb := below_trans hb hb2; clear hb2
      go_wp2_with fail
      refine (tag_any _ h2 h2' _).mono ?_
      rintro e w23 ⟨rfl, hb2⟩; replace hb := below_trans hb hb2; clear hb2
      go_wp2_with fail
      refine (tag_any _ h3 h3' _).mono ?_
      rintro e w24 ⟨rfl, hb2⟩; replace hb := below_trans hb hb2; clear hb2
      go_wp2_with fail
      go_ret
      exact ⟨rfl, hb⟩
    · have hk : (a2 % 4294967296 == a3 % 4294967296) = false := by simpa using hi
      clear he hi
      refine (index_any _ h2 h2' _).mono ?_
      rintro e w25 ⟨rfl, hb2⟩; replace hb := below_trans hb hb2; clear hb2
      go_wp2_with fail
      refine (index_any _ h3 h3' _).mono ?_
      rintro e w26 ⟨rfl, hb2⟩; replace hb := below_trans hb hb2; clear hb2
      go_wp2_with fail
      go_ret
      exact ⟨rfl, hb⟩
theorem own : ownKnob Try.prog.godebug = none := by kernel_rfl
theorem laidOut : laidOutB Try.prog = true := by kernel_rfl
set_option maxRecDepth 100000 in
theorem lifted (os : Os) (started : os.Started) (H : Type) (enc : TypeId × Value → H) :
    ReturnsInHanded {} Try.checked os 4 .any (Rows.packBackSpec.pre6 enc Try.prog Try.f4 Rows.packBackRow.domain false) (Rows.packBackSpec.post enc Try.prog Try.f4 false true false false) := by
  refine returnsInHanded_of_change (C := Try.checked) own started (by kernel_rfl) Try.func4
    (ChangeSpec.witness6 (enc := enc) (C := Try.checked) false ⟨#[], #[.int .u32 0, .int .u32 0, .int .u64 0, .int .u64 0], []⟩ 8 (by kernel_rfl) (by kernel_rfl) (by kernel_rfl) (by kernel_rfl)) ?_
  intro W base args ds gs before hval0 hW hcnd _
  have hval : ∀ (j : Nat) t v, Try.f4.params[j]? = some t → args[j]? = some v → Value.okWide Try.prog W .any base t v := hval0
  have hW' := hW
  obtain ⟨p, q, hA0, hV, rfl, hfz, hnd⟩ := hW
  have hA : DataW.TrodAll enc Try.prog W 0 (fun _ => true) true Try.f4.params.toList args.toList ds p := hA0
  rw [Try.params4] at hA hval
  obtain ⟨v0, vs0, d0, ds0, p0, q0, hargs, rfl, rfl, h0, r0⟩ := trodAll_cons hA
  obtain ⟨v1, vs1, d1, ds1, p1, q1, rfl, rfl, rfl, h1, r1⟩ := trodAll_cons r0
  obtain ⟨v2, vs2, d2, ds2, p2, q2, rfl, rfl, rfl, h2, r2⟩ := trodAll_cons r1
  obtain ⟨v3, vs3, d3, ds3, p3, q3, rfl, rfl, rfl, h3, r3⟩ := trodAll_cons r2
  obtain ⟨rfl, rfl, rfl⟩ := trodAll_nil r3
  obtain rfl : args = #[v0, v1, v2, v3] := by cases args; simp_all
  obtain ⟨rfl, rfl⟩ := trodVars_none hV
  obtain ⟨a0, rfl, rfl, rfl, w0⟩ := open_int Try.underlying22 (hval 0 22 v0 rfl rfl) h0
  obtain ⟨a1, rfl, rfl, rfl, w1⟩ := open_int Try.underlying22 (hval 1 22 v1 rfl rfl) h1
  obtain ⟨a2, rfl, rfl, rfl, w2⟩ := open_int Try.underlying23 (hval 2 23 v2 rfl rfl) h2
  obtain ⟨a3, rfl, rfl, rfl, w3⟩ := open_int Try.underlying23 (hval 3 23 v3 rfl rfl) h3
  clear hA0 hval0
  refine (walk a0 a1 a2 a3 w0 w1 w2 w3 W).mono fun e W' ⟨he, hb⟩ => ?_
  subst he
  exact ⟨_, rfl, lift.post_law (tb := 4) laidOut (by rw [Try.params4]; exact fun t ht => (of_decide_eq_true (by kernel_rfl) : ∀ t ∈ [22, 22, 23, 23], Try.prog.readableRec t = true ∧ t < Try.prog.types.size) t ht) (by kernel_rfl) Try.underlying4 rfl hW' rfl hb⟩
theorem over : Rows.packBackRow.holds Try.pinned (OpenSpec.ofChange Rows.packBackSpec) :=
  OpenClaim.holds_of_wide 4 Try.f4 rfl rfl rfl rfl rfl rfl rfl ⟨rfl, rfl, rfl, rfl, rfl⟩ rfl rfl rfl rfl rfl (by kernel_rfl) Try.func4 (by kernel_rfl)
    (of_decide_eq_true (by kernel_rfl)) (by unfold Func.isWrapper; first | (rw [if_pos (by decide +kernel)]; kernel_rfl) | (rw [if_neg (by decide +kernel)]; exact ⟨rfl, rfl⟩))
    (fun os started H enc _ => lifted os started H enc)
theorem proved : Rows.PackBackSaid :=
  over
end Go.Proofs.Ytopfabbdcfonjaa.packBack
