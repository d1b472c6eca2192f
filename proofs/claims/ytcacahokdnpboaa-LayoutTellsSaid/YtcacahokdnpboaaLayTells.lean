/- LayoutTells: whether a config is right, where its things are, and its fresh words, are as the document's own answer says: no condition. -/
import Derived.Test.YtcacahokdnpboaaLayO
namespace Go.Proofs.Ytcacahokdnpboaa.layoutTells
open Go.ChangeShapes Go.WideShapes Go.ChangeAt Go.RowKit frame lift sep own join ly
set_option linter.unusedVariables false
set_option maxRecDepth 100000 in
set_option maxHeartbeats 16000000 in
theorem walk (c : Cf) (a1 a2 : Int) (f0 : CfIn c) (f1 : (Lit.int .u32 a1).wf = true) (f2 : (Lit.int .i64 a2).wf = true) (w : World) :
    Calls Try.prog 3 #[.agg #[.int .i64 c.nodes, .int .i64 c.slots, .int .i64 c.holders, .int .u32 c.tag], .int .u32 a1, .int .i64 a2] w fun e w' => e = .returned (.bool true) ∧ Below w.heap.size w w' := by
  obtain ⟨i0, i1⟩ := bd_u32 f1
  have HTG := Lib.hid f0.2
  have hlen : (freshL c).length ≤ 1000000 := by
    have h1 := fresh_len c
    unfold cellsN at h1
    split at h1
    · rename_i h
      unfold Ok at h
      omega
    · omega
  clear f0 f1 f2
  go_enter Try.func3, Try.ntmps3
  go_wp2_with fail
  have H0 := Lib.hid ((Hold.empty w).newBlk (Obj.cells #[.int .i64 c.nodes, .int .i64 c.slots, .int .i64 c.holders, .int .u32 c.tag] 24))
  obtain ⟨Bc, hBc⟩ : ∃ B, w.heap.size = B := ⟨_, rfl⟩
  refine (shown_any _).mono ?_
  rintro e w1 ⟨rfl, hb⟩
  have H1 := Lib.hid (H0.out.on hb)
  rw [hBc] at H1
  obtain ⟨c0, c1, c2, c3⟩ := cells4 H1.out
  clear hb
  go_wp2_with fail
  refine (as_any c _).mono ?_
  rintro e w2 ⟨rfl, hb⟩
  have h2 := ((H1.out.on hb).newBlk (Obj.cells #[.int .i64 c.nodes, .int .i64 c.slots, .int .i64 c.holders, .int .u32 c.tag] 26)).swap
  obtain ⟨Br, hBr⟩ : ∃ B, w2.heap.size = B := ⟨_, rfl⟩
  rw [hBr] at h2
  have H2 := Lib.hid h2
  obtain ⟨c0, c1, c2, c3⟩ := cells4 H2.out
  clear hb h2 hBc
  go_wp2_with fail
  refine (fresh_any c HTG.out _).mono ?_
  rintro e w3 ⟨ta, rfl, hta, hb⟩
  have H3 := Lib.hid (H2.out.on hb)
  have HA3 := Lib.hid hta.ints
  obtain ⟨r0, r1, r2, r3⟩ := cells4 H3.out.swap
  clear hb hta c0 c1 c2 c3 hBr
  go_wp2_with fail
  refine (rfresh_any c HTG.out _).mono ?_
  rintro e w4 ⟨tb, rfl, htb, hb⟩
  have H29 := Lib.hid (H3.out.on hb).drew
  have HA29 := Lib.hid ((HA3.out.below hb).below (Below.refl _ _).drew)
  have HB29 := Lib.hid (htb.ints.below (Below.refl _ _).drew)
  clear r0 r1 r2 r3 hb htb
  obtain ⟨c0, c1, c2, c3⟩ := cells4 (H29.out)
  obtain ⟨r0, r1, r2, r3⟩ := cells4 H29.out.swap
  go_wp2_with fail
  go_region_held3 (fun w' => w'.cell? ⟨Bc, 0, none⟩ = some (.int .i64 c.nodes) ∧ w'.cell? ⟨Bc, 1, none⟩ = some (.int .i64 c.slots) ∧ w'.cell? ⟨Bc, 2, none⟩ = some (.int .i64 c.holders) ∧ w'.cell? ⟨Bc, 3, none⟩ = some (.int .u32 c.tag) ∧ w'.cell? ⟨Br, 0, none⟩ = some (.int .i64 c.nodes) ∧ w'.cell? ⟨Br, 1, none⟩ = some (.int .i64 c.slots) ∧ w'.cell? ⟨Br, 2, none⟩ = some (.int .i64 c.holders) ∧ w'.cell? ⟨Br, 3, none⟩ = some (.int .u32 c.tag)) (go_keep) (first
      | (go_at_call 14; (refine (check_any c _).mono ?_); rintro e w30 ⟨rfl, hb⟩; (have H30 := Lib.hid (H29.out.on hb)); (have HA30 := Lib.hid (HA29.out.below hb)); (have HB30 := Lib.hid (HB29.out.below hb)); (obtain ⟨c0, c1, c2, c3⟩ := cells4 H30.out); (obtain ⟨r0, r1, r2, r3⟩ := cells4 H30.out.swap); clear hb)
      | (go_at_call 15; (refine (rcheck_any c _).mono ?_); rintro e w31 ⟨rfl, hb⟩; (have H31 := Lib.hid (H30.out.on hb)); (have HA31 := Lib.hid (HA30.out.below hb)); (have HB31 := Lib.hid (HB30.out.below hb)); (obtain ⟨c0, c1, c2, c3⟩ := cells4 H31.out); (obtain ⟨r0, r1, r2, r3⟩ := cells4 H31.out.swap); clear hb)
      | (go_at_call 16; (refine (next_any c a1 i0 i1 _).mono ?_); rintro e w32 ⟨rfl, hb⟩; (have H32 := Lib.hid (H31.out.on hb)); (have HA32 := Lib.hid (HA31.out.below hb)); (have HB32 := Lib.hid (HB31.out.below hb)); (obtain ⟨c0, c1, c2, c3⟩ := cells4 H32.out); (obtain ⟨r0, r1, r2, r3⟩ := cells4 H32.out.swap); clear hb)
      | (go_at_call 17; (refine (rnext_any c a1 i0 i1 _).mono ?_); rintro e w33 ⟨rfl, hb⟩; (have H33 := Lib.hid (H32.out.on hb)); (have HA33 := Lib.hid (HA32.out.below hb)); (have HB33 := Lib.hid (HB32.out.below hb)); (obtain ⟨c0, c1, c2, c3⟩ := cells4 H33.out); (obtain ⟨r0, r1, r2, r3⟩ := cells4 H33.out.swap); clear hb)
      | (go_at_call 18; (refine (value_any c a1 i0 i1 _).mono ?_); rintro e w34 ⟨rfl, hb⟩; (have H34 := Lib.hid (H33.out.on hb)); (have HA34 := Lib.hid (HA33.out.below hb)); (have HB34 := Lib.hid (HB33.out.below hb)); (obtain ⟨c0, c1, c2, c3⟩ := cells4 H34.out); (obtain ⟨r0, r1, r2, r3⟩ := cells4 H34.out.swap); clear hb)
      | (go_at_call 19; (refine (rvalue_any c a1 i0 i1 _).mono ?_); rintro e w35 ⟨rfl, hb⟩; (have H35 := Lib.hid (H34.out.on hb)); (have HA35 := Lib.hid (HA34.out.below hb)); (have HB35 := Lib.hid (HB34.out.below hb)); (obtain ⟨c0, c1, c2, c3⟩ := cells4 H35.out); (obtain ⟨r0, r1, r2, r3⟩ := cells4 H35.out.swap); clear hb)
      | (go_at_call 20; (refine (slot_any c a2 _).mono ?_); rintro e w36 ⟨rfl, hb⟩; (have H36 := Lib.hid (H35.out.on hb)); (have HA36 := Lib.hid (HA35.out.below hb)); (have HB36 := Lib.hid (HB35.out.below hb)); (obtain ⟨c0, c1, c2, c3⟩ := cells4 H36.out); (obtain ⟨r0, r1, r2, r3⟩ := cells4 H36.out.swap); clear hb)
      | (go_at_call 21; (refine (rslot_any c a2 _).mono ?_); rintro e w37 ⟨rfl, hb⟩; (have H37 := Lib.hid (H36.out.on hb)); (have HA37 := Lib.hid (HA36.out.below hb)); (have HB37 := Lib.hid (HB36.out.below hb)); (obtain ⟨c0, c1, c2, c3⟩ := cells4 H37.out); (obtain ⟨r0, r1, r2, r3⟩ := cells4 H37.out.swap); clear hb)
      | (go_at_call 22; (refine (holder_any c a2 _).mono ?_); rintro e w38 ⟨rfl, hb⟩; (have H38 := Lib.hid (H37.out.on hb)); (have HA38 := Lib.hid (HA37.out.below hb)); (have HB38 := Lib.hid (HB37.out.below hb)); (obtain ⟨c0, c1, c2, c3⟩ := cells4 H38.out); (obtain ⟨r0, r1, r2, r3⟩ := cells4 H38.out.swap); clear hb)
      | (go_at_call 23; (refine (rholder_any c a2 _).mono ?_); rintro e w39 ⟨rfl, hb⟩; (have H39 := Lib.hid (H38.out.on hb)); (have HA39 := Lib.hid (HA38.out.below hb)); (have HB39 := Lib.hid (HB38.out.below hb)); (obtain ⟨c0, c1, c2, c3⟩ := cells4 H39.out); (obtain ⟨r0, r1, r2, r3⟩ := cells4 H39.out.swap); clear hb)
      | (go_at_call 24; (refine (cells_any c _).mono ?_); rintro e w40 ⟨rfl, hb⟩; (have H40 := Lib.hid (H39.out.on hb)); (have HA40 := Lib.hid (HA39.out.below hb)); (have HB40 := Lib.hid (HB39.out.below hb)); (obtain ⟨c0, c1, c2, c3⟩ := cells4 H40.out); (obtain ⟨r0, r1, r2, r3⟩ := cells4 H40.out.swap); clear hb)
      | (go_at_call 25; (refine (rcells_any c _).mono ?_); rintro e w41 ⟨rfl, hb⟩; (have H41 := Lib.hid (H40.out.on hb)); (have HA41 := Lib.hid (HA40.out.below hb)); (have HB41 := Lib.hid (HB40.out.below hb)); (obtain ⟨c0, c1, c2, c3⟩ := cells4 H41.out); (obtain ⟨r0, r1, r2, r3⟩ := cells4 H41.out.swap); clear hb)
      | (go_at_call 26; (refine (words_any HA41.out HB41.out hlen).mono ?_); rintro e w42 ⟨rfl, hb⟩; (have H42 := Lib.hid (H41.out.on hb)); (have HA42 := Lib.hid (HA41.out.below hb)); (have HB42 := Lib.hid (HB41.out.below hb)); (obtain ⟨c0, c1, c2, c3⟩ := cells4 H42.out); (obtain ⟨r0, r1, r2, r3⟩ := cells4 H42.out.swap); clear hb))
  go_wp2_with fail
  go_ret
  exact ⟨rfl, H42.out.below⟩
theorem own : ownKnob Try.prog.godebug = none := by kernel_rfl
theorem laidOut : laidOutB Try.prog = true := by kernel_rfl
set_option maxRecDepth 100000 in
theorem lifted (os : Os) (started : os.Started) (H : Type) (enc : TypeId × Value → H) :
    ReturnsInHanded {} Try.checked os 3 .any (Rows.layoutTellsSpec.pre6 enc Try.prog Try.f3 Rows.layoutTellsRow.domain false) (Rows.layoutTellsSpec.post enc Try.prog Try.f3 false true false false) := by
  refine returnsInHanded_of_change (C := Try.checked) own started (by kernel_rfl) Try.func3
    (ChangeSpec.witness6 (enc := enc) (C := Try.checked) false ⟨#[], #[.agg #[.int .i64 0, .int .i64 0, .int .i64 0, .int .u32 0], .int .u32 0, .int .i64 0], []⟩ 8 (by kernel_rfl) (by kernel_rfl) (by kernel_rfl) (by kernel_rfl)) ?_
  intro W base args ds gs before hval0 hW hcnd _
  have hval : ∀ (j : Nat) t v, Try.f3.params[j]? = some t → args[j]? = some v → Value.okWide Try.prog W .any base t v := hval0
  have hW' := hW
  obtain ⟨p, q, hA0, hV, rfl, hfz, hnd⟩ := hW
  have hA : DataW.TrodAll enc Try.prog W 0 (fun _ => true) true Try.f3.params.toList args.toList ds p := hA0
  rw [Try.params3] at hA hval
  obtain ⟨v0, vs0, d0, ds0, p0, q0, hargs, rfl, rfl, h0, r0⟩ := trodAll_cons hA
  obtain ⟨v1, vs1, d1, ds1, p1, q1, rfl, rfl, rfl, h1, r1⟩ := trodAll_cons r0
  obtain ⟨v2, vs2, d2, ds2, p2, q2, rfl, rfl, rfl, h2, r2⟩ := trodAll_cons r1
  obtain ⟨rfl, rfl, rfl⟩ := trodAll_nil r2
  obtain rfl : args = #[v0, v1, v2] := by cases args; simp_all
  obtain ⟨rfl, rfl⟩ := trodVars_none hV
  obtain ⟨a0, rfl, w0⟩ := ly.open_cfg (hval 0 24 v0 rfl rfl) h0
  obtain ⟨a1, rfl, rfl, rfl, w1⟩ := open_int Try.underlying22 (hval 1 22 v1 rfl rfl) h1
  obtain ⟨a2, rfl, rfl, rfl, w2⟩ := open_int Try.underlying3 (hval 2 3 v2 rfl rfl) h2
  clear hA0 hval0
  refine (walk a0 a1 a2 w0 w1 w2 W).mono fun e W' ⟨he, hb⟩ => ?_
  subst he
  exact ⟨_, rfl, lift.post_law (tb := 4) laidOut (by rw [Try.params3]; exact fun t ht => (of_decide_eq_true (by kernel_rfl) : ∀ t ∈ [24, 22, 3], Try.prog.readableRec t = true ∧ t < Try.prog.types.size) t ht) (by kernel_rfl) Try.underlying4 rfl hW' rfl hb⟩
theorem over : Rows.layoutTellsRow.holds Try.pinned (OpenSpec.ofChange Rows.layoutTellsSpec) :=
  OpenClaim.holds_of_wide 3 Try.f3 rfl rfl rfl rfl rfl rfl rfl ⟨rfl, rfl, rfl, rfl, rfl⟩ rfl rfl rfl rfl rfl (by kernel_rfl) Try.func3 (by kernel_rfl)
    (of_decide_eq_true (by kernel_rfl)) (by unfold Func.isWrapper; first | (rw [if_pos (by decide +kernel)]; kernel_rfl) | (rw [if_neg (by decide +kernel)]; exact ⟨rfl, rfl⟩))
    (fun os started H enc _ => lifted os started H enc)
theorem proved : Rows.LayoutTellsSaid :=
  over
end Go.Proofs.Ytcacahokdnpboaa.layoutTells
