/- LayoutChains: the list of nodes that any words make, from any word, and the values of the stack's, are as the document's own answer says: no condition. -/
import Derived.Test.YtcacahokdnpboaaLayO
namespace Go.Proofs.Ytcacahokdnpboaa.layoutChains
open Go.ChangeShapes Go.WideShapes Go.ChangeAt Go.RowKit frame lift sep own join ly
set_option linter.unusedVariables false
theorem chain_get_len (c : Cf) (ws : List Int) (x : Int) : ((chainL c ws x).getD []).length ≤ 64 := by
  cases h : chainL c ws x with
  | none => simp
  | some l => exact chain_len h
theorem stack_get_len (c : Cf) (ws : List Int) : ((stackL c ws).getD []).length ≤ 64 := by
  unfold stackL
  cases h : chainL c ws (nth ws 0) with
  | none => simp
  | some l =>
    have := chain_len h
    simpa using this
set_option maxRecDepth 100000 in
set_option maxHeartbeats 8000000 in
theorem walk (c : Cf) (v1 : Value) (ws : List Int) (a2 : Int) (f0 : CfIn c) (f2 : (Lit.int .u64 a2).wf = true) (w : World) (f1 : Ints w .u64 v1 ws) (z1 : Fit .u64 ws) :
    Calls Try.prog 4 #[.agg #[.int .i64 c.nodes, .int .i64 c.slots, .int .i64 c.holders, .int .u32 c.tag], v1, .int .u64 a2] w fun e w' => e = .returned (.bool true) ∧ Below w.heap.size w w' := by
  obtain ⟨x0, x1⟩ := bd_u64 f2
  have HI := Lib.hid f1
  have HZ := Lib.hid z1
  obtain ⟨aw, cw, rfl, _⟩ := form f1
  have HL1 := Lib.hid (chain_get_len c ws a2)
  have HL2 := Lib.hid (stack_get_len c ws)
  clear f0 f1 f2 z1
  obtain ⟨Bc, hBc⟩ : ∃ B, w.heap.size = B := ⟨_, rfl⟩
  have HBC := Lib.hid hBc
  have h0 := (Hold.empty w).newBlk (Obj.cells #[.int .i64 c.nodes, .int .i64 c.slots, .int .i64 c.holders, .int .u32 c.tag] 24)
  rw [hBc] at h0
  have H0 := Lib.hid h0
  clear h0
  by_cases hl : 1100 < ws.length
  · have hl1 : (1100 : Int) < (ws.length : Int) := by omega
    go_enter Try.func4, Try.ntmps4
    go_wp2_with fail
    refine (shown_any _).mono ?_
    rintro e w1 ⟨rfl, hb⟩
    have H1 := Lib.hid (H0.out.on hb)
    clear hb hBc
    go_wp2_with fail
    go_ret
    exact ⟨rfl, H1.out.below⟩
  have hl1 : ¬ (1100 : Int) < (ws.length : Int) := by omega
  have hwl : ws.length ≤ 1000000 := by omega
  go_enter Try.func4, Try.ntmps4
  go_wp2_with fail
  refine (shown_any _).mono ?_
  rintro e w1 ⟨rfl, hb⟩
  have H1 := Lib.hid (H0.out.on hb)
  obtain ⟨c0, c1, c2, c3⟩ := cells4 H1.out
  clear hb
  go_wp2_with fail
  refine (chain_any c (HI.out.below H1.out.below) HZ.out hwl a2 x0 x1).mono ?_
  rintro e w2 ⟨ta, rfl, hta, hb⟩
  have H2 := Lib.hid (H1.out.on hb)
  have HA2 := Lib.hid hta
  clear c0 c1 c2 c3 hb hta
  obtain ⟨c0, c1, c2, c3⟩ := cells4 H2.out
  go_wp2_with fail
  refine (as_any c _).mono ?_
  rintro e w3 ⟨rfl, hb⟩
  have H3 := Lib.hid (H2.out.on hb)
  have HA3 := Lib.hid (HA2.out.below hb)
  clear c0 c1 c2 c3 hb
  obtain ⟨c0, c1, c2, c3⟩ := cells4 H3.out
  go_wp2_with fail
  refine (rchain_any c (HI.out.below H3.out.below) HZ.out hwl a2 x0 x1).mono ?_
  rintro e w4 ⟨tb, rfl, htb, hb⟩
  have H4 := Lib.hid (H3.out.on hb)
  have HA4 := Lib.hid (HA3.out.below hb)
  have HB4 := Lib.hid htb
  clear c0 c1 c2 c3 hb htb
  obtain ⟨c0, c1, c2, c3⟩ := cells4 H4.out
  go_wp2_with fail
  refine (stack_any c (HI.out.below H4.out.below) HZ.out hwl).mono ?_
  rintro e w5 ⟨tc, rfl, htc, hb⟩
  have H5 := Lib.hid (H4.out.on hb)
  have HA5 := Lib.hid (HA4.out.below hb)
  have HB5 := Lib.hid (HB4.out.below hb)
  have HC5 := Lib.hid htc
  clear c0 c1 c2 c3 hb htc
  obtain ⟨c0, c1, c2, c3⟩ := cells4 H5.out
  go_wp2_with fail
  refine (as_any c _).mono ?_
  rintro e w6 ⟨rfl, hb⟩
  have H6 := Lib.hid (H5.out.on hb)
  have HA6 := Lib.hid (HA5.out.below hb)
  have HB6 := Lib.hid (HB5.out.below hb)
  have HC6 := Lib.hid (HC5.out.below hb)
  clear c0 c1 c2 c3 hb
  obtain ⟨c0, c1, c2, c3⟩ := cells4 H6.out
  go_wp2_with fail
  refine (rstack_any c (HI.out.below H6.out.below) HZ.out hwl).mono ?_
  rintro e w7 ⟨td, rfl, htd, hb⟩
  have H7 := Lib.hid (H6.out.on hb)
  have HA7 := Lib.hid (HA6.out.below hb)
  have HB7 := Lib.hid (HB6.out.below hb)
  have HC7 := Lib.hid (HC6.out.below hb)
  have HD7 := Lib.hid htd
  clear c0 c1 c2 c3 hb htd
  go_wp2_with fail
  refine (same32_any HA7.out HB7.out (Nat.le_trans HL1.out (by decide))).mono ?_
  rintro e w8 ⟨rfl, hb⟩
  have H8 := Lib.hid (H7.out.on hb)
  have HC8 := Lib.hid (HC7.out.below hb)
  have HD8 := Lib.hid (HD7.out.below hb)
  clear hb
  go_wp2_with fail
  refine (words_any HC8.out HD8.out (Nat.le_trans HL2.out (by decide))).mono ?_
  rintro e w9 ⟨rfl, hb⟩
  have H9 := Lib.hid (H8.out.on hb)
  clear hb
  go_wp2_with fail
  go_ret
  exact ⟨rfl, H9.out.below⟩
theorem own : ownKnob Try.prog.godebug = none := by kernel_rfl
theorem laidOut : laidOutB Try.prog = true := by kernel_rfl
theorem cells_uint64 : Try.prog.cellsOf 43 = 1 := by kernel_rfl
set_option maxRecDepth 100000 in
theorem lifted (os : Os) (started : os.Started) (H : Type) (enc : TypeId × Value → H) :
    ReturnsInHanded {} Try.checked os 4 .any (Rows.layoutChainsSpec.pre6 enc Try.prog Try.f4 Rows.layoutChainsRow.domain false) (Rows.layoutChainsSpec.post enc Try.prog Try.f4 false true false false) := by
  refine returnsInHanded_of_change (C := Try.checked) own started (by kernel_rfl) Try.func4
    (ChangeSpec.witness6 (enc := enc) (C := Try.checked) false ⟨#[], #[.agg #[.int .i64 0, .int .i64 0, .int .i64 0, .int .u32 0], .slice none 0 0, .int .u64 0], []⟩ 8 (by kernel_rfl) (by kernel_rfl) (by kernel_rfl) (by kernel_rfl)) ?_
  intro W base args ds gs before hval0 hW hcnd _
  have hval : ∀ (j : Nat) t v, Try.f4.params[j]? = some t → args[j]? = some v → Value.okWide Try.prog W .any base t v := hval0
  have hW' := hW
  obtain ⟨p, q, hA0, hV, rfl, hfz, hnd⟩ := hW
  have hA : DataW.TrodAll enc Try.prog W 0 (fun _ => true) true Try.f4.params.toList args.toList ds p := hA0
  rw [Try.params4] at hA hval
  obtain ⟨v0, vs0, d0, ds0, p0, q0, hargs, rfl, rfl, h0, r0⟩ := trodAll_cons hA
  obtain ⟨v1, vs1, d1, ds1, p1, q1, rfl, rfl, rfl, h1, r1⟩ := trodAll_cons r0
  obtain ⟨v2, vs2, d2, ds2, p2, q2, rfl, rfl, rfl, h2, r2⟩ := trodAll_cons r1
  obtain ⟨rfl, rfl, rfl⟩ := trodAll_nil r2
  obtain rfl : args = #[v0, v1, v2] := by cases args; simp_all
  obtain ⟨rfl, rfl⟩ := trodVars_none hV
  obtain ⟨a0, rfl, w0⟩ := ly.open_cfg (hval 0 24 v0 rfl rfl) h0
  obtain ⟨a1, w1, z1⟩ := lift.open_row Try.underlying28 Try.underlying43 cells_uint64 (okWide_slice Try.underlying28 (hval 1 28 v1 rfl rfl)) h1
  obtain ⟨a2, rfl, rfl, rfl, w2⟩ := open_int Try.underlying43 (hval 2 43 v2 rfl rfl) h2
  clear hA0 hval0
  refine (walk a0 v1 a1 a2 w0 w2 W w1 z1).mono fun e W' ⟨he, hb⟩ => ?_
  subst he
  exact ⟨_, rfl, lift.post_law (tb := 4) laidOut (by rw [Try.params4]; exact fun t ht => (of_decide_eq_true (by kernel_rfl) : ∀ t ∈ [24, 28, 43], Try.prog.readableRec t = true ∧ t < Try.prog.types.size) t ht) (by kernel_rfl) Try.underlying4 rfl hW' rfl hb⟩
theorem over : Rows.layoutChainsRow.holds Try.pinned (OpenSpec.ofChange Rows.layoutChainsSpec) :=
  OpenClaim.holds_of_wide 4 Try.f4 rfl rfl rfl rfl rfl rfl rfl ⟨rfl, rfl, rfl, rfl, rfl⟩ rfl rfl rfl rfl rfl (by kernel_rfl) Try.func4 (by kernel_rfl)
    (of_decide_eq_true (by kernel_rfl)) (by unfold Func.isWrapper; first | (rw [if_pos (by decide +kernel)]; kernel_rfl) | (rw [if_neg (by decide +kernel)]; exact ⟨rfl, rfl⟩))
    (fun os started H enc _ => lifted os started H enc)
theorem proved : Rows.LayoutChainsSaid :=
  over
end Go.Proofs.Ytcacahokdnpboaa.layoutChains
