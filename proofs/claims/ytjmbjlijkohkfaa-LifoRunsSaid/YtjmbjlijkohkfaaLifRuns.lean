/- LifoRuns: what a stack answered, one behind the other, it may answer; cut anywhere, what stands behind is what the stack of there may answer: no condition. -/
import Derived.Test.YtjmbjlijkohkfaaLifB
namespace Go.Proofs.Ytjmbjlijkohkfaa.lifoRuns
open Go.ChangeShapes Go.WideShapes Go.ChangeAt Go.RowKit frame lift sep own join lf
set_option linter.unusedVariables false
set_option maxRecDepth 100000 in
set_option maxHeartbeats 4000000 in
theorem walk (v0 : Value) (s : List Int) (a1 : Int) (v2 : Value) (l : List Ans) (a3 : Int) (f1 : (Lit.int .i64 a1).wf = true) (f3 : (Lit.int .i64 a3).wf = true) (w : World) (f0 : Ints w .u64 v0 s) (z0 : Fit .u64 s) (f2 : Ops w v2 l) (z2 : OpsOk l) :
    Calls Try.prog 5 #[v0, .int .i64 a1, v2, .int .i64 a3] w fun e w' => e = .returned (.bool true) ∧ Below w.heap.size w w' := by
  obtain ⟨b0, b1⟩ := bd_i64 f3
  have HI := Lib.hid f0; have HS := Lib.hid f2
  obtain ⟨aa, ca, rfl, _⟩ := form f0
  obtain ⟨ab, cb, rfl, hfb⟩ := f2
  clear f0 f1 f3 z0 z2
  by_cases hs : 200 < s.length
  · have hs1 : (200 : Int) < (s.length : Int) := by omega
    go_enter Try.func5, Try.ntmps5
    go_wp2_with fail
    refine (shown_any w).mono ?_
    rintro e w1 ⟨rfl, hb⟩
    go_wp2_with fail
    go_ret
    exact ⟨rfl, hb⟩
  have hs1 : ¬ (200 : Int) < (s.length : Int) := by omega
  by_cases hl : 200 < l.length
  · have hl1 : (200 : Int) < (l.length : Int) := by omega
    go_enter Try.func5, Try.ntmps5
    go_wp2_with fail
    refine (shown_any w).mono ?_
    rintro e w1 ⟨rfl, hb⟩
    go_wp2_with fail
    go_ret
    exact ⟨rfl, hb⟩
  have hl1 : ¬ (200 : Int) < (l.length : Int) := by omega
  have hle := run_le (most := a1) l s
  have hcut := run_cut (most := a1) l s
  have htake := run_take (most := a1) l s
  have HR := Lib.hid (show runL s a1 l = ((runL s a1 l).1, (runL s a1 l).2) from rfl)
  obtain ⟨t, ht⟩ : ∃ t, (runL s a1 l).1 = t := ⟨_, rfl⟩
  obtain ⟨n, hn⟩ : ∃ n, (runL s a1 l).2 = n := ⟨_, rfl⟩
  have htl : t.length ≤ 1000 := by have := run_len (most := a1) l s; rw [ht] at this; omega
  simp only [ht, hn] at hle hcut htake HR
  have hnI : (n : Int) ≤ (l.length : Int) := by omega
  have hn0 : (0 : Int) ≤ (n : Int) := by omega
  have hwn : IntKind.i64.wrap ((n : Int) + 1) = (n : Int) + 1 := IntWalk.i64_in _ (by omega)
  obtain ⟨p, hp⟩ : ∃ p, pickI a3 ((n : Int) + 1) = p := ⟨_, rfl⟩
  have hpb := pickI_bd a3 ((n : Int) + 1) (by omega)
  rw [hp] at hpb
  obtain ⟨k, rfl⟩ : ∃ k : Nat, p = k := ⟨p.toNat, by omega⟩
  obtain ⟨k0, k1⟩ := hpb
  have hkn : k ≤ n := by omega
  have hknI : (k : Int) ≤ (n : Int) := by omega
  have HP := Lib.hid hp
  have HC := Lib.hid (hcut k hkn)
  have HT := Lib.hid (htake k hkn)
  have hstop2 : ∀ (h : n < l.length), doL t a1 (l[n]'h) = none := by
    subst hn
    subst ht
    exact run_stop l s
  have HST := Lib.hid hstop2
  have hwk : IntKind.i64.wrap ((n : Int) - (k : Int)) = ((n - k : Nat) : Int) := by rw [IntWalk.i64_in _ (by omega)]; omega
  have hlt : (l.take k).length = k := by rw [List.length_take]; omega
  have hld : ((l.take n).drop k).length = n - k := by rw [List.length_drop, List.length_take]; omega
  obtain ⟨u, hu⟩ : ∃ u, (runL s a1 (l.take k)).1 = u := ⟨_, rfl⟩
  rw [hu] at HC HT
  have hul : u.length ≤ 1000 := by have := run_len (most := a1) (l.take k) s; rw [hu, hlt] at this; omega
  clear hcut htake hstop2 hp ht hn hu
  by_cases h0 : 0 < l.length
  · obtain ⟨h1, h2, b, off, rfl, hbl, hcell⟩ := hfb h0
    have hkc : (k : Int) ≤ (cb : Int) := by omega
    have hnc : (n : Int) ≤ (cb : Int) := by omega
    unfold maxLen at h2
    obtain ⟨q, hq⟩ : ∃ q, (if cb = k then some (⟨b, off, none⟩ : Addr) else some ⟨b, off + k * 3, none⟩) = q := ⟨_, rfl⟩
    have HT2 : Hid (Ops w (.slice q (n - k) (cb - k)) ((l.take n).drop k)) := by
      have hn2 : (l.take n).length = n := by rw [List.length_take]; omega
      have := (HS.out.take n (by omega)).drop k (by rw [hn2]; exact hkn) (a := q) (fun h => by rw [← hq, if_neg (by rw [hn2] at h; omega)])
      rwa [hn2] at this
    have HT1 : Hid (Ops w (.slice (some ⟨b, off, none⟩) k cb) (l.take k)) := HS.out.take k (by omega)
    clear hcell hfb
    go_enter Try.func5, Try.ntmps5
    go_wp2_with fail
    refine (shown_any w).mono ?_
    rintro e w1 ⟨rfl, hb⟩
    have HB1 := Lib.hid hb; clear hb
    go_wp2_with fail
    refine (run_any (HI.out.below HB1.out) (HS.out.below HB1.out) (by omega) a1).mono ?_
    rintro e w2 ⟨tv, rfl, ht, hb⟩
    rw [HR.out] at ht ⊢
    have HB2 := Lib.hid (below_trans HB1.out hb)
    have HTV := Lib.hid ht
    clear hb ht
    dsimp only
    go_wp2_with fail
    refine (pick_any a3 ((n : Int) + 1) b0 b1 (by omega) (by omega) w2).mono ?_
    rintro e w3 ⟨rfl, rfl⟩
    rw [HP.out]
    go_wp2_with fail
    refine (run_any (HI.out.below HB2.out) (HT1.out.below HB2.out) (by rw [hlt]; omega) a1).mono ?_
    rintro e w3 ⟨uv, rfl, hu, hb⟩
    rw [HT.out] at hu ⊢
    have HB3 := Lib.hid (below_trans HB2.out hb)
    have HTV3 := Lib.hid (HTV.out.below hb)
    have HUV := Lib.hid hu
    clear hb hu
    dsimp only
    go_wp2_with fail
    refine (run_any HUV.out (HT2.out.below HB3.out) (by rw [hld]; omega) a1).mono ?_
    rintro e w4 ⟨vv, rfl, hv, hb⟩
    rw [HC.out] at hv ⊢
    have HB4 := Lib.hid (below_trans HB3.out hb)
    have HTV4 := Lib.hid (HTV3.out.below hb)
    have HVV := Lib.hid hv
    clear hb hv
    dsimp only
    go_wp2_with fail
    refine (same_any HVV.out HTV4.out (by omega) (by omega)).mono ?_
    rintro e w5 ⟨rfl, hb⟩
    have hdt : decide (t = t) = true := decide_eq_true rfl
    rw [hdt]
    have HB5 := Lib.hid (below_trans HB4.out hb)
    have HTV5 := Lib.hid (HTV4.out.below hb)
    clear hb hdt
    by_cases hnl : n = l.length
    · have hnl1 : ((n : Int) == (l.length : Int)) = true := by rw [beq_iff_eq]; omega
      have hnl2 : (n : Int) = (l.length : Int) := by omega
      go_wp2_with fail
      go_ret
      exact ⟨rfl, HB5.out⟩
    · have hnl1 : ((n : Int) == (l.length : Int)) = false := by rw [beq_eq_false_iff_ne]; omega
      have hnl3 : n < l.length := by omega
      obtain ⟨b', off', hbo, hgl, x0, x1, x2⟩ := HS.out.at_ HB5.out n hnl3
      simp only [Option.some.injEq, Addr.mk.injEq, and_true] at hbo
      obtain ⟨rfl, rfl⟩ := hbo
      have hd := HST.out hnl3
      obtain ⟨o, hoo⟩ : ∃ o, l[n] = o := ⟨_, rfl⟩
      rw [hoo] at x0 x1 x2 hd
      have HD := Lib.hid hd
      have hi2 : (n : Int) < (l.length : Int) := by omega
      clear hoo hd
      go_wp2_with fail
      refine (do_any HTV5.out (by omega) a1 o).mono ?_
      rintro e w6 ⟨x, rfl, hx, hb⟩
      rw [HD.out] at hx ⊢
      obtain ⟨ax, cx, rfl, _⟩ := form hx
      have HB6 := Lib.hid (below_trans HB5.out hb)
      clear hb hx
      dsimp only [Option.getD, Option.isSome, List.length_nil]
      go_wp2_with fail
      go_ret
      exact ⟨rfl, HB6.out⟩
  · have hl0 : l = [] := List.eq_nil_of_length_eq_zero (by omega)
    subst hl0
    obtain rfl : n = 0 := by simpa using hle
    obtain rfl : k = 0 := by omega
    have HE : ∀ a c w, Hid (Ops w (.slice a 0 c) []) := fun a c w => ⟨a, c, rfl, fun h => by simp at h⟩
    simp only [List.take_nil, List.drop_nil, List.length_nil] at HC HT HS hld
    have HP1 : Hid (pickI a3 1 = 0) := by simpa [Hid] using HP.out
    clear hfb HST
    cases ab
    all_goals
      go_enter Try.func5, Try.ntmps5
      go_wp2_with fail
      refine (shown_any w).mono ?_
      rintro e w1 ⟨rfl, hb⟩
      have HB1 := Lib.hid hb; clear hb
      go_wp2_with fail
      refine (run_any (HI.out.below HB1.out) (HS.out.below HB1.out) (by simp; omega) a1).mono ?_
      rintro e w2 ⟨tv, rfl, ht, hb⟩
      rw [HR.out] at ht ⊢
      have HB2 := Lib.hid (below_trans HB1.out hb)
      have HTV := Lib.hid ht
      clear hb ht
      dsimp only
      go_wp2_with fail
      refine (pick_any a3 1 b0 b1 (by decide) (by decide) w2).mono ?_
      rintro e w3 ⟨rfl, rfl⟩
      rw [HP1.out]
      go_wp2_with fail
      refine (run_any (HI.out.below HB2.out) (HE _ _ w2).out (by simp; omega) a1).mono ?_
      rintro e w3 ⟨uv, rfl, hu, hb⟩
      rw [HT.out] at hu ⊢
      have HB3 := Lib.hid (below_trans HB2.out hb)
      have HTV3 := Lib.hid (HTV.out.below hb)
      have HUV := Lib.hid hu
      clear hb hu
      dsimp only
      go_wp2_with fail
      all_goals
        refine (run_any HUV.out (HE _ _ w3).out (by simp; omega) a1).mono ?_
        rintro e w4 ⟨vv, rfl, hv, hb⟩
        rw [HC.out] at hv ⊢
        have HB4 := Lib.hid (below_trans HB3.out hb)
        have HTV4 := Lib.hid (HTV3.out.below hb)
        have HVV := Lib.hid hv
        clear hb hv
        dsimp only
        go_wp2_with fail
        refine (same_any HVV.out HTV4.out (by omega) (by omega)).mono ?_
        rintro e w5 ⟨rfl, hb⟩
        have hdt : decide (t = t) = true := decide_eq_true rfl
        rw [hdt]
        have HB5 := Lib.hid (below_trans HB4.out hb)
        clear hb hdt
        go_wp2_with fail
        go_ret
        exact ⟨rfl, HB5.out⟩
theorem own : ownKnob Try.prog.godebug = none := by kernel_rfl
theorem laidOut : laidOutB Try.prog = true := by kernel_rfl
theorem cells_uint64 : Try.prog.cellsOf 28 = 1 := by kernel_rfl
set_option maxRecDepth 100000 in
theorem lifted (os : Os) (started : os.Started) (H : Type) (enc : TypeId × Value → H) :
    ReturnsInHanded {} Try.checked os 5 .any (Rows.lifoRunsSpec.pre6 enc Try.prog Try.f5 Rows.lifoRunsRow.domain false) (Rows.lifoRunsSpec.post enc Try.prog Try.f5 false true false false) := by
  refine returnsInHanded_of_change (C := Try.checked) own started (by kernel_rfl) Try.func5
    (ChangeSpec.witness6 (enc := enc) (C := Try.checked) false ⟨#[], #[.slice none 0 0, .int .i64 0, .slice none 0 0, .int .i64 0], []⟩ 8 (by kernel_rfl) (by kernel_rfl) (by kernel_rfl) (by kernel_rfl)) ?_
  intro W base args ds gs before hval0 hW hcnd _
  have hval : ∀ (j : Nat) t v, Try.f5.params[j]? = some t → args[j]? = some v → Value.okWide Try.prog W .any base t v := hval0
  have hW' := hW
  obtain ⟨p, q, hA0, hV, rfl, hfz, hnd⟩ := hW
  have hA : DataW.TrodAll enc Try.prog W 0 (fun _ => true) true Try.f5.params.toList args.toList ds p := hA0
  rw [Try.params5] at hA hval
  obtain ⟨v0, vs0, d0, ds0, p0, q0, hargs, rfl, rfl, h0, r0⟩ := trodAll_cons hA
  obtain ⟨v1, vs1, d1, ds1, p1, q1, rfl, rfl, rfl, h1, r1⟩ := trodAll_cons r0
  obtain ⟨v2, vs2, d2, ds2, p2, q2, rfl, rfl, rfl, h2, r2⟩ := trodAll_cons r1
  obtain ⟨v3, vs3, d3, ds3, p3, q3, rfl, rfl, rfl, h3, r3⟩ := trodAll_cons r2
  obtain ⟨rfl, rfl, rfl⟩ := trodAll_nil r3
  obtain rfl : args = #[v0, v1, v2, v3] := by cases args; simp_all
  obtain ⟨rfl, rfl⟩ := trodVars_none hV
  obtain ⟨a0, w0, z0⟩ := lift.open_row Try.underlying22 Try.underlying28 cells_uint64 (okWide_slice Try.underlying22 (hval 0 22 v0 rfl rfl)) h0
  obtain ⟨a1, rfl, rfl, rfl, w1⟩ := open_int Try.underlying3 (hval 1 3 v1 rfl rfl) h1
  obtain ⟨a2, w2, z2⟩ := lf.open_ops (okWide_slice Try.underlying23 (hval 2 23 v2 rfl rfl)) h2
  obtain ⟨a3, rfl, rfl, rfl, w3⟩ := open_int Try.underlying3 (hval 3 3 v3 rfl rfl) h3
  clear hA0 hval0
  refine (walk v0 a0 a1 v2 a2 a3 w1 w3 W w0 z0 w2 z2).mono fun e W' ⟨he, hb⟩ => ?_
  subst he
  exact ⟨_, rfl, lift.post_law (tb := 4) laidOut (by rw [Try.params5]; exact fun t ht => (of_decide_eq_true (by kernel_rfl) : ∀ t ∈ [22, 3, 23, 3], Try.prog.readableRec t = true ∧ t < Try.prog.types.size) t ht) (by kernel_rfl) Try.underlying4 rfl hW' rfl hb⟩
theorem over : Rows.lifoRunsRow.holds Try.pinned (OpenSpec.ofChange Rows.lifoRunsSpec) :=
  OpenClaim.holds_of_wide 5 Try.f5 rfl rfl rfl rfl rfl rfl rfl ⟨rfl, rfl, rfl, rfl, rfl⟩ rfl rfl rfl rfl rfl (by kernel_rfl) Try.func5 (by kernel_rfl)
    (of_decide_eq_true (by kernel_rfl)) (by unfold Func.isWrapper; first | (rw [if_pos (by decide +kernel)]; kernel_rfl) | (rw [if_neg (by decide +kernel)]; exact ⟨rfl, rfl⟩))
    (fun os started H enc _ => lifted os started H enc)
theorem proved : Rows.LifoRunsSaid :=
  over
end Go.Proofs.Ytjmbjlijkohkfaa.lifoRuns
