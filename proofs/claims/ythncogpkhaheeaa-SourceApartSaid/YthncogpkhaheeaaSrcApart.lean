/- SourceApart: ticks take no draw, and draws take no time: no condition. -/
import Derived.Test.YthncogpkhaheeaaSrcB
namespace Go.Proofs.Ythncogpkhaheeaa.sourceApart
open Go.ChangeShapes Go.WideShapes Go.ChangeAt Go.RowKit frame lift sep src
set_option linter.unusedVariables false
theorem ok_now {s : Int} (h : 0 ≤ s) (h1 : s ≤ top) : ScOk ⟨s, []⟩ := ⟨h, h1, fun d hd => by simp at hd⟩
def tells (d n : Int) : Int := if d ≤ 63 then d % n else 0
theorem apart (t d n : Int) (hn : 1 ≤ n) : drawV (addS ⟨t, []⟩ d) n = tells d n ∧ drawS (addS ⟨t, []⟩ d) n = ⟨t, []⟩ ∧ (addS ⟨t, []⟩ d).ds.length ≤ 1000000 := by
  have h : ¬ n < 1 := by omega
  unfold tells addS
  split <;> simp [drawV, drawS, h]
set_option maxHeartbeats 16000000 in
theorem walk (v0 : Value) (l : List Int) (v1 : Value) (ds : List Int) (a2 : Int) (f2 : (Lit.int .i64 a2).wf = true) (w : World) (f0 : Ints w .u64 v0 l) (z0 : Fit .u64 l) (f1 : Ints w .u64 v1 ds) (z1 : Fit .u64 ds) :
    Calls Try.prog 7 #[v0, v1, .int .i64 a2] w fun e w' => e = .returned (.bool true) ∧ Below w.heap.size w w' := by
  have HZ := Lib.hid z0; have HZD := Lib.hid z1
  obtain ⟨b0, b1⟩ := bd_i64 f2
  obtain ⟨a0, c0, rfl, hf⟩ := u64_form f0
  obtain ⟨a1, c1, rfl, hf1⟩ := u64_form f1
  have HF := Lib.hid hf; have HFD := Lib.hid hf1
  clear f0 z0 hf f1 z1 hf1 f2
  by_cases hbig : 50 < l.length
  · have hbi : (50 : Int) < (l.length : Int) := by omega
    go_enter Try.func7, Try.ntmps7
    go_wp2_with fail
    refine (shown_in (Hold.empty w)).mono ?_
    rintro e w1 ⟨rfl, h1⟩
    have H1 := Lib.hid h1; clear h1
    go_wp2_with fail
    refine (new_in H1.out).mono ?_
    rintro e w2 ⟨a, rfl, h2⟩
    have H2 := Lib.hid h2; clear h2
    go_wp2_with fail
    refine (new_in H2.out).mono ?_
    rintro e w3 ⟨b, rfl, h3⟩
    have H3 := Lib.hid h3; clear h3
    go_wp2_with fail
    go_ret
    exact ⟨rfl, H3.out.below⟩
  · have hbi : ¬ (50 : Int) < (l.length : Int) := by omega
    by_cases hbig2 : 50 < ds.length
    · have hbj : (50 : Int) < (ds.length : Int) := by omega
      go_enter Try.func7, Try.ntmps7
      go_wp2_with fail
      refine (shown_in (Hold.empty w)).mono ?_
      rintro e w1 ⟨rfl, h1⟩
      have H1 := Lib.hid h1; clear h1
      go_wp2_with fail
      refine (new_in H1.out).mono ?_
      rintro e w2 ⟨a, rfl, h2⟩
      have H2 := Lib.hid h2; clear h2
      go_wp2_with fail
      refine (new_in H2.out).mono ?_
      rintro e w3 ⟨b, rfl, h3⟩
      have H3 := Lib.hid h3; clear h3
      go_wp2_with fail
      go_ret
      exact ⟨rfl, H3.out.below⟩
    · have hbj : ¬ (50 : Int) < (ds.length : Int) := by omega
      obtain ⟨p, hp⟩ : ∃ p, pickI a2 90 = p := ⟨_, rfl⟩
      have hpb := pickI_bd a2 90 (by decide)
      rw [hp] at hpb
      obtain ⟨p0, p1⟩ := hpb
      have HP := Lib.hid hp
      clear hp
      go_enter Try.func7, Try.ntmps7
      go_wp2_with fail
      refine (shown_in (Hold.empty w)).mono ?_
      rintro e w1 ⟨rfl, h1⟩
      have H1 := Lib.hid h1; clear h1
      go_wp2_with fail
      refine (new_in H1.out).mono ?_
      rintro e w2 ⟨a, rfl, h2⟩
      have H2 := Lib.hid h2; clear h2
      go_wp2_with fail
      refine (new_in H2.out).mono ?_
      rintro e w3 ⟨b, rfl, h3⟩
      have H3 := Lib.hid h3; clear h3
      go_wp2_with fail
      refine (pick_any a2 90 b0 b1 (by decide) (by decide) w3).mono ?_
      rintro e w4 ⟨rfl, rfl⟩
      rw [HP.out]
      obtain ⟨n, hn⟩ : ∃ n, 1 + p = n := ⟨_, rfl⟩
      have nb0 : 1 ≤ n := by omega
      have nb1 : n ≤ 90 := by omega
      go_wp2_with fail
      clear hn
      go_loopw [11] (fun i wr => ∃ (k : Nat) (t : Int), k ≤ l.length ∧ i = .int .i64 k ∧ 0 ≤ t ∧ t ≤ top ∧ Hid (Hold (fun _ => False) w [src b ⟨t, []⟩, src a ⟨t, []⟩] wr)) (fun i _ => l.length - (intOf i).toNat)
      case atStart => exact ⟨0, 0, Nat.zero_le _, rfl, by decide, by decide, H3.out⟩
      case round =>
        obtain ⟨k, t, hk, rfl, t0, t1, HH⟩ := hrel
        by_cases hlt : k < l.length
        · obtain ⟨g, off, rfl, hg, hc⟩ := HF.out (by omega)
          have e0 := (HH.out.below.cell (p := ⟨g, off + k, none⟩) hg).trans (hc k hlt)
          have HC := Lib.hid (hc k hlt)
          obtain ⟨n0, n1⟩ := nth_u64 HZ.out k
          obtain ⟨x, hx⟩ : ∃ x, nth l k = x := ⟨_, rfl⟩
          rw [hx] at e0 n0 n1 HC
          have K0 := Lib.hid (ok_now t0 t1)
          have D0 := Lib.hid (dead_bd t0 n0)
          have N0 := Lib.hid n0; have N1 := Lib.hid n1
          have hi1 : (0 : Int) ≤ (k : Int) := by omega
          have hi2 : (k : Int) < (l.length : Int) := by omega
          clear hc hx n0 n1
          go_wp2_with fail
          refine (tick_in HH.out.swap K0.out x N0.out N1.out).mono ?_
          rintro e w5 ⟨rfl, h5⟩
          have e5 := (h5.below.cell (p := ⟨g, off + k, none⟩) hg).trans HC.out
          have H5 := Lib.hid h5.swap; clear h5
          go_wp2_with fail
          refine (tick_in H5.out K0.out x N0.out N1.out).mono ?_
          rintro e w6 ⟨rfl, h6⟩
          have H6 := Lib.hid h6; clear h6
          go_wp2_with fail
          go_roundw
          case rel => exact ⟨k + 1, dead t x, by omega, by go_num, D0.out.1, D0.out.2, H6.out⟩
          case measure => simp [intOf]; omega
        · go_wp2_with fail
          go_loopw [12] (fun i wv => ∃ (j : Nat) (t u : Int), j ≤ ds.length ∧ i = .int .i64 j ∧ 0 ≤ t ∧ t ≤ top ∧ 0 ≤ u ∧ u ≤ top ∧ Hid (Hold (fun _ => False) w [src b ⟨u, []⟩, src a ⟨t, []⟩] wv)) (fun i _ => ds.length - (intOf i).toNat)
          case atStart => exact ⟨0, t, t, Nat.zero_le _, rfl, t0, t1, t0, t1, HH.out⟩
          case round =>
            clear HH t0 t1
            obtain ⟨j, t, u, hj, rfl, t0, t1, u0, u1, HH⟩ := hrel
            by_cases hjl : j < ds.length
            · obtain ⟨g, off, rfl, hg, hc⟩ := HFD.out (by omega)
              have e0 := (HH.out.below.cell (p := ⟨g, off + j, none⟩) hg).trans (hc j hjl)
              have HC := Lib.hid (hc j hjl)
              obtain ⟨n0, n1⟩ := nth_u64 HZD.out j
              obtain ⟨x, hx⟩ : ∃ x, nth ds j = x := ⟨_, rfl⟩
              rw [hx] at e0 n0 n1 HC
              have K0 := Lib.hid (ok_now t0 t1); have K1 := Lib.hid (ok_now u0 u1)
              have KA := Lib.hid ((ok_now t0 t1).add n0); have KB := Lib.hid ((ok_now u0 u1).add n0)
              have PA := Lib.hid (apart t x n nb0); have PB := Lib.hid (apart u x n nb0)
              have D0 := Lib.hid (dead_bd t0 (show (0 : Int) ≤ 3 by decide))
              have U0 := Lib.hid u0; have U1 := Lib.hid u1
              have N0 := Lib.hid n0; have N1 := Lib.hid n1
              have hi1 : (0 : Int) ≤ (j : Int) := by omega
              have hi2 : (j : Int) < (ds.length : Int) := by omega
              obtain ⟨tv, htv⟩ : ∃ tv, tells x n = tv := ⟨_, rfl⟩
              rw [htv] at PA PB
              obtain ⟨ea, hea⟩ : ∃ ea, addE x = ea := ⟨_, rfl⟩
              have EA := Lib.hid hea
              have nb2 : n ≤ 9223372036854775807 := by omega
              clear hc hx n0 n1 htv hea
              go_wp2_with fail
              refine (now_in HH.out (List.mem_cons_of_mem _ (List.mem_cons_self ..))).mono ?_
              rintro e w5 ⟨rfl, rfl⟩
              go_wp2_with fail
              refine (add_in HH.out.swap (by simp) x N0.out N1.out).mono ?_
              rintro e w5 ⟨rfl, h5⟩
              rw [EA.out]
              have e5 := (h5.below.cell (p := ⟨g, off + j, none⟩) hg).trans HC.out
              have H5 := Lib.hid h5.swap; clear h5
              go_wp2_with fail
              refine (add_in H5.out (by simp) x N0.out N1.out).mono ?_
              rintro e w6 ⟨rfl, h6⟩
              rw [EA.out]
              have H6 := Lib.hid h6.swap; clear h6
              go_wp2_with fail
              refine (draw_in H6.out KA.out PA.out.2.2 n nb2).mono ?_
              rintro e w7 ⟨rfl, h7⟩
              rw [PA.out.1]
              rw [PA.out.2.1] at h7
              have H7 := Lib.hid h7.swap; clear h7
              go_wp2_with fail
              refine (draw_in H7.out KB.out PB.out.2.2 n nb2).mono ?_
              rintro e w8 ⟨rfl, h8⟩
              rw [PB.out.1]
              rw [PB.out.2.1] at h8
              have H8 := Lib.hid h8; clear h8
              go_wp2_with fail
              refine (now_in H8.out (List.mem_cons_of_mem _ (List.mem_cons_self ..))).mono ?_
              rintro e w9 ⟨rfl, rfl⟩
              go_wp2_with fail
              refine (left_in H8.out (List.mem_cons_of_mem _ (List.mem_cons_self ..)) (by simp)).mono ?_
              rintro e w9 ⟨rfl, nL, rfl⟩
              go_wp2_with fail
              refine (left_in (H8.out.drewN _) (List.mem_cons_self ..) (by simp)).mono ?_
              rintro e w9 ⟨rfl, nL, rfl⟩
              go_wp2_with fail
              refine (tick_in (H8.out.drewN _).swap K0.out 3 (by decide) (by decide)).mono ?_
              rintro e w9 ⟨rfl, h9⟩
              have H9 := Lib.hid h9.swap; clear h9
              go_wp2_with fail
              go_roundw
              case rel => exact ⟨j + 1, dead t 3, u, by omega, by go_num, D0.out.1, D0.out.2, U0.out, U1.out, H9.out⟩
              case measure => simp [intOf]; omega
            · go_wp2_with fail
              go_ret
              exact ⟨rfl, HH.out.below⟩
theorem own : ownKnob Try.prog.godebug = none := by kernel_rfl
theorem laidOut : laidOutB Try.prog = true := by kernel_rfl
theorem cells_uint64 : Try.prog.cellsOf 23 = 1 := by kernel_rfl
set_option maxRecDepth 100000 in
theorem lifted (os : Os) (started : os.Started) (H : Type) (enc : TypeId × Value → H) :
    ReturnsInHanded {} Try.checked os 7 .any (Rows.sourceApartSpec.pre6 enc Try.prog Try.f7 Rows.sourceApartRow.domain false) (Rows.sourceApartSpec.post enc Try.prog Try.f7 false true false false) := by
  refine returnsInHanded_of_change (C := Try.checked) own started (by kernel_rfl) Try.func7
    (ChangeSpec.witness6 (enc := enc) (C := Try.checked) false ⟨#[], #[.slice none 0 0, .slice none 0 0, .int .i64 0], []⟩ 8 (by kernel_rfl) (by kernel_rfl) (by kernel_rfl) (by kernel_rfl)) ?_
  intro W base args ds gs before hval0 hW hcnd _
  have hval : ∀ (j : Nat) t v, Try.f7.params[j]? = some t → args[j]? = some v → Value.okWide Try.prog W .any base t v := hval0
  have hW' := hW
  obtain ⟨p, q, hA0, hV, rfl, hfz, hnd⟩ := hW
  have hA : DataW.TrodAll enc Try.prog W 0 (fun _ => true) true Try.f7.params.toList args.toList ds p := hA0
  rw [Try.params7] at hA hval
  obtain ⟨v0, vs0, d0, ds0, p0, q0, hargs, rfl, rfl, h0, r0⟩ := trodAll_cons hA
  obtain ⟨v1, vs1, d1, ds1, p1, q1, rfl, rfl, rfl, h1, r1⟩ := trodAll_cons r0
  obtain ⟨v2, vs2, d2, ds2, p2, q2, rfl, rfl, rfl, h2, r2⟩ := trodAll_cons r1
  obtain ⟨rfl, rfl, rfl⟩ := trodAll_nil r2
  obtain rfl : args = #[v0, v1, v2] := by cases args; simp_all
  obtain ⟨rfl, rfl⟩ := trodVars_none hV
  obtain ⟨a0, w0, z0⟩ := lift.open_row Try.underlying28 Try.underlying23 cells_uint64 (okWide_slice Try.underlying28 (hval 0 28 v0 rfl rfl)) h0
  obtain ⟨a1, w1, z1⟩ := lift.open_row Try.underlying28 Try.underlying23 cells_uint64 (okWide_slice Try.underlying28 (hval 1 28 v1 rfl rfl)) h1
  obtain ⟨a2, rfl, rfl, rfl, w2⟩ := open_int Try.underlying3 (hval 2 3 v2 rfl rfl) h2
  clear hA0 hval0
  refine (walk v0 a0 v1 a1 a2 w2 W w0 z0 w1 z1).mono fun e W' ⟨he, hb⟩ => ?_
  subst he
  exact ⟨_, rfl, lift.post_law (tb := 4) laidOut (by rw [Try.params7]; exact fun t ht => (of_decide_eq_true (by kernel_rfl) : ∀ t ∈ [28, 28, 3], Try.prog.readableRec t = true ∧ t < Try.prog.types.size) t ht) (by kernel_rfl) Try.underlying4 rfl hW' rfl hb⟩
theorem over : Rows.sourceApartRow.holds Try.pinned (OpenSpec.ofChange Rows.sourceApartSpec) :=
  OpenClaim.holds_of_wide 7 Try.f7 rfl rfl rfl rfl rfl rfl rfl ⟨rfl, rfl, rfl, rfl, rfl⟩ rfl rfl rfl rfl rfl (by kernel_rfl) Try.func7 (by kernel_rfl)
    (of_decide_eq_true (by kernel_rfl)) (by unfold Func.isWrapper; first | (rw [if_pos (by decide +kernel)]; kernel_rfl) | (rw [if_neg (by decide +kernel)]; exact ⟨rfl, rfl⟩))
    (fun os started H enc _ => lifted os started H enc)
theorem proved : Rows.SourceApartSaid :=
  over
end Go.Proofs.Ythncogpkhaheeaa.sourceApart
