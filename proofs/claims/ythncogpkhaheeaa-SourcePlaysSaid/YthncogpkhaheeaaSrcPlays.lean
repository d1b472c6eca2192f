/- SourcePlays: what each act tells, and the time, and how many draws there are, is as the document's own answer says: no condition. -/
import Derived.Test.YthncogpkhaheeaaSrcActs
namespace Go.Proofs.Ythncogpkhaheeaa.sourcePlays
open Go.ChangeShapes Go.WideShapes Go.ChangeAt Go.RowKit frame lift sep src
set_option linter.unusedVariables false
set_option maxRecDepth 100000 in
set_option maxHeartbeats 16000000 in
theorem walk (v0 : Value) (l : List ActS) (a1 a2 : Int) (f1 : (Lit.int .u64 a1).wf = true) (f2 : (Lit.int .u64 a2).wf = true) (w : World) (f0 : Acts w v0 l) (z0 : ActsOk l) :
    Calls Try.prog 3 #[v0, .int .u64 a1, .int .u64 a2] w fun e w' => e = .returned (.bool true) ∧ Below w.heap.size w w' := by
  obtain ⟨n0, n1⟩ := bd_u64 f1
  obtain ⟨m0, m1⟩ := bd_u64 f2
  clear f1 f2
  have HS := Lib.hid f0
  have HZ := Lib.hid z0
  obtain ⟨aa, capa, rfl⟩ := acts_form f0
  clear f0 z0
  by_cases hbig : 200 < l.length
  · have hbi : (200 : Int) < (l.length : Int) := by omega
    go_enter Try.func3, Try.ntmps3
    go_wp2_with fail
    refine (shown_in (Hold.empty w)).mono ?_
    rintro e w1 ⟨rfl, h1⟩
    have H1 := Lib.hid h1; clear h1
    go_wp2_with fail
    refine (new_in H1.out).mono ?_
    rintro e w2 ⟨a, rfl, h2⟩
    have H2 := Lib.hid (rnew h2); clear h2
    go_wp2_with fail
    go_ret
    exact ⟨rfl, H2.out.below⟩
  · have hbi : ¬ (200 : Int) < (l.length : Int) := by omega
    go_enter Try.func3, Try.ntmps3
    go_wp2_with fail
    refine (shown_in (Hold.empty w)).mono ?_
    rintro e w1 ⟨rfl, h1⟩
    have H1 := Lib.hid h1; clear h1
    go_wp2_with fail
    refine (new_in H1.out).mono ?_
    rintro e w2 ⟨a, rfl, h2⟩
    have H2 := Lib.hid (rnew h2); clear h2
    obtain ⟨c, hc⟩ : ∃ c, w2.heap.size = c := ⟨_, rfl⟩
    rw [hc] at H2
    go_wp2_with fail
    clear hc
    go_loopw [10] (fun i wr => ∃ k : Nat, k ≤ l.length ∧ i = .int .i64 k ∧ Hid (Hold (fun _ => False) w [rsrc c (playS l k), src a (playS l k)] wr)) (fun i _ => l.length - (intOf i).toNat)
    case atStart => exact ⟨0, Nat.zero_le _, rfl, H2.out⟩
    case round =>
      obtain ⟨k, hk, rfl, HH⟩ := hrel
      by_cases hlt : k < l.length
      · obtain ⟨g, off, rfl, x0, x1, x2⟩ := acts_at HS.out HH.out.below k hlt
        have HOK := Lib.hid (HZ.out l[k] (List.getElem_mem hlt))
        obtain ⟨S, hS⟩ : ∃ S, playS l k = S := ⟨_, rfl⟩
        have HN : Hid (playS l (k + 1) = stepS S l[k]) := by
          have := playS_succ hlt
          rw [hS] at this
          exact this
        have K0 := Lib.hid (playS_ok HZ.out k)
        have hSl := playS_len l k
        rw [hS] at HH K0 hSl
        obtain ⟨⟨op, n, x⟩, hact⟩ : ∃ A, l[k] = A := ⟨_, rfl⟩
        rw [hact] at HOK HN x0 x1 x2
        dsimp only at x0 x1 x2
        clear hact hS
        obtain ⟨⟨op0, op1⟩, ⟨nn0, nn1⟩, xx0, xx1⟩ := HOK.out
        have hi1 : (0 : Int) ≤ (k : Int) := by omega
        have hi2 : (k : Int) < (l.length : Int) := by omega
        obtain ⟨B, hB⟩ : ∃ B, wr.heap.size = B := ⟨_, rfl⟩
        have h2 := HH.out.newBlk (Obj.cells #[.int .i64 op, .int .i64 n, .int .u64 x] 32)
        rw [hB] at h2
        have h3 := h2.perm ((List.Perm.swap _ _ _).trans ((List.Perm.cons _ (.swap _ _ _)).trans (.swap _ _ _)))
        have y1 := h3.cell (List.mem_cons_of_mem _ (List.mem_cons_of_mem _ (List.mem_cons_self ..))) 1
        have y2 := h3.cell (List.mem_cons_of_mem _ (List.mem_cons_of_mem _ (List.mem_cons_self ..))) 2
        simp at y1 y2
        have H3 := Lib.hid h3
        have Y1 := Lib.hid y1; have Y2 := Lib.hid y2
        obtain ⟨p, hp⟩ : ∃ p, pickI op 6 = p := ⟨_, rfl⟩
        have HP := Lib.hid hp
        clear h2 h3 y1 y2 HH hp
        go_wp2_with fail
        refine (pick_any op 6 op0 op1 (by decide) (by decide) _).mono ?_
        rintro e w5 ⟨rfl, rfl⟩
        rw [HP.out]
        clear x0 x1 x2
        have y1 := Y1.out
        have y2 := Y2.out
        have hSl2 : S.ds.length ≤ 1000000 := by omega
        obtain ⟨wx, hwx⟩ : ∃ wx, wr.alloc (Obj.cells #[.int .i64 op, .int .i64 n, .int .u64 x] 32) = wx := ⟨_, rfl⟩
        rw [hwx] at H3 y1 y2 Y1 Y2
        rw [hwx]
        clear hB hwx
        by_cases hp2 : p < 2
        · have HST : Hid (stepS S ⟨op, n, x⟩ = tickS S x) := by
            unfold Hid stepS
            dsimp only
            rw [HP.out, if_pos hp2]
          go_wp2_with fail
          refine (tick_in H3.out K0.out x xx0 xx1).mono ?_
          rintro e w6 ⟨rfl, h6⟩
          have z2 := h6.cell (List.mem_cons_of_mem _ (List.mem_cons_of_mem _ (List.mem_cons_self ..))) 2
          simp at z2
          have H6 := Lib.hid h6.swap; clear h6
          go_wp2_with fail
          refine (rtick_in H6.out K0.out x xx0 xx1).mono ?_
          rintro e w7 ⟨rfl, h7⟩
          have h9 := (h7.perm ((List.Perm.cons _ (.swap _ _ _)).trans (.swap _ _ _))).drop
          clear h7
          obtain ⟨T, hT⟩ : ∃ T, tickS S x = T := ⟨_, rfl⟩
          rw [hT] at h9
          have HE : Hid (stepS S ⟨op, n, x⟩ = T) := by rw [← hT]; exact HST.out
          have HL9 : Hid (T.ds.length ≤ 1000000) := by
            have h1 := stepS_len S ⟨op, n, x⟩
            have h2 := HE.out
            rw [h2] at h1
            unfold Hid
            omega
          obtain ⟨s0, sa, sc, s1⟩ := rsees h9 (List.mem_cons_self ..)
          have H9 := Lib.hid h9
          clear h9 hT
          go_wp2_with fail
          go_quiet ((first | (go_at_call 19; refine Calls.quiet_of_same (now_q H9.out (List.mem_cons_of_mem _ (List.mem_cons_self ..)) rfl _)) | (go_at_call 20; refine Calls.quiet_of (left_in (H9.out.drewN _) (List.mem_cons_of_mem _ (List.mem_cons_self ..)) HL9.out))))
          go_wp2_with fail
          go_roundw
          case rel => exact ⟨k + 1, by omega, by go_num, by rw [HN.out, HE.out]; exact H9.out.drewN _⟩
          case measure => simp [intOf]; omega
        · by_cases hp4 : p < 4
          · have HST : Hid (stepS S ⟨op, n, x⟩ = addS S x) := by
              unfold Hid stepS
              dsimp only
              rw [HP.out, if_neg hp2, if_pos hp4]
            have yd : wx.drew.cell? ⟨B, 2, none⟩ = some (.int .u64 x) := y2
            go_wp2_with fail
            go_region_held3 (fun w' => w'.cell? ⟨B, 2, none⟩ = some (.int .u64 x)) (go_keep) (first
              | (go_at_call 15; (refine (add_in H3.out.drew hSl2 x xx0 xx1).mono ?_); rintro e w6 ⟨rfl, h6⟩; (have z2 := h6.cell (List.mem_cons_of_mem _ (List.mem_cons_of_mem _ (List.mem_cons_self ..))) 2); simp at z2; (have H6 := Lib.hid h6.swap); clear h6)
              | (go_at_call 16; (refine (radd_in H6.out hSl2 x xx0 xx1).mono ?_); rintro e w7 ⟨rfl, h7⟩; (have z3 := h7.cell (List.mem_cons_of_mem _ (List.mem_cons_of_mem _ (List.mem_cons_self ..))) 2); simp at z3; (have H7 := Lib.hid h7); clear h7))
            have h9 := (H7.out.perm ((List.Perm.cons _ (.swap _ _ _)).trans (.swap _ _ _))).drop
            obtain ⟨T, hT⟩ : ∃ T, addS S x = T := ⟨_, rfl⟩
            rw [hT] at h9
            have HE : Hid (stepS S ⟨op, n, x⟩ = T) := by rw [← hT]; exact HST.out
            have HL9 : Hid (T.ds.length ≤ 1000000) := by
              have h1 := stepS_len S ⟨op, n, x⟩
              have h2 := HE.out
              rw [h2] at h1
              unfold Hid
              omega
            obtain ⟨s0, sa, sc, s1⟩ := rsees h9 (List.mem_cons_self ..)
            have H9 := Lib.hid h9
            clear h9 hT
            go_wp2_with fail
            go_quiet ((first | (go_at_call 19; refine Calls.quiet_of_same (now_q H9.out (List.mem_cons_of_mem _ (List.mem_cons_self ..)) rfl _)) | (go_at_call 20; refine Calls.quiet_of (left_in (H9.out.drewN _) (List.mem_cons_of_mem _ (List.mem_cons_self ..)) HL9.out))))
            go_wp2_with fail
            go_roundw
            case rel => exact ⟨k + 1, by omega, by go_num, by rw [HN.out, HE.out]; exact H9.out.drewN _⟩
            case measure => simp [intOf]; omega
          · have HST : Hid (stepS S ⟨op, n, x⟩ = drawS S n) := by
              unfold Hid stepS
              dsimp only
              rw [HP.out, if_neg hp2, if_neg hp4]
            have yd : wx.drew.cell? ⟨B, 1, none⟩ = some (.int .i64 n) := y1
            go_wp2_with fail
            go_region_held3 (fun w' => w'.cell? ⟨B, 1, none⟩ = some (.int .i64 n)) (go_keep) (first
              | (go_at_call 17; (refine (draw_in H3.out.drew K0.out hSl2 n nn1).mono ?_); rintro e w6 ⟨rfl, h6⟩; (have z2 := h6.cell (List.mem_cons_of_mem _ (List.mem_cons_of_mem _ (List.mem_cons_self ..))) 1); simp at z2; (have H6 := Lib.hid h6.swap); clear h6)
              | (go_at_call 18; (refine (rdraw_in H6.out K0.out hSl2 n nn1).mono ?_); rintro e w7 ⟨rfl, h7⟩; (have z3 := h7.cell (List.mem_cons_of_mem _ (List.mem_cons_of_mem _ (List.mem_cons_self ..))) 1); simp at z3; (have H7 := Lib.hid h7); clear h7))
            have h9 := (H7.out.perm ((List.Perm.cons _ (.swap _ _ _)).trans (.swap _ _ _))).drop
            obtain ⟨T, hT⟩ : ∃ T, drawS S n = T := ⟨_, rfl⟩
            rw [hT] at h9
            have HE : Hid (stepS S ⟨op, n, x⟩ = T) := by rw [← hT]; exact HST.out
            have HL9 : Hid (T.ds.length ≤ 1000000) := by
              have h1 := stepS_len S ⟨op, n, x⟩
              have h2 := HE.out
              rw [h2] at h1
              unfold Hid
              omega
            obtain ⟨s0, sa, sc, s1⟩ := rsees h9 (List.mem_cons_self ..)
            have H9 := Lib.hid h9
            clear h9 hT
            go_wp2_with fail
            go_quiet ((first | (go_at_call 19; refine Calls.quiet_of_same (now_q H9.out (List.mem_cons_of_mem _ (List.mem_cons_self ..)) rfl _)) | (go_at_call 20; refine Calls.quiet_of (left_in (H9.out.drewN _) (List.mem_cons_of_mem _ (List.mem_cons_self ..)) HL9.out))))
            go_wp2_with fail
            go_roundw
            case rel => exact ⟨k + 1, by omega, by go_num, by rw [HN.out, HE.out]; exact H9.out.drewN _⟩
            case measure => simp [intOf]; omega
      · go_wp2_with fail
        refine (dead_any a1 a2 n0 n1 m0 m1 wr).mono ?_
        rintro e w5 ⟨rfl, rfl⟩
        go_wp2_with fail
        refine (rdead_any a1 a2 n0 n1 m0 m1 wr).mono ?_
        rintro e w5 ⟨rfl, rfl⟩
        go_wp2_with fail
        go_ret
        exact ⟨rfl, HH.out.below⟩
theorem own : ownKnob Try.prog.godebug = none := by kernel_rfl
theorem laidOut : laidOutB Try.prog = true := by kernel_rfl
set_option maxRecDepth 100000 in
theorem lifted (os : Os) (started : os.Started) (H : Type) (enc : TypeId × Value → H) :
    ReturnsInHanded {} Try.checked os 3 .any (Rows.sourcePlaysSpec.pre6 enc Try.prog Try.f3 Rows.sourcePlaysRow.domain false) (Rows.sourcePlaysSpec.post enc Try.prog Try.f3 false true false false) := by
  refine returnsInHanded_of_change (C := Try.checked) own started (by kernel_rfl) Try.func3
    (ChangeSpec.witness6 (enc := enc) (C := Try.checked) false ⟨#[], #[.slice none 0 0, .int .u64 0, .int .u64 0], []⟩ 8 (by kernel_rfl) (by kernel_rfl) (by kernel_rfl) (by kernel_rfl)) ?_
  intro W base args ds gs before hval0 hW hcnd _
  have hval : ∀ (j : Nat) t v, Try.f3.params[j]? = some t → args[j]? = some v → Value.okWide Try.prog W .any base t v := hval0
  have hW' := hW
  obtain ⟨p, q, hA0, hV, rfl, hfz, hnd⟩ := hW
  have hA : DataW.TrodAll enc Try.prog W 0 (fun _ => true) true Try.f3.params.toList args.toList ds p := hA0
  rw [Try.params3] at hA hval
  obtain ⟨v0, vs0, d0, ds0, p0, q0, hargs, rfl, rfl, h0, r0⟩ := trodAll_cons hA
  obtain ⟨v1, vs1, d1, ds1, p1, q1, rfl, rfl, rfl, h1, r1⟩ := trodAll_cons r0
  obtain ⟨v2, vs2, d2, ds2, p2, q2, rfl, rfl, rfl, h2, r2⟩ := trodAll_cons r1
  obtain ⟨rfl, rfl, rfl⟩ := trodAll_nil r2
  obtain rfl : args = #[v0, v1, v2] := by cases args; simp_all
  obtain ⟨rfl, rfl⟩ := trodVars_none hV
  obtain ⟨a0, w0, z0⟩ := src.open_acts (okWide_slice Try.underlying22 (hval 0 22 v0 rfl rfl)) h0
  obtain ⟨a1, rfl, rfl, rfl, w1⟩ := open_int Try.underlying23 (hval 1 23 v1 rfl rfl) h1
  obtain ⟨a2, rfl, rfl, rfl, w2⟩ := open_int Try.underlying23 (hval 2 23 v2 rfl rfl) h2
  clear hA0 hval0
  refine (walk v0 a0 a1 a2 w1 w2 W w0 z0).mono fun e W' ⟨he, hb⟩ => ?_
  subst he
  exact ⟨_, rfl, lift.post_law (tb := 4) laidOut (by rw [Try.params3]; exact fun t ht => (of_decide_eq_true (by kernel_rfl) : ∀ t ∈ [22, 23, 23], Try.prog.readableRec t = true ∧ t < Try.prog.types.size) t ht) (by kernel_rfl) Try.underlying4 rfl hW' rfl hb⟩
theorem over : Rows.sourcePlaysRow.holds Try.pinned (OpenSpec.ofChange Rows.sourcePlaysSpec) :=
  OpenClaim.holds_of_wide 3 Try.f3 rfl rfl rfl rfl rfl rfl rfl ⟨rfl, rfl, rfl, rfl, rfl⟩ rfl rfl rfl rfl rfl (by kernel_rfl) Try.func3 (by kernel_rfl)
    (of_decide_eq_true (by kernel_rfl)) (by unfold Func.isWrapper; first | (rw [if_pos (by decide +kernel)]; kernel_rfl) | (rw [if_neg (by decide +kernel)]; exact ⟨rfl, rfl⟩))
    (fun os started H enc _ => lifted os started H enc)
theorem proved : Rows.SourcePlaysSaid :=
  over
end Go.Proofs.Ythncogpkhaheeaa.sourcePlays
