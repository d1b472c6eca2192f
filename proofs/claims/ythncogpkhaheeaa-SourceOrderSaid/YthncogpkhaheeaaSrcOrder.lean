/- SourceOrder: draws are told in their order, each once, by their remainders; when there is none, 0 is: no condition. -/
import Derived.Test.YthncogpkhaheeaaSrcB
namespace Go.Proofs.Ythncogpkhaheeaa.sourceOrder
open Go.ChangeShapes Go.WideShapes Go.ChangeAt Go.RowKit frame lift sep src
set_option linter.unusedVariables false
theorem ok_ds {L : List Int} (h : ∀ d ∈ L, 0 ≤ d ∧ d ≤ 63) : ScOk ⟨0, L⟩ := ⟨Int.le_refl _, by show (0 : Int) ≤ top; decide, h⟩
theorem draw_none (L : List Int) (n : Int) (hn : n ≤ 0) : drawV ⟨0, L⟩ n = 0 ∧ drawS ⟨0, L⟩ n = ⟨0, L⟩ := by
  have h : n < 1 := by omega
  simp [drawV, drawS, h]
theorem draw_nil (n : Int) : drawV ⟨0, []⟩ n = 0 ∧ drawS ⟨0, []⟩ n = ⟨0, []⟩ := by
  unfold drawV drawS
  split <;> simp
theorem draw_cons (d : Int) (L : List Int) (n : Int) (hn : 1 ≤ n) : drawV ⟨0, d :: L⟩ n = d % n ∧ drawS ⟨0, d :: L⟩ n = ⟨0, L⟩ := by
  have h : ¬ n < 1 := by omega
  simp [drawV, drawS, h]
set_option maxRecDepth 100000 in
set_option maxHeartbeats 16000000 in
theorem walk (v0 : Value) (ds : List Int) (v1 : Value) (by_ : List Int) (w : World) (f0 : Ints w .u64 v0 ds) (z0 : Fit .u64 ds) (f1 : Ints w .i64 v1 by_) (z1 : Fit .i64 by_) :
    Calls Try.prog 5 #[v0, v1] w fun e w' => e = .returned (.bool true) ∧ Below w.heap.size w w' := by
  have HZ := Lib.hid z0; have HZB := Lib.hid z1
  obtain ⟨a0, c0, rfl, hf⟩ := u64_form f0
  obtain ⟨a1, c1, rfl, hf1⟩ := i64_form f1
  have HF := Lib.hid hf; have HFB := Lib.hid hf1
  clear f0 z0 hf f1 z1 hf1
  by_cases hbig : 100 < ds.length
  · have hbi : (100 : Int) < (ds.length : Int) := by omega
    go_enter Try.func5, Try.ntmps5
    go_wp2_with fail
    refine (shown_in (Hold.empty w)).mono ?_
    rintro e w1 ⟨rfl, h1⟩
    have H1 := Lib.hid h1; clear h1
    go_wp2_with fail
    refine (new_in H1.out).mono ?_
    rintro e w2 ⟨a, rfl, h2⟩
    have H2 := Lib.hid h2; clear h2
    go_wp2_with fail
    go_ret
    exact ⟨rfl, H2.out.below⟩
  · have hbi : ¬ (100 : Int) < (ds.length : Int) := by omega
    by_cases hbig2 : 200 < by_.length
    · have hbj : (200 : Int) < (by_.length : Int) := by omega
      go_enter Try.func5, Try.ntmps5
      go_wp2_with fail
      refine (shown_in (Hold.empty w)).mono ?_
      rintro e w1 ⟨rfl, h1⟩
      have H1 := Lib.hid h1; clear h1
      go_wp2_with fail
      refine (new_in H1.out).mono ?_
      rintro e w2 ⟨a, rfl, h2⟩
      have H2 := Lib.hid h2; clear h2
      go_wp2_with fail
      go_ret
      exact ⟨rfl, H2.out.below⟩
    · have hbj : ¬ (200 : Int) < (by_.length : Int) := by omega
      obtain ⟨ii, hi, hz0, hz1, hz2⟩ := info_parts info64
      have J1 := Lib.hid hi; have J2 := Lib.hid hz0; have J3 := Lib.hid hz1; have J4 := Lib.hid hz2; clear hi hz0 hz1 hz2
      go_enter Try.func5, Try.ntmps5
      go_wp2_with fail
      refine (shown_in (Hold.empty w)).mono ?_
      rintro e w1 ⟨rfl, h1⟩
      have H1 := Lib.hid h1; clear h1
      go_wp2_with fail
      refine (new_in H1.out).mono ?_
      rintro e w2 ⟨a, rfl, h2⟩
      have H2 := Lib.hid (h2.nilRow 23 1); clear h2
      go_wp2_with fail
      go_loopw [7, 8] (fun v i wr => ∃ (k : Nat) (L : List Int), k ≤ ds.length ∧ i = .int .i64 k ∧ L.length ≤ k ∧ Hid (∀ d ∈ L, 0 ≤ d ∧ d ≤ 63) ∧ Hid (Hold (fun _ => False) w [row 23 1 v L.length (L.map (Value.int .u64)), src a ⟨0, L⟩] wr)) (fun _ i _ => ds.length - (intOf i).toNat)
      case atStart => exact ⟨0, [], Nat.zero_le _, rfl, Nat.le_refl _, fun d hd => by simp at hd, H2.out⟩
      case round =>
        obtain ⟨k, L, hk, rfl, hL, HB, HH⟩ := hrel
        by_cases hlt : k < ds.length
        · obtain ⟨g, off, rfl, hg, hc⟩ := HF.out (by omega)
          have e0 := (HH.out.below.cell (p := ⟨g, off + k, none⟩) hg).trans (hc k hlt)
          have HC := Lib.hid (hc k hlt)
          obtain ⟨n0, n1⟩ := nth_u64 HZ.out k
          obtain ⟨x, hx⟩ : ∃ x, nth ds k = x := ⟨_, rfl⟩
          rw [hx] at e0 n0 n1 HC
          have N0 := Lib.hid n0; have N1 := Lib.hid n1
          have hi1 : (0 : Int) ≤ (k : Int) := by omega
          have hi2 : (k : Int) < (ds.length : Int) := by omega
          clear hc hx n1
          by_cases h63 : x ≤ 63
          · have EA : Hid (addE x = 0 ∧ addS ⟨0, L⟩ x = ⟨0, L ++ [x]⟩) := by simp [Hid, addE, addS, h63]
            have h64 : x < 64 := by omega
            go_wp2_with fail
            refine (add_in HH.out.swap (by show L.length ≤ _; omega) x N0.out N1.out).mono ?_
            rintro e w5 ⟨rfl, h5⟩
            rw [EA.out.1]
            rw [EA.out.2] at h5
            have e5 := (h5.below.cell (p := ⟨g, off + k, none⟩) hg).trans HC.out
            have H5 := Lib.hid h5.swap; clear h5
            have HR := Lib.hid (H5.out.rowIs (e := 23) (size := 1) (List.mem_cons_self ..))
            go_wp2_with ((at_builtin; go_loud (refine wpList_append_lies _ rfl _ _ 28 rfl 0 23 ii (.int .u64 0) 1 8 Try.underlying28 J1.out J2.out J3.out J4.out rfl (by decide) _ L.length _ rfl (HR.out.alloc _) ⟨w5.heap.size, 0, none⟩ 1 1 [.int .u64 x] rfl rfl ?c1 ?c2 (by decide) ?c3 ?c4 (by simp) (w5.heap.size + 1) (by simp) ?_)))
            case c1 =>
              intro j u hj
              match j, hj with
              | 0, hj =>
                simp at hj
                subst hj
                exact cell_of_row _ _ 0 _ _ _ (heap_alloc_new w5 _)
            case c2 => intro u hu; simp at hu; subst hu; rfl
            case c3 => simp only [maxLen]; omega
            case c4 => omega
            intro g9 cap9 w6 hown hgrow hat hlt9
            have h6 := (H5.out.alloc (Obj.cells #[.int .u64 x] 23)).appended (by simpa using hown) hgrow (by simpa using hat) hlt9
            have H6 := Lib.hid h6
            clear hown hgrow hat h6
            go_wp2_with fail
            go_roundw
            case rel => exact ⟨k + 1, L ++ [x], by omega, by go_num, by simp; omega, fun d hd => by
              rcases List.mem_append.1 hd with hd | hd
              · exact HB.out d hd
              · simp at hd
                subst hd
                exact ⟨N0.out, h63⟩, by
              have h := H6.out
              unfold Hid
              simpa using h⟩
            case measure => simp [intOf]; omega
          · have EA : Hid (addE x = 1 ∧ addS ⟨0, L⟩ x = ⟨0, L⟩) := by simp [Hid, addE, addS, h63]
            have h64 : ¬ x < 64 := by omega
            go_wp2_with fail
            refine (add_in HH.out.swap (by show L.length ≤ _; omega) x N0.out N1.out).mono ?_
            rintro e w5 ⟨rfl, h5⟩
            rw [EA.out.1]
            rw [EA.out.2] at h5
            have e5 := (h5.below.cell (p := ⟨g, off + k, none⟩) hg).trans HC.out
            have H5 := Lib.hid h5.swap; clear h5
            go_wp2_with fail
            go_roundw
            case rel => exact ⟨k + 1, L, by omega, by go_num, by omega, HB.out, H5.out⟩
            case measure => simp [intOf]; omega
        · have hl100 : L.length ≤ 100 := by omega
          have HV := Lib.hid HH.out.rowView
          go_wp2_with fail
          go_loopw [7, 10] (fun v i wv => ∃ (j : Nat) (M : List Int) (vv : Value), v = vv ∧ j ≤ by_.length ∧ i = .int .i64 j ∧ M.length ≤ 100 ∧ Hid (∀ d ∈ M, 0 ≤ d ∧ d ≤ 63) ∧ Hid (Hold (fun _ => False) w [view .u64 v M, src a ⟨0, M⟩] wv)) (fun _ i _ => by_.length - (intOf i).toNat)
          case atStart => exact ⟨0, L, _, rfl, Nat.zero_le _, rfl, hl100, HB.out, HV.out⟩
          case round =>
            clear HH HV HB hL hl100
            obtain ⟨j, M, v, hvv, hj, rfl, hM, HB, HH⟩ := hrel
            have hv2 := hvv.symm
            clear hvv
            subst hv2
            by_cases hjl : j < by_.length
            · obtain ⟨g, off, rfl, hg, hc⟩ := HFB.out (by omega)
              have e0 := (HH.out.below.cell (p := ⟨g, off + j, none⟩) hg).trans (hc j hjl)
              obtain ⟨n0, n1⟩ := nth_i64 HZB.out j
              obtain ⟨c, hcx⟩ : ∃ c, nth by_ j = c := ⟨_, rfl⟩
              rw [hcx] at e0 n0 n1
              obtain ⟨p, hp⟩ : ∃ p, pickI c 100 = p := ⟨_, rfl⟩
              have hpb := pickI_bd c 100 (by decide)
              rw [hp] at hpb
              obtain ⟨p0, p1⟩ := hpb
              have HP := Lib.hid hp
              obtain ⟨n, hn⟩ : ∃ n, 1 + p = n := ⟨_, rfl⟩
              have nb0 : 1 ≤ n := by omega
              have nb1 : n ≤ 100 := by omega
              have hi1 : (0 : Int) ≤ (j : Int) := by omega
              have hi2 : (j : Int) < (by_.length : Int) := by omega
              have K0 := Lib.hid (ok_ds HB.out)
              clear hc hcx hp
              cases M with
              | nil =>
                obtain ⟨av, ac, hav⟩ : ∃ a c, v = .slice a 0 c := by
                  rcases HH.out.viewIs (List.mem_cons_self ..) with ⟨_, a, c, rfl⟩ | ⟨h0, _⟩
                  · exact ⟨a, c, rfl⟩
                  · simp at h0
                subst hav
                have D1 := Lib.hid (draw_nil n)
                have HB2 := HB
                have K2 := K0
                have DZ := Lib.hid (draw_none [] 0 (by decide)); have DN := Lib.hid (draw_none [] (-n) (by omega))
                go_wp2_with fail
                refine (pick_any c 100 n0 n1 (by decide) (by decide) _).mono ?_
                rintro e w5 ⟨rfl, rfl⟩
                rw [HP.out]
                go_wp2_with fail
                refine (left_in HH.out (List.mem_cons_of_mem _ (List.mem_cons_self ..)) (by simp)).mono ?_
                rintro e w5 ⟨rfl, nL, rfl⟩
                go_wp2_with fail
                refine (draw_in (HH.out.drewN _).swap K0.out (by simp) n (by omega)).mono ?_
                rintro e w6 ⟨rfl, h6⟩
                rw [D1.out.1]
                rw [D1.out.2] at h6
                have H6 := Lib.hid h6; clear h6
                go_wp2_with fail
                refine (left_in H6.out (List.mem_cons_self ..) (by simp)).mono ?_
                rintro e w7 ⟨rfl, nL, rfl⟩
                go_wp2_with fail
                refine (draw_in (H6.out.drewN _) K2.out (by simp) 0 (by decide)).mono ?_
                rintro e w7 ⟨rfl, h7⟩
                rw [DZ.out.1]
                rw [DZ.out.2] at h7
                have H7 := Lib.hid h7; clear h7
                go_wp2_with fail
                refine (draw_in H7.out K2.out (by simp) (-n) (by omega)).mono ?_
                rintro e w8 ⟨rfl, h8⟩
                rw [DN.out.1]
                rw [DN.out.2] at h8
                have H8 := Lib.hid h8; clear h8
                go_wp2_with fail
                refine (left_in H8.out (List.mem_cons_self ..) (by simp)).mono ?_
                rintro e w9 ⟨rfl, nL, rfl⟩
                go_wp2_with fail
                go_roundw
                case rel => exact ⟨j + 1, [], _, rfl, by omega, by go_num, by simp, HB2.out, (H8.out.drewN _).swap⟩
                case measure => simp [intOf]; omega
              | cons d M =>
                obtain ⟨d0, d1⟩ := HB.out d (List.mem_cons_self ..)
                have HB2 : Hid (∀ x ∈ M, 0 ≤ x ∧ x ≤ 63) := fun x hx => HB.out x (List.mem_cons_of_mem _ hx)
                have K2 := Lib.hid (ok_ds HB2.out)
                have D1 := Lib.hid (draw_cons d M n nb0)
                have DZ := Lib.hid (draw_none M 0 (by decide)); have DN := Lib.hid (draw_none M (-n) (by omega))
                obtain ⟨g2, o2, cap2, rfl, hc1, hc2, e1⟩ : ∃ g2 o2 cap2, v = .slice (some ⟨g2, o2, none⟩) (M.length + 1) cap2 ∧ M.length + 1 ≤ cap2 ∧ cap2 ≤ maxLen ∧ wr.cell? ⟨g2, o2, none⟩ = some (.int .u64 d) := by
                  rcases HH.out.viewIs (List.mem_cons_self ..) with ⟨h, _⟩ | ⟨h0, b, o, c, rfl, h1, h2, h3, h4⟩
                  · cases h
                  · exact ⟨b, o, c, rfl, h1, h2, by simpa [nth, List.getD] using h4 0 (by simp)⟩
                unfold maxLen at hc2
                simp only [List.length_cons] at hM
                have HT2 := Lib.hid HH.out.viewTail
                have hm0 : 0 ≤ d % n := Int.emod_nonneg _ (by omega)
                have hm1 : d % n ≤ d := mod_le d0 (by omega)
                have htm : d.tmod n = d % n := Int.tmod_eq_emod_of_nonneg d0
                have hwd : IntKind.i64.wrap d = d := IntWalk.i64_in _ (by omega)
                have hl1 : (0 : Int) < (M.length : Int) + 1 := by omega
                have hl2 : (1 : Int) ≤ (M.length : Int) + 1 := by omega
                have hl3 : ((M.length : Int) + 1 == 0) = false := by simp; omega
                by_cases hcap : cap2 = 1
                · obtain rfl : M = [] := List.eq_nil_of_length_eq_zero (by omega)
                  subst hcap
                  rw [if_pos rfl] at HT2
                  go_wp2_with fail
                  refine (pick_any c 100 n0 n1 (by decide) (by decide) _).mono ?_
                  rintro e w5 ⟨rfl, rfl⟩
                  rw [HP.out]
                  go_wp2_with fail
                  refine (left_in HT2.out (List.mem_cons_of_mem _ (List.mem_cons_self ..)) (by simp)).mono ?_
                  rintro e w5 ⟨rfl, nL, rfl⟩
                  go_wp2_with fail
                  refine (draw_in (HT2.out.drewN _).swap K0.out (by simp) n (by omega)).mono ?_
                  rintro e w6 ⟨rfl, h6⟩
                  rw [D1.out.1]
                  rw [D1.out.2] at h6
                  have H6 := Lib.hid h6; clear h6
                  go_wp2_with fail
                  refine (left_in H6.out (List.mem_cons_self ..) (by simp)).mono ?_
                  rintro e w7 ⟨rfl, nL, rfl⟩
                  go_wp2_with fail
                  refine (draw_in (H6.out.drewN _) K2.out (by simp) 0 (by decide)).mono ?_
                  rintro e w7 ⟨rfl, h7⟩
                  rw [DZ.out.1]
                  rw [DZ.out.2] at h7
                  have H7 := Lib.hid h7; clear h7
                  go_wp2_with fail
                  refine (draw_in H7.out K2.out (by simp) (-n) (by omega)).mono ?_
                  rintro e w8 ⟨rfl, h8⟩
                  rw [DN.out.1]
                  rw [DN.out.2] at h8
                  have H8 := Lib.hid h8; clear h8
                  go_wp2_with fail
                  refine (left_in H8.out (List.mem_cons_self ..) (by simp)).mono ?_
                  rintro e w9 ⟨rfl, nL, rfl⟩
                  go_wp2_with fail
                  go_roundw
                  case rel => exact ⟨j + 1, [], _, rfl, by omega, by go_num, by simp, HB2.out, (H8.out.drewN _).swap⟩
                  case measure => simp [intOf]; omega
                · rw [if_neg hcap] at HT2
                  go_wp2_with fail
                  refine (pick_any c 100 n0 n1 (by decide) (by decide) _).mono ?_
                  rintro e w5 ⟨rfl, rfl⟩
                  rw [HP.out]
                  go_wp2_with fail
                  refine (left_in HT2.out (List.mem_cons_of_mem _ (List.mem_cons_self ..)) (by simp; omega)).mono ?_
                  rintro e w5 ⟨rfl, nL, rfl⟩
                  go_wp2_with fail
                  refine (draw_in (HT2.out.drewN _).swap K0.out (by simp; omega) n (by omega)).mono ?_
                  rintro e w6 ⟨rfl, h6⟩
                  rw [D1.out.1]
                  rw [D1.out.2] at h6
                  have H6 := Lib.hid h6; clear h6
                  go_wp2_with fail
                  refine (left_in H6.out (List.mem_cons_self ..) (by show M.length ≤ _; omega)).mono ?_
                  rintro e w7 ⟨rfl, nL, rfl⟩
                  go_wp2_with fail
                  refine (draw_in (H6.out.drewN _) K2.out (by show M.length ≤ _; omega) 0 (by decide)).mono ?_
                  rintro e w7 ⟨rfl, h7⟩
                  rw [DZ.out.1]
                  rw [DZ.out.2] at h7
                  have H7 := Lib.hid h7; clear h7
                  go_wp2_with fail
                  refine (draw_in H7.out K2.out (by show M.length ≤ _; omega) (-n) (by omega)).mono ?_
                  rintro e w8 ⟨rfl, h8⟩
                  rw [DN.out.1]
                  rw [DN.out.2] at h8
                  have H8 := Lib.hid h8; clear h8
                  go_wp2_with fail
                  refine (left_in H8.out (List.mem_cons_self ..) (by show M.length ≤ _; omega)).mono ?_
                  rintro e w9 ⟨rfl, nL, rfl⟩
                  go_wp2_with fail
                  go_roundw
                  case rel => exact ⟨j + 1, M, _, rfl, by omega, by go_num, by omega, HB2.out, (H8.out.drewN _).swap⟩
                  case measure => simp [intOf]; omega
            · go_wp2_with fail
              go_ret
              exact ⟨rfl, HH.out.below⟩
theorem own : ownKnob Try.prog.godebug = none := by kernel_rfl
theorem laidOut : laidOutB Try.prog = true := by kernel_rfl
theorem cells_int : Try.prog.cellsOf 3 = 1 := by kernel_rfl
theorem cells_uint64 : Try.prog.cellsOf 23 = 1 := by kernel_rfl
set_option maxRecDepth 100000 in
theorem lifted (os : Os) (started : os.Started) (H : Type) (enc : TypeId × Value → H) :
    ReturnsInHanded {} Try.checked os 5 .any (Rows.sourceOrderSpec.pre6 enc Try.prog Try.f5 Rows.sourceOrderRow.domain false) (Rows.sourceOrderSpec.post enc Try.prog Try.f5 false true false false) := by
  refine returnsInHanded_of_change (C := Try.checked) own started (by kernel_rfl) Try.func5
    (ChangeSpec.witness6 (enc := enc) (C := Try.checked) false ⟨#[], #[.slice none 0 0, .slice none 0 0], []⟩ 8 (by kernel_rfl) (by kernel_rfl) (by kernel_rfl) (by kernel_rfl)) ?_
  intro W base args ds gs before hval0 hW hcnd _
  have hval : ∀ (j : Nat) t v, Try.f5.params[j]? = some t → args[j]? = some v → Value.okWide Try.prog W .any base t v := hval0
  have hW' := hW
  obtain ⟨p, q, hA0, hV, rfl, hfz, hnd⟩ := hW
  have hA : DataW.TrodAll enc Try.prog W 0 (fun _ => true) true Try.f5.params.toList args.toList ds p := hA0
  rw [Try.params5] at hA hval
  obtain ⟨v0, vs0, d0, ds0, p0, q0, hargs, rfl, rfl, h0, r0⟩ := trodAll_cons hA
  obtain ⟨v1, vs1, d1, ds1, p1, q1, rfl, rfl, rfl, h1, r1⟩ := trodAll_cons r0
  obtain ⟨rfl, rfl, rfl⟩ := trodAll_nil r1
  obtain rfl : args = #[v0, v1] := by cases args; simp_all
  obtain ⟨rfl, rfl⟩ := trodVars_none hV
  obtain ⟨a0, w0, z0⟩ := lift.open_row Try.underlying28 Try.underlying23 cells_uint64 (okWide_slice Try.underlying28 (hval 0 28 v0 rfl rfl)) h0
  obtain ⟨a1, w1, z1⟩ := lift.open_row Try.underlying43 Try.underlying3 cells_int (okWide_slice Try.underlying43 (hval 1 43 v1 rfl rfl)) h1
  clear hA0 hval0
  refine (walk v0 a0 v1 a1 W w0 z0 w1 z1).mono fun e W' ⟨he, hb⟩ => ?_
  subst he
  exact ⟨_, rfl, lift.post_law (tb := 4) laidOut (by rw [Try.params5]; exact fun t ht => (of_decide_eq_true (by kernel_rfl) : ∀ t ∈ [28, 43], Try.prog.readableRec t = true ∧ t < Try.prog.types.size) t ht) (by kernel_rfl) Try.underlying4 rfl hW' rfl hb⟩
theorem over : Rows.sourceOrderRow.holds Try.pinned (OpenSpec.ofChange Rows.sourceOrderSpec) :=
  OpenClaim.holds_of_wide 5 Try.f5 rfl rfl rfl rfl rfl rfl rfl ⟨rfl, rfl, rfl, rfl, rfl⟩ rfl rfl rfl rfl rfl (by kernel_rfl) Try.func5 (by kernel_rfl)
    (of_decide_eq_true (by kernel_rfl)) (by unfold Func.isWrapper; first | (rw [if_pos (by decide +kernel)]; kernel_rfl) | (rw [if_neg (by decide +kernel)]; exact ⟨rfl, rfl⟩))
    (fun os started H enc _ => lifted os started H enc)
theorem proved : Rows.SourceOrderSaid :=
  over
end Go.Proofs.Ythncogpkhaheeaa.sourceOrder
