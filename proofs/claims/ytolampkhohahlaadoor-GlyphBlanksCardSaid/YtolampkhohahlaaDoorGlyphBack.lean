/- GlyphBack: entries that were put are parsed again, each where its bytes begin: no condition. -/
import Derived.Test.YtolampkhohahlaaDoorGlyphGr
import Derived.Test.YtolampkhohahlaaDoorGlyphTells
namespace Go.Proofs.YtolampkhohahlaaDoor.g3
open gl lift
theorem put_single (e : Ent) : put [e] = put1 e := by unfold put; simp
/-- Where the entries stand that are parsed of what was put. -/
theorem back_at {t : ByteArray} {L : List Ent} (ht : bytes t = put L) (hg : ∀ e ∈ L, gl.Good e) : (parse (bytes t)).length = L.length ∧ ∀ (i : Nat) (h : i < (parse (bytes t)).length), (parse (bytes t))[i].at_ = pos L i := by
  have hp : parse (bytes t) = stands 0 (L.map fun e => (e, ([] : Bs))) := by rw [ht]; exact parse_put L hg
  rw [hp]
  refine ⟨by rw [stands_len, List.length_map], fun i h => ?_⟩
  rw [stands_at L 0 i h, Nat.zero_add]
theorem back_cut {t t2 : ByteArray} {L : List Ent} (ht : bytes t = put L) (k : Nat) (hk : k < L.length) (h2 : bytes t2 = put [L[k]]) : t.extract (pos L k) (pos L (k + 1)) = t2 := by
  refine bytes_inj ?_
  rw [bytes_extract, ht, put_cut L k hk, h2, put_single]
end Go.Proofs.YtolampkhohahlaaDoor.g3
namespace Go.Proofs.YtolampkhohahlaaDoor.glyphBack
open Go.ChangeShapes Go.WideShapes Go.ChangeAt Go.RowKit frame lift gl own g3
set_option linter.unusedVariables false
set_option maxRecDepth 100000 in
set_option maxHeartbeats 16000000 in
theorem walk (v0 : Value) (ops : List Int) (v1 : Value) (args : List (List Int)) (w : World) (f0 : Ints w .i64 v0 ops) (z0 : Fit .i64 ops) (f1 : IntRows w v1 args) (z1 : GridOk args) (hT : Tab w) :
    Calls Tryd.prog 4 #[v0, v1] w fun e w' => e = .returned (.bool true) ∧ Below w.heap.size w w' := by
  have HI : Hid (∀ c ∈ ops, I64 c) := fun c hc => bd_i64 (z0 c hc)
  have HS := Lib.hid f0; have HR := Lib.hid f1; have HU := Lib.hid z1; have HT := Lib.hid hT
  obtain ⟨a0, c0, rfl, _⟩ := ints64_form f0
  obtain ⟨a1, c1, rfl, hf1⟩ := f1.form
  have HF1 := Lib.hid hf1
  clear f0 f1 z0 z1 hT hf1
  by_cases hbo : 50 < ops.length
  · have hbi : (50 : Int) < (ops.length : Int) := by omega
    go_enter Tryd.func4, Tryd.ntmps4
    go_wp2_with fail
    refine (shown_any w).mono ?_
    rintro e w1 ⟨rfl, hb1⟩
    go_wp2_with fail
    go_ret
    exact ⟨rfl, hb1⟩
  · by_cases hba : 50 < args.length
    · have hbi : ¬ (50 : Int) < (ops.length : Int) := by omega
      have hbj : (50 : Int) < (args.length : Int) := by omega
      go_enter Tryd.func4, Tryd.ntmps4
      go_wp2_with fail
      refine (shown_any w).mono ?_
      rintro e w1 ⟨rfl, hb1⟩
      go_wp2_with fail
      go_ret
      exact ⟨rfl, hb1⟩
    · have hbi : ¬ (50 : Int) < (ops.length : Int) := by omega
      have hbj : ¬ (50 : Int) < (args.length : Int) := by omega
      go_enter Tryd.func4, Tryd.ntmps4
      go_wp2_with fail
      refine (shown_any w).mono ?_
      rintro e w1 ⟨rfl, hb1⟩
      go_wp2_with fail
      go_loop [6] (fun i => ∃ k : Nat, k ≤ args.length ∧ i = .int .i64 k ∧ Hid (∀ l ∈ args.take k, l.length ≤ 20)) (fun i => args.length - (intOf i).toNat)
      case atStart => exact ⟨0, Nat.zero_le _, rfl, fun l hl => by simp at hl⟩
      case round =>
        obtain ⟨k, hk, rfl, H20⟩ := hrel
        by_cases hlt : k < args.length
        · obtain ⟨g, o, rfl, hg, hc⟩ := HF1.out (by omega)
          obtain ⟨av, d0, hav⟩ := hc k hlt
          have e0 := (hb1.cell (p := ⟨g, o + k, none⟩) hg).trans d0
          obtain ⟨pa, pca, rfl, _⟩ := ints_form' hav
          have hi1 : (0 : Int) ≤ (k : Int) := by omega
          have hi2 : (k : Int) < (args.length : Int) := by omega
          clear hc d0 hav
          by_cases h20 : 20 < args[k].length
          · have h20i : (20 : Int) < (args[k].length : Int) := by omega
            go_wp2_with fail
            go_ret
            exact ⟨rfl, hb1⟩
          · have h20i : ¬ (20 : Int) < (args[k].length : Int) := by omega
            have H21 : Hid (∀ l ∈ args.take (k + 1), l.length ≤ 20) := fun l hl => by
              rw [List.take_succ_eq_append_getElem hlt] at hl
              rcases List.mem_append.1 hl with hl | hl
              · exact H20.out l hl
              · simp at hl
                subst hl
                omega
            go_wp2_with fail
            go_round
            case rel => exact ⟨k + 1, by omega, by go_num, H21⟩
            case measure => simp [intOf]; omega
        · obtain rfl : k = args.length := by omega
          rw [List.take_length] at H20
          go_wp2_with fail
          refine (made_any w1 (HS.out.below hb1) (HR.out.below hb1) HI.out (by omega) (by omega)).mono ?_
          rintro e w2 ⟨v, rfl, hG, hb2⟩
          have hml := madeL_len ops args
          have hgood := made_good ops args HU.out
          have hok := madeL_ok ops args (by omega) (fun l hl => ⟨by have := H20.out l hl; omega, HU.out l hl⟩)
          have hsz := put_le (madeL ops args) 20 (made_args ops args 20 H20.out)
          obtain ⟨L, hL⟩ : ∃ L, madeL ops args = L := ⟨_, rfl⟩
          rw [hL] at hG hml hgood hok hsz
          obtain ⟨a2, c2, rfl, hform⟩ := hG.form
          have hbw2 := hb1.trans (hb2.mono hb1.size)
          have HE2 := Lib.hid (hG.reads hb2)
          have HGOOD := Lib.hid hgood; have HOK := Lib.hid hok; have HFL := Lib.hid hform
          have hll : L.length ≤ 50 := by omega
          have hsz2 : (put L).length ≤ 21200 := by
            have : (4 + 21 * 20) * L.length ≤ (4 + 21 * 20) * 50 := Nat.mul_le_mul_left _ hll
            omega
          clear hG hgood hok hform hsz hL hml hb2 HF1
          go_wp2_with fail
          refine (gput_any w2 (HT.out.below hbw2) HE2.out.loose HOK.out).mono ?_
          rintro e w3 hp
          obtain ⟨t, rfl, ht⟩ := put_good hp HGOOD.out
          have hb3 := hp.1
          have hbw3 := hbw2.trans (hb3.mono hbw2.size)
          have hts : t.size ≤ 21200 := by rw [← bytes_len, ht]; exact hsz2
          have HTT := Lib.hid ht
          have HE3 := Lib.hid (HE2.out.below hb3)
          clear hp ht hb3 hbw2 HE2
          go_wp2_with fail
          refine (gparse_G (s := t) (by omega) w3).mono ?_
          rintro e w4 ⟨hb4, v4, rfl, hG4⟩
          have hbw4 := hbw3.trans (hb4.mono hbw3.size)
          have HE4 := Lib.hid (HE3.out.below hb4)
          have hback := back_at HTT.out HGOOD.out
          have hsame : same (parse (g3.bytes t)) L false = true := by rw [HTT.out]; exact same_put L HGOOD.out
          have hpo := parse_ok t
          have HG4 := Lib.hid hG4
          obtain ⟨a4, c4, rfl, hform4⟩ := gents_form hG4
          obtain ⟨M, hM⟩ : ∃ M, parse (g3.bytes t) = M := ⟨_, rfl⟩
          have HM := Lib.hid hM
          rw [hM] at hback hsame hpo hform4
          rw [hM]
          have hml : M.length = L.length := hback.1
          have HBK := Lib.hid hback.2
          have HSM := Lib.hid hsame
          have HPO := Lib.hid hpo.2
          have HFM := Lib.hid hform4
          clear hG4 hM hback hsame hpo hform4 hb4 hbw3 HE3
          go_wp2_with fail
          refine (as_parse (s := t) (by omega) w4 (by have h := HG4.out; rw [HM.out, hml] at h; exact (by rw [HM.out]; exact h))).mono ?_
          rintro e w5 ⟨hb5, v5, rfl, hA5⟩
          rw [HM.out] at hA5
          have hbw5 := hbw4.trans (hb5.mono hbw4.size)
          have HA5 := Lib.hid hA5
          have HE5 := Lib.hid (HE4.out.below hb5)
          clear hA5
          have h45 := hb5
          clear hb5 HE4
          go_wp2_with fail
          refine (as_any w5 HE5.out (by omega) (fun e he => by have := (HGOOD.out e he).uni; unfold Uni at this; omega)).mono ?_
          rintro e w6 ⟨hb6, v6, rfl, hA6⟩
          have hbw6 := hbw5.trans (hb6.mono hbw5.size)
          have h46 := h45.trans (hb6.mono h45.size)
          have HA56 := Lib.hid (HA5.out.below hb6)
          have HA6 := Lib.hid hA6
          have HE6 := Lib.hid (HE5.out.below hb6)
          clear hA6 hb6 hbw5 h45 HA5 HE5
          go_wp2_with fail
          refine (same_any false w6 HA56.out.reads HA6.out.reads (by omega) (fun e he => by have := (HPO.out e he).2.1; omega)).mono ?_
          rintro e w7 ⟨he, hb7⟩
          rw [HSM.out] at he
          subst he
          have hbw7 := hbw6.trans (hb7.mono hbw6.size)
          have h47 := h46.trans (hb7.mono h46.size)
          have HE7 := Lib.hid (HE6.out.below hb7)
          clear hb7 hbw6 h46 HA56 HA6 HE6
          go_wp2_with fail
          go_loopw [11] (fun i wr => ∃ k : Nat, k ≤ M.length ∧ i = .int .i64 k ∧ Below w.heap.size w wr ∧ Below w4.heap.size w4 wr ∧ Below w7.heap.size w7 wr) (fun i _ => M.length - (intOf i).toNat)
          case atStart => exact ⟨0, Nat.zero_le _, rfl, hbw7, h47, Below.refl _ _⟩
          case round =>
            obtain ⟨k, hk, rfl, hbr, h4r, h7r⟩ := hrel
            by_cases hlt : k < M.length
            · have hkL : k < L.length := by omega
              obtain ⟨g4, o4, rfl, hg4, hc4⟩ := HFM.out (by omega)
              obtain ⟨g2, rfl, hg2a, hg2b⟩ := HFL.out (by omega)
              obtain ⟨_, _, _, _, d3, _⟩ := hc4 k hlt
              have hatk := HBK.out k hlt
              rw [hatk] at d3
              have D3 := Lib.hid d3
              have e3 := (h4r.cell (p := ⟨g4, o4 + k * 4 + 3, none⟩) hg4).trans d3
              have hcap := gents_cap HE7.out (by omega)
              have HEr := Lib.hid (HE7.out.below h7r)
              have hone := HEr.out.one k hkL (c2 - k) (by omega) (by omega)
              have HONE := Lib.hid hone
              have hAB := pos_lt L k hkL
              have hBt := pos_le L k hkL
              rw [← HTT.out, bytes_len] at hBt
              have HCUT := Lib.hid (fun t2 h2 => back_cut (t2 := t2) HTT.out k hkL h2)
              have hend : k + 1 = L.length → pos L (k + 1) = t.size := fun h => by rw [h, pos_end, ← HTT.out, bytes_len]
              obtain ⟨A, hA⟩ : ∃ A, pos L k = A := ⟨_, rfl⟩
              obtain ⟨B, hB⟩ : ∃ B, pos L (k + 1) = B := ⟨_, rfl⟩
              have hatk1 : ∀ h : k + 1 < M.length, M[k + 1].at_ = B := fun h => by rw [HBK.out (k + 1) h, hB]
              have HAT1 := Lib.hid hatk1
              rw [hA, hB] at hAB HCUT
              rw [hB] at hBt hend
              rw [hA] at e3 D3
              have HC4 := Lib.hid hc4
              have HOK1 : Hid (PutOk [L[k]]) := ⟨by simp, fun e he => by simp at he; subst he; exact HOK.out.args _ (List.getElem_mem hkL)⟩
              have HGD1 : Hid (∀ x ∈ [L[k]], gl.Good x) := fun x hx => by simp at hx; subst hx; exact HGOOD.out _ (List.getElem_mem hkL)
              have hi1 : (0 : Int) ≤ (k : Int) := by omega
              have hi2 : (k : Int) < (M.length : Int) := by omega
              have hi3 : (k : Int) < (L.length : Int) := by omega
              have hs1 : (k : Int) + 1 ≤ (c2 : Int) := by omega
              have hs2 : ¬ (k : Int) = (c2 : Int) := by omega
              have hs3 : ¬ k = c2 := by omega
              have ha0 : (0 : Int) ≤ (A : Int) := by omega
              have ha1 : decide ((A : Int) < 0) = false := by simp
              have ha2 : decide ((B : Int) ≤ (A : Int)) = false := by simp; omega
              have ha3 : decide ((t.size : Int) < (B : Int)) = false := by simp; omega
              have ha4 : (A : Int) ≤ (B : Int) := by omega
              have ha5 : (B : Int) ≤ (t.size : Int) := by omega
              clear hone hc4 d3 hatk hatk1 hA hB
              by_cases hk1 : k + 1 < M.length
              · obtain ⟨_, _, _, _, d4, _⟩ := HC4.out (k + 1) hk1
                rw [HAT1.out hk1] at d4
                have e4 := (h4r.cell (p := ⟨g4, o4 + (k + 1) * 4 + 3, none⟩) hg4).trans d4
                have hk1' : (k : Int) + 1 < (M.length : Int) := by omega
                have hk2' : (0 : Int) ≤ (k : Int) + 1 := by omega
                clear d4 hend
                go_wp2_with fail
                refine (gput_any _ (HT.out.below hbr) HONE.out.loose HOK1.out).mono ?_
                rintro e w8 hp
                obtain ⟨t2, rfl, h2⟩ := put_good hp HGD1.out
                have hb8 := hp.1
                have hbw8 := hbr.trans (hb8.mono hbr.size)
                have h48 := h4r.trans (hb8.mono h4r.size)
                have h78 := h7r.trans (hb8.mono h7r.size)
                have e5 := (h48.cell (p := ⟨g4, o4 + k * 4 + 3, none⟩) hg4).trans D3.out
                have hx := HCUT.out t2 h2
                clear hp h2 hb8 hbr h4r h7r e3 e4
                go_wp2_with fail
                go_roundw
                case rel => exact ⟨k + 1, by omega, by go_num, hbw8, h48, h78⟩
                case measure => simp [intOf]; omega
              · have hBe := hend (by omega)
                have hk1' : ¬ (k : Int) + 1 < (M.length : Int) := by omega
                subst hBe
                clear hend
                go_wp2_with fail
                refine (gput_any _ (HT.out.below hbr) HONE.out.loose HOK1.out).mono ?_
                rintro e w8 hp
                obtain ⟨t2, rfl, h2⟩ := put_good hp HGD1.out
                have hb8 := hp.1
                have hbw8 := hbr.trans (hb8.mono hbr.size)
                have h48 := h4r.trans (hb8.mono h4r.size)
                have h78 := h7r.trans (hb8.mono h7r.size)
                have e5 := (h48.cell (p := ⟨g4, o4 + k * 4 + 3, none⟩) hg4).trans D3.out
                have hx := HCUT.out t2 h2
                clear hp h2 hb8 hbr h4r h7r e3
                go_wp2_with fail
                go_roundw
                case rel => exact ⟨k + 1, by omega, by go_num, hbw8, h48, h78⟩
                case measure => simp [intOf]; omega
            · obtain rfl : k = M.length := by omega
              go_wp2_with fail
              go_ret
              exact ⟨rfl, hbr⟩
theorem own : ownKnob Tryd.prog.godebug = none := by kernel_rfl
theorem laidOut : laidOutB Tryd.prog = true := by kernel_rfl
theorem cells_int : Tryd.prog.cellsOf 3 = 1 := by kernel_rfl
set_option maxRecDepth 100000 in
theorem lifted (os : Os) (started : os.Started) (H : Type) (enc : TypeId × Value → H) :
    ReturnsInHanded {} Tryd.checked os 4 .any (fun w args => (Rows.glyphBackSpec.pre enc Tryd.prog Tryd.f4 [] false w args ∧ laidMetH Tryd.prog laidL w) ∧ sizedMet enc Tryd.prog Tryd.f4 (OpenSpec.ofChange Rows.glyphBackSpec) false w args) (Rows.glyphBackSpec.post enc Tryd.prog Tryd.f4 false true false false) := by
  refine returnsInHanded_of_change_and (C := Tryd.checked) (X := fun w _ => laidMetH Tryd.prog laidL w) (fun _ _ _ hh h => h.of_heap hh) own started (by kernel_rfl) Tryd.func4
    (ChangeSpec.witness_shaped (enc := enc) (C := Tryd.checked) (os := os) (X := fun w _ => laidMetH Tryd.prog laidL w) false (World.doorLaid Tryd.prog 400 os) #[.slice none 0 0, .slice none 0 0] 8 rfl (World.shaped_of_RefB (by kernel_rfl) (by kernel_rfl)) (by kernel_rfl) (by kernel_rfl) (by kernel_rfl) (door_met os _)) ?_
  intro W base args ds gs before hval0 hW hcnd hsz0 hL _
  have hsz : (DataW.weightsEach Tryd.prog (Tryd.f4.params.toList ++ Rows.glyphBackSpec.plain.varTypes Tryd.prog) (ds ++ gs)).all (· ≤ reachBytes) = true := hsz0
  clear hsz0
  have hval : ∀ (j : Nat) t v, Tryd.f4.params[j]? = some t → args[j]? = some v → Value.okWide Tryd.prog W .any base t v := hval0
  have hW' := hW
  obtain ⟨p, q, hA0, hV, rfl, hfz, hnd⟩ := hW
  have hA : DataW.TrodAll enc Tryd.prog W 0 (fun _ => true) true Tryd.f4.params.toList args.toList ds p := hA0
  rw [Tryd.params4] at hA hval hsz
  obtain ⟨v0, vs0, d0, ds0, p0, q0, hargs, rfl, rfl, h0, r0⟩ := trodAll_cons hA
  obtain ⟨v1, vs1, d1, ds1, p1, q1, rfl, rfl, rfl, h1, r1⟩ := trodAll_cons r0
  obtain ⟨rfl, rfl, rfl⟩ := trodAll_nil r1
  obtain rfl : args = #[v0, v1] := by cases args; simp_all
  obtain ⟨rfl, rfl⟩ := trodVars_none hV
  obtain ⟨a0, w0, z0⟩ := lift.open_row Tryd.underlying37 Tryd.underlying3 cells_int (okWide_slice Tryd.underlying37 (hval 0 37 v0 rfl rfl)) h0
  obtain ⟨a1, w1, z1⟩ := open_grid (okWide_slice Tryd.underlying38 (hval 1 38 v1 rfl rfl)) h1
  clear hA0 hval0
  refine (walk v0 a0 v1 a1 W w0 z0 w1 z1 (tab_of_laid hL)).mono fun e W' ⟨he, hb⟩ => ?_
  subst he
  exact ⟨_, rfl, lift.post_law (tb := 4) laidOut (by rw [Tryd.params4]; exact fun t ht => (of_decide_eq_true (by kernel_rfl) : ∀ t ∈ [37, 38], Tryd.prog.readableRec t = true ∧ t < Tryd.prog.types.size) t ht) (by kernel_rfl) Tryd.underlying4 rfl hW' rfl hb⟩
theorem over : Rows.glyphBackRow.holds Tryd.pinned (OpenSpec.ofChange Rows.glyphBackSpec) :=
  OpenClaim.holds_of_wide 4 Tryd.f4 rfl rfl rfl rfl rfl rfl rfl ⟨rfl, rfl, rfl, rfl, rfl⟩ rfl rfl rfl rfl rfl (by kernel_rfl) Tryd.func4 (by kernel_rfl)
    (of_decide_eq_true (by kernel_rfl)) (by unfold Func.isWrapper; first | (rw [if_pos (by decide +kernel)]; kernel_rfl) | (rw [if_neg (by decide +kernel)]; exact ⟨rfl, rfl⟩))
    (fun os started H enc _ => lifted os started H enc)
theorem proved : Rows.GlyphBackCardSaid :=
  Claim7.holds_tied_plain_at .later [] [.data, .data, .data] true Rows.glyphBackCard.stood.harness false
    over (fun _ h => by cases h) (by kernel_rfl) (fun _ h => by cases h) glyphBack_row_tie rfl ⟨rfl, rfl⟩ (by kernel_rfl) (by kernel_rfl)
    (fun f fn hf hfn => by
      obtain rfl : f = 4 := Option.some.inj ((show Tryd.prog.funcNamed Rows.glyphBackRow.func = some 4 by kernel_rfl).symm.trans hf) |>.symm
      obtain rfl : fn = Tryd.f4 := (Option.some.inj (Tryd.func4.symm.trans hfn)).symm
      exact ⟨by kernel_rfl, fun j t ht => by
        rw [Tryd.params4] at ht
        have hm : t ∈ [37, 38] := by simpa using Array.mem_of_getElem? ht
        have hall : ([37, 38].all fun u => !Tryd.prog.wantsStandIn u) = true := by kernel_rfl
        exact (show Tryd.prog.wantsStandIn t = false by simpa using List.all_eq_true.1 hall t hm)⟩)
    (by kernel_rfl)
end Go.Proofs.YtolampkhohahlaaDoor.glyphBack
