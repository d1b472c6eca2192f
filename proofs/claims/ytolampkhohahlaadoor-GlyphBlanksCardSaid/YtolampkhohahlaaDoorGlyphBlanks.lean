/- GlyphBlanks: blanks between entries change where they stand, and nothing else: no condition. -/
import Derived.Test.YtolampkhohahlaaDoorGlyphBack
namespace Go.Proofs.YtolampkhohahlaaDoor.g3
open Go.RowKit frame lift gl own
theorem laid_snoc (ps : List (Ent × Bs)) (e : Ent) (bl : Bs) : laid (ps ++ [(e, bl)]) = laid ps ++ (put1 e ++ bl) := by
  unfold laid
  rw [List.flatMap_append]
  simp
/-- What is put of the first entries, with blanks between. -/
def BRel (L : List Ent) (k : Nat) (s : ByteArray) : Prop := ∃ ps : List (Ent × Bs), ps.map (·.1) = L.take k ∧ (∀ p ∈ ps, ∀ b ∈ p.2, gl.blank b = true) ∧ bytes s = laid ps
theorem BRel.nil (L : List Ent) : BRel L 0 ⟨#[]⟩ := ⟨[], by simp, fun p hp => by simp at hp, rfl⟩
theorem BRel.put {L : List Ent} {k : Nat} {s t : ByteArray} (h : BRel L k s) (hk : k < L.length) (ht : bytes t = put [L[k]]) : BRel L (k + 1) (s ++ t) := by
  obtain ⟨ps, h1, h2, h3⟩ := h
  refine ⟨ps ++ [(L[k], [])], ?_, fun p hp b hb => ?_, ?_⟩
  · rw [List.map_append, h1, List.take_succ_eq_append_getElem hk]
    rfl
  · rcases List.mem_append.1 hp with hp | hp
    · exact h2 p hp b hb
    · simp at hp
      subst hp
      simp at hb
  · rw [bytes_app, h3, ht, put_single, laid_snoc, List.append_nil]
theorem BRel.blank {L : List Ent} {k : Nat} {s x : ByteArray} {b : Int} (h : BRel L (k + 1) s) (hk : k < L.length) (hx : bytes x = [b]) (hb : gl.blank b = true) : BRel L (k + 1) (s ++ x) := by
  obtain ⟨ps, h1, h2, h3⟩ := h
  rcases List.eq_nil_or_concat ps with rfl | ⟨qs, ⟨e, bl⟩, rfl⟩
  · have := congrArg List.length h1
    rw [List.length_take] at this
    simp at this
    omega
  · refine ⟨qs ++ [(e, bl ++ [b])], ?_, fun p hp c hc => ?_, ?_⟩
    · rw [← h1]
      simp
    · rcases List.mem_append.1 hp with hp | hp
      · exact h2 p (by simp [hp]) c hc
      · simp at hp
        subst hp
        rcases List.mem_append.1 hc with hc | hc
        · exact h2 (e, bl) (by simp) c hc
        · simp at hc
          subst hc
          exact hb
    · rw [bytes_app, h3, hx]
      simp [laid_snoc]
theorem BRel.same {L : List Ent} {s : ByteArray} (h : BRel L L.length s) (hg : ∀ e ∈ L, gl.Good e) : same (parse (bytes s)) L false = true := by
  obtain ⟨ps, h1, h2, h3⟩ := h
  rw [List.take_length] at h1
  have h4 : parse (laid ps) = stands 0 ps := parse_laid ps (fun p hp => hg _ (by rw [← h1]; exact List.mem_map_of_mem hp)) h2 0
  rw [h3, h4]
  have h5 := same_stands ps 0
  rw [h1] at h5
  exact h5
theorem tdiv4_bd (x : Int) (h : I64 x) : -2305843009213693952 ≤ x.tdiv 4 ∧ x.tdiv 4 ≤ 2305843009213693952 := by
  obtain ⟨h0, h1⟩ := h
  rcases Int.le_total 0 x with h | h
  · rw [Int.tdiv_eq_ediv_of_nonneg h]
    omega
  · have e : x.tdiv 4 = -((-x).tdiv 4) := by rw [Int.neg_tdiv, Int.neg_neg]
    rw [e, Int.tdiv_eq_ediv_of_nonneg (by omega)]
    omega
theorem gents_arg {w : World} {g n c : Nat} {L : List Ent} (h : GEnts w (.slice (some ⟨g, 0, none⟩) n c) L) (k : Nat) (hk : k < L.length) : ∃ a cc, w.cell? ⟨g, k * 4 + 1, none⟩ = some (.slice a L[k].args.length cc) := by
  rcases h with ⟨rfl, _⟩ | ⟨h0, g', o', cap', hv, h1, h2, h3, h4⟩
  · simp at hk
  · simp only [Value.slice.injEq, Option.some.injEq, Addr.mk.injEq, and_true] at hv
    obtain ⟨⟨rfl, rfl⟩, rfl, rfl⟩ := hv
    obtain ⟨av, d0, d1, d2, d3, d4⟩ := h4 k hk
    obtain ⟨a, cc, rfl, _⟩ := ints_form' d4
    rw [Nat.zero_add] at d1
    exact ⟨a, cc, d1⟩
end Go.Proofs.YtolampkhohahlaaDoor.g3
namespace Go.Proofs.YtolampkhohahlaaDoor.glyphBlanks
open Go.ChangeShapes Go.WideShapes Go.ChangeAt Go.RowKit frame lift gl own g3
set_option linter.unusedVariables false
set_option maxRecDepth 100000 in
set_option maxHeartbeats 16000000 in
theorem walk (v0 : Value) (ops : List Int) (v1 : Value) (args : List (List Int)) (v2 : Value) (bks : List Int) (w : World) (f0 : Ints w .i64 v0 ops) (z0 : Fit .i64 ops) (f1 : IntRows w v1 args) (z1 : GridOk args) (f2 : Ints w .i64 v2 bks) (z2 : Fit .i64 bks) (hT : Tab w) :
    Calls Tryd.prog 5 #[v0, v1, v2] w fun e w' => e = .returned (.bool true) ∧ Below w.heap.size w w' := by
  have HI : Hid (∀ c ∈ ops, I64 c) := fun c hc => bd_i64 (z0 c hc)
  have HIB : Hid (∀ i : Nat, i < bks.length → I64 (nth bks i)) := fun i hi => bd_i64 (z2 _ (by rw [show nth bks i = bks[i] by simp [nth, List.getD, hi]]; exact List.getElem_mem hi))
  have HS := Lib.hid f0; have HR := Lib.hid f1; have HU := Lib.hid z1; have HT := Lib.hid hT
  obtain ⟨a0, c0, rfl, _⟩ := ints64_form f0
  obtain ⟨a1, c1, rfl, _⟩ := f1.form
  obtain ⟨a2, c2, rfl, hf2⟩ := ints64_form f2
  have HF2 := Lib.hid hf2
  clear f0 f1 f2 z0 z1 z2 hT hf2
  by_cases hbo : 50 < ops.length
  · have hbi : (50 : Int) < (ops.length : Int) := by omega
    go_enter Tryd.func5, Tryd.ntmps5
    go_wp2_with fail
    refine (shown_any w).mono ?_
    rintro e w1 ⟨rfl, hb1⟩
    go_wp2_with fail
    go_ret
    exact ⟨rfl, hb1⟩
  · have hbi : ¬ (50 : Int) < (ops.length : Int) := by omega
    by_cases hba : 50 < args.length
    · have hbj : (50 : Int) < (args.length : Int) := by omega
      go_enter Tryd.func5, Tryd.ntmps5
      go_wp2_with fail
      refine (shown_any w).mono ?_
      rintro e w1 ⟨rfl, hb1⟩
      go_wp2_with fail
      go_ret
      exact ⟨rfl, hb1⟩
    · have hbj : ¬ (50 : Int) < (args.length : Int) := by omega
      by_cases hbb : 50 < bks.length
      · have hbk : (50 : Int) < (bks.length : Int) := by omega
        go_enter Tryd.func5, Tryd.ntmps5
        go_wp2_with fail
        refine (shown_any w).mono ?_
        rintro e w1 ⟨rfl, hb1⟩
        go_wp2_with fail
        go_ret
        exact ⟨rfl, hb1⟩
      · have hbk : ¬ (50 : Int) < (bks.length : Int) := by omega
        go_enter Tryd.func5, Tryd.ntmps5
        go_wp2_with fail
        refine (shown_any w).mono ?_
        rintro e w1 ⟨rfl, hb1⟩
        go_wp2_with fail
        refine (made_any w1 (HS.out.below hb1) (HR.out.below hb1) HI.out (by omega) (by omega)).mono ?_
        rintro e w2 ⟨v, rfl, hG, hb2⟩
        have hml := madeL_len ops args
        have hgood := made_good ops args HU.out
        obtain ⟨L, hL⟩ : ∃ L, madeL ops args = L := ⟨_, rfl⟩
        rw [hL] at hG hml hgood
        obtain ⟨a3, c3, rfl, hform⟩ := hG.form
        have hbw2 := hb1.trans (hb2.mono hb1.size)
        have HE2 := Lib.hid (hG.reads hb2)
        have HGOOD := Lib.hid hgood; have HFL := Lib.hid hform
        have hll : L.length ≤ 50 := by omega
        clear hG hgood hform hL hml hb2 hb1
        go_wp2_with fail
        go_loopw [9, 10] (fun s i wr => ∃ (k : Nat) (t : ByteArray), k ≤ L.length ∧ i = .int .i64 k ∧ s = .string t ∧ Hid (BRel L k t) ∧ t.size ≤ k * 427 ∧ Below w.heap.size w wr ∧ Below w2.heap.size w2 wr) (fun _ i _ => L.length - (intOf i).toNat)
        case atStart => exact ⟨0, _, Nat.zero_le _, rfl, rfl, BRel.nil L, by decide, hbw2, Below.refl _ _⟩
        case round =>
          obtain ⟨k, t, hk, rfl, rfl, HB, hts, hbr, h2r⟩ := hrel
          by_cases hlt : k < L.length
          · obtain ⟨g, rfl, hga, hgb⟩ := HFL.out (by omega)
            have hcap := gents_cap HE2.out (by omega)
            have HEr := Lib.hid (HE2.out.below h2r)
            have hone := HEr.out.one k hlt (c3 - k) (by omega) (by omega)
            have HONE := Lib.hid hone
            obtain ⟨pa, pca, e1⟩ := gents_arg HEr.out k hlt
            have hi1 : (0 : Int) ≤ (k : Int) := by omega
            have hi3 : (k : Int) < (L.length : Int) := by omega
            clear hone
            by_cases h20 : 20 < L[k].args.length
            · have h20i : (20 : Int) < (L[k].args.length : Int) := by omega
              go_wp2_with fail
              go_ret
              exact ⟨rfl, hbr⟩
            · have h20i : ¬ (20 : Int) < (L[k].args.length : Int) := by omega
              have HOK1 : Hid (PutOk [L[k]]) := ⟨by simp, fun e he => by simp at he; subst he; exact ⟨by omega, (HGOOD.out _ (List.getElem_mem hlt)).args⟩⟩
              have HGD1 : Hid (∀ x ∈ [L[k]], gl.Good x) := fun x hx => by simp at hx; subst hx; exact HGOOD.out _ (List.getElem_mem hlt)
              have hp1 := put1_le L[k] 20 (by omega)
              have hs1 : (k : Int) + 1 ≤ (c3 : Int) := by omega
              have hs2 : ¬ (k : Int) = (c3 : Int) := by omega
              have hs3 : ¬ k = c3 := by omega
              go_wp2_with fail
              refine (gput_any _ (HT.out.below hbr) HONE.out.loose HOK1.out).mono ?_
              rintro e w3 hp
              obtain ⟨t2, rfl, h2⟩ := put_good hp HGD1.out
              have hb3 := hp.1
              have hbw3 := hbr.trans (hb3.mono hbr.size)
              have h23 := h2r.trans (hb3.mono h2r.size)
              have hB3 := HB.out.put hlt h2
              have ht2 : t2.size ≤ 424 := by rw [← bytes_len, h2, put_single]; omega
              obtain ⟨x, hx⟩ : ∃ x, t ++ t2 = x := ⟨_, rfl⟩
              have hxs : x.size ≤ k * 427 + 424 := by rw [← hx]; simp; omega
              rw [hx] at hB3
              have HB3 := Lib.hid hB3
              clear hp h2 hb3 hbr h2r hB3 hp1 e1 HB
              by_cases hkb : k < bks.length
              · obtain ⟨gb, ob, rfl, hgb2, hcb⟩ := HF2.out (by omega)
                have eb := hcb k hkb
                have hcI := HIB.out k hkb
                obtain ⟨c, hc⟩ : ∃ c, nth bks k = c := ⟨_, rfl⟩
                rw [hc] at eb hcI
                have hq := pickI_bd c 4 (by decide)
                obtain ⟨q, hq'⟩ : ∃ q, pickI c 4 = q := ⟨_, rfl⟩
                have HQ := Lib.hid hq'
                have htd := tdiv4_bd c hcI
                have HCI := Lib.hid hcI
                rw [hq'] at hq
                obtain ⟨hq0, hq1⟩ := hq
                obtain ⟨htd0, htd1⟩ := htd
                have hkb1 : (k : Int) < (bks.length : Int) := by omega
                clear hcb hc hq' hcI
                go_wp2_with fail
                go_loopw [9, 13] (fun s j wv => ∃ (b : Nat) (t' : ByteArray), (b : Int) ≤ q ∧ j = .int .i64 b ∧ s = .string t' ∧ Hid (BRel L (k + 1) t') ∧ t'.size ≤ k * 427 + 424 + b ∧ Below w.heap.size w wv ∧ Below w2.heap.size w2 wv) (fun _ j _ => q.toNat - (intOf j).toNat)
                case atStart => exact ⟨0, _, by omega, rfl, rfl, HB3.out, by omega, hbw3, h23⟩
                case round =>
                  obtain ⟨b, t', hbq, rfl, rfl, HBv, hts', hbv, h2v⟩ := hrel
                  have ebv := (hbv.cell (p := ⟨gb, ob + k, none⟩) hgb2).trans eb
                  go_wp2_with fail
                  refine (pick_any c 4 HCI.out (by decide) (by decide) _).mono ?_
                  rintro e w5 ⟨rfl, rfl⟩
                  rw [HQ.out]
                  by_cases hjq : (b : Int) < q
                  · have ebx : ∀ o9, (wr.alloc o9).cell? ⟨gb, ob + k, none⟩ = some (.int .i64 c) := fun o9 => (World.cell?_alloc_some wr ⟨gb, ob + k, none⟩ o9 (by rw [ebv]; rfl)).trans ebv
                    go_wp2_with fail
                    refine (pick_any (c.tdiv 4 + (b : Int)) 3 ⟨by omega, by omega⟩ (by decide) (by decide) _).mono ?_
                    rintro e w6 ⟨rfl, rfl⟩
                    have hr3 := pickI_bd (c.tdiv 4 + (b : Int)) 3 (by decide)
                    obtain ⟨r, hr⟩ : ∃ r, pickI (c.tdiv 4 + (b : Int)) 3 = r := ⟨_, rfl⟩
                    rw [hr] at hr3 ⊢
                    have hbw := hbv.alloc hbv.size (Obj.cells #[.string ⟨#[32]⟩, .string ⟨#[9]⟩, .string ⟨#[10]⟩] 9)
                    have h2w := h2v.alloc h2v.size (Obj.cells #[.string ⟨#[32]⟩, .string ⟨#[9]⟩, .string ⟨#[10]⟩] 9)
                    have hblk := heap_alloc_new wr (Obj.cells #[.string ⟨#[32]⟩, .string ⟨#[9]⟩, .string ⟨#[10]⟩] 9)
                    have l0 : (wr.alloc (Obj.cells #[.string ⟨#[32]⟩, .string ⟨#[9]⟩, .string ⟨#[10]⟩] 9)).cell? ⟨wr.heap.size, 0, none⟩ = some (.string ⟨#[32]⟩) := cell_of_row _ _ 0 _ _ _ hblk
                    have l1 : (wr.alloc (Obj.cells #[.string ⟨#[32]⟩, .string ⟨#[9]⟩, .string ⟨#[10]⟩] 9)).cell? ⟨wr.heap.size, 1, none⟩ = some (.string ⟨#[9]⟩) := cell_of_row _ _ 1 _ _ _ hblk
                    have l2 : (wr.alloc (Obj.cells #[.string ⟨#[32]⟩, .string ⟨#[9]⟩, .string ⟨#[10]⟩] 9)).cell? ⟨wr.heap.size, 2, none⟩ = some (.string ⟨#[10]⟩) := cell_of_row _ _ 2 _ _ _ hblk
                    clear hr hblk ebx ebv hbv h2v
                    generalize wr.alloc (Obj.cells #[.string ⟨#[32]⟩, .string ⟨#[9]⟩, .string ⟨#[10]⟩] 9) = W at hbw h2w l0 l1 l2 ⊢
                    generalize wr.heap.size = b0 at l0 l1 l2 ⊢
                    obtain rfl | rfl | rfl : r = 0 ∨ r = 1 ∨ r = 2 := by omega
                    · go_wp2_with fail
                      go_roundw
                      case rel => exact ⟨b + 1, _, by omega, by go_num, rfl, HBv.out.blank hlt (x := ⟨#[32]⟩) (b := 32) rfl (by decide), by rw [ByteArray.size_append, show (ByteArray.mk #[32]).size = 1 from rfl]; omega, hbw, h2w⟩
                      case measure => simp [intOf]; omega
                    · go_wp2_with fail
                      go_roundw
                      case rel => exact ⟨b + 1, _, by omega, by go_num, rfl, HBv.out.blank hlt (x := ⟨#[9]⟩) (b := 9) rfl (by decide), by rw [ByteArray.size_append, show (ByteArray.mk #[9]).size = 1 from rfl]; omega, hbw, h2w⟩
                      case measure => simp [intOf]; omega
                    · go_wp2_with fail
                      go_roundw
                      case rel => exact ⟨b + 1, _, by omega, by go_num, rfl, HBv.out.blank hlt (x := ⟨#[10]⟩) (b := 10) rfl (by decide), by rw [ByteArray.size_append, show (ByteArray.mk #[10]).size = 1 from rfl]; omega, hbw, h2w⟩
                      case measure => simp [intOf]; omega
                  · go_wp2_with fail
                    go_roundw
                    case rel => exact ⟨k + 1, t', by omega, by go_num, rfl, HBv.out, by omega, hbv, h2v⟩
                    case measure => simp [intOf]; omega
              · have hkb1 : ¬ (k : Int) < (bks.length : Int) := by omega
                go_wp2_with fail
                go_loopw [9, 13] (fun s j wv => s = .string x ∧ j = .int .i64 0 ∧ wv = w3) (fun _ _ _ => 0)
                case atStart => exact ⟨rfl, rfl, rfl⟩
                case round =>
                  obtain ⟨rfl, rfl, rfl⟩ := hrel
                  go_wp2_with fail
                  go_roundw
                  case rel => exact ⟨k + 1, x, by omega, by go_num, rfl, HB3.out, by omega, hbw3, h23⟩
                  case measure => simp [intOf]; omega
          · obtain rfl : k = L.length := by omega
            have hsame := HB.out.same HGOOD.out
            have HE3 := Lib.hid (HE2.out.below h2r)
            obtain ⟨M, hM⟩ : ∃ M, parse (g3.bytes t) = M := ⟨_, rfl⟩
            have hpo := parse_ok t
            rw [hM] at hsame hpo
            have HM := Lib.hid hM; have HSM := Lib.hid hsame; have HPO := Lib.hid hpo.2
            clear hsame hpo hM HB
            go_wp2_with fail
            refine (gparse_G (s := t) (by omega) _).mono ?_
            rintro e w4 ⟨hb4, v4, rfl, hG4⟩
            have hbw4 := hbr.trans (hb4.mono hbr.size)
            have HG4 := Lib.hid hG4
            have HE4 := Lib.hid (HE3.out.below hb4)
            clear hG4 hb4 hbr HE3
            go_wp2_with fail
            refine (as_parse (s := t) (by omega) w4 HG4.out).mono ?_
            rintro e w5 ⟨hb5, v5, rfl, hA5⟩
            rw [HM.out] at hA5
            have hbw5 := hbw4.trans (hb5.mono hbw4.size)
            have HA5 := Lib.hid hA5
            have HE5 := Lib.hid (HE4.out.below hb5)
            clear hA5 hb5 HE4 HG4
            go_wp2_with fail
            refine (as_any w5 HE5.out (by omega) (fun e he => by have := (HGOOD.out e he).uni; unfold Uni at this; omega)).mono ?_
            rintro e w6 ⟨hb6, v6, rfl, hA6⟩
            have hbw6 := hbw5.trans (hb6.mono hbw5.size)
            have HA56 := Lib.hid (HA5.out.below hb6)
            have HA6 := Lib.hid hA6
            clear hA6 hb6 hbw5 HA5 HE5
            go_wp2_with fail
            refine (same_any false w6 HA56.out.reads HA6.out.reads (by have := (parse_ok t).1; rw [HM.out] at this; omega) (fun e he => by have := (HPO.out e he).2.1; omega)).mono ?_
            rintro e w7 ⟨he, hb7⟩
            rw [HSM.out] at he
            subst he
            have hbw7 := hbw6.trans (hb7.mono hbw6.size)
            go_wp2_with fail
            go_ret
            exact ⟨rfl, hbw7⟩
theorem own : ownKnob Tryd.prog.godebug = none := by kernel_rfl
theorem laidOut : laidOutB Tryd.prog = true := by kernel_rfl
theorem cells_int : Tryd.prog.cellsOf 3 = 1 := by kernel_rfl
set_option maxRecDepth 100000 in
theorem lifted (os : Os) (started : os.Started) (H : Type) (enc : TypeId × Value → H) :
    ReturnsInHanded {} Tryd.checked os 5 .any (fun w args => (Rows.glyphBlanksSpec.pre enc Tryd.prog Tryd.f5 [] false w args ∧ laidMetH Tryd.prog laidL w) ∧ sizedMet enc Tryd.prog Tryd.f5 (OpenSpec.ofChange Rows.glyphBlanksSpec) false w args) (Rows.glyphBlanksSpec.post enc Tryd.prog Tryd.f5 false true false false) := by
  refine returnsInHanded_of_change_and (C := Tryd.checked) (X := fun w _ => laidMetH Tryd.prog laidL w) (fun _ _ _ hh h => h.of_heap hh) own started (by kernel_rfl) Tryd.func5
    (ChangeSpec.witness_shaped (enc := enc) (C := Tryd.checked) (os := os) (X := fun w _ => laidMetH Tryd.prog laidL w) false (World.doorLaid Tryd.prog 400 os) #[.slice none 0 0, .slice none 0 0, .slice none 0 0] 8 rfl (World.shaped_of_RefB (by kernel_rfl) (by kernel_rfl)) (by kernel_rfl) (by kernel_rfl) (by kernel_rfl) (door_met os _)) ?_
  intro W base args ds gs before hval0 hW hcnd hsz0 hL _
  have hsz : (DataW.weightsEach Tryd.prog (Tryd.f5.params.toList ++ Rows.glyphBlanksSpec.plain.varTypes Tryd.prog) (ds ++ gs)).all (· ≤ reachBytes) = true := hsz0
  clear hsz0
  have hval : ∀ (j : Nat) t v, Tryd.f5.params[j]? = some t → args[j]? = some v → Value.okWide Tryd.prog W .any base t v := hval0
  have hW' := hW
  obtain ⟨p, q, hA0, hV, rfl, hfz, hnd⟩ := hW
  have hA : DataW.TrodAll enc Tryd.prog W 0 (fun _ => true) true Tryd.f5.params.toList args.toList ds p := hA0
  rw [Tryd.params5] at hA hval hsz
  obtain ⟨v0, vs0, d0, ds0, p0, q0, hargs, rfl, rfl, h0, r0⟩ := trodAll_cons hA
  obtain ⟨v1, vs1, d1, ds1, p1, q1, rfl, rfl, rfl, h1, r1⟩ := trodAll_cons r0
  obtain ⟨v2, vs2, d2, ds2, p2, q2, rfl, rfl, rfl, h2, r2⟩ := trodAll_cons r1
  obtain ⟨rfl, rfl, rfl⟩ := trodAll_nil r2
  obtain rfl : args = #[v0, v1, v2] := by cases args; simp_all
  obtain ⟨rfl, rfl⟩ := trodVars_none hV
  obtain ⟨a0, w0, z0⟩ := lift.open_row Tryd.underlying37 Tryd.underlying3 cells_int (okWide_slice Tryd.underlying37 (hval 0 37 v0 rfl rfl)) h0
  obtain ⟨a1, w1, z1⟩ := open_grid (okWide_slice Tryd.underlying38 (hval 1 38 v1 rfl rfl)) h1
  obtain ⟨a2, w2, z2⟩ := lift.open_row Tryd.underlying37 Tryd.underlying3 cells_int (okWide_slice Tryd.underlying37 (hval 2 37 v2 rfl rfl)) h2
  clear hA0 hval0
  refine (walk v0 a0 v1 a1 v2 a2 W w0 z0 w1 z1 w2 z2 (tab_of_laid hL)).mono fun e W' ⟨he, hb⟩ => ?_
  subst he
  exact ⟨_, rfl, lift.post_law (tb := 4) laidOut (by rw [Tryd.params5]; exact fun t ht => (of_decide_eq_true (by kernel_rfl) : ∀ t ∈ [37, 38, 37], Tryd.prog.readableRec t = true ∧ t < Tryd.prog.types.size) t ht) (by kernel_rfl) Tryd.underlying4 rfl hW' rfl hb⟩
theorem over : Rows.glyphBlanksRow.holds Tryd.pinned (OpenSpec.ofChange Rows.glyphBlanksSpec) :=
  OpenClaim.holds_of_wide 5 Tryd.f5 rfl rfl rfl rfl rfl rfl rfl ⟨rfl, rfl, rfl, rfl, rfl⟩ rfl rfl rfl rfl rfl (by kernel_rfl) Tryd.func5 (by kernel_rfl)
    (of_decide_eq_true (by kernel_rfl)) (by unfold Func.isWrapper; first | (rw [if_pos (by decide +kernel)]; kernel_rfl) | (rw [if_neg (by decide +kernel)]; exact ⟨rfl, rfl⟩))
    (fun os started H enc _ => lifted os started H enc)
theorem proved : Rows.GlyphBlanksCardSaid :=
  Claim7.holds_tied_plain_at .later [] [.data, .data, .data] true Rows.glyphBlanksCard.stood.harness false
    over (fun _ h => by cases h) (by kernel_rfl) (fun _ h => by cases h) glyphBlanks_row_tie rfl ⟨rfl, rfl⟩ (by kernel_rfl) (by kernel_rfl)
    (fun f fn hf hfn => by
      obtain rfl : f = 5 := Option.some.inj ((show Tryd.prog.funcNamed Rows.glyphBlanksRow.func = some 5 by kernel_rfl).symm.trans hf) |>.symm
      obtain rfl : fn = Tryd.f5 := (Option.some.inj (Tryd.func5.symm.trans hfn)).symm
      exact ⟨by kernel_rfl, fun j t ht => by
        rw [Tryd.params5] at ht
        have hm : t ∈ [37, 38, 37] := by simpa using Array.mem_of_getElem? ht
        have hall : ([37, 38, 37].all fun u => !Tryd.prog.wantsStandIn u) = true := by kernel_rfl
        exact (show Tryd.prog.wantsStandIn t = false by simpa using List.all_eq_true.1 hall t hm)⟩)
    (by kernel_rfl)
end Go.Proofs.YtolampkhohahlaaDoor.glyphBlanks
