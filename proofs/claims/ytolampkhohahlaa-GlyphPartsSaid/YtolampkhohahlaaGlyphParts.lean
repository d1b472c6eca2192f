/- GlyphParts: the entries of two texts, one behind the other, with a blank between, are those of both: no condition. -/
import Derived.Test.YtolampkhohahlaaGlyphX
import Derived.Deep.Cut
import Derived.SizedLaws
import Derived.ChangeMaps5
namespace Go.Proofs.Ytolampkhohahlaa.g3
open gl
theorem parts_is (s t : ByteArray) : parse (bytes (s ++ ⟨#[32]⟩ ++ t)) = parse (bytes s) ++ (parse (bytes t)).map (shift (s.size + 1)) ∧ parse (bytes (s ++ ⟨#[32]⟩)) = parse (bytes s) := by
  have e1 : bytes (s ++ ⟨#[32]⟩) = bytes s ++ [32] := by rw [bytes_app]; rfl
  have e2 : bytes (s ++ ⟨#[32]⟩ ++ t) = bytes s ++ 32 :: bytes t := by rw [bytes_app, e1, List.append_assoc]; rfl
  have h1 := parse_parts (bytes s).length (bytes s) (bytes t) 0 (Nat.le_refl _)
  have h2 := parse_parts (bytes s).length (bytes s) [] 0 (Nat.le_refl _)
  rw [parseAt_nil, List.append_nil] at h2
  rw [Nat.add_assoc, parseAt_shift (bytes t).length (bytes t) 0 _ (Nat.le_refl _), bytes_len] at h1
  rw [parse_is, parse_is, parse_is, parse_is, e1, e2]
  exact ⟨h1, h2⟩
end Go.Proofs.Ytolampkhohahlaa.g3
namespace Go.Proofs.Ytolampkhohahlaa.glyphParts
open Go.ChangeShapes Go.WideShapes Go.ChangeAt Go.RowKit frame lift gl own g3
set_option linter.unusedVariables false
set_option maxRecDepth 100000 in
set_option maxHeartbeats 4000000 in
theorem walk (s t : ByteArray) (w : World) (ws : s.size ≤ 140737488351232) (wt : t.size ≤ 140737488351232) : Calls Try.prog 3 #[.string s, .string t] w fun e w' => e = .returned (.bool true) ∧ Below w.heap.size w w' := by
  have hi0 : (0 : Int) ≤ (s.size : Int) := by omega
  have hi1 : (0 : Int) ≤ (t.size : Int) := by omega
  by_cases hbig : 1000 < s.size + t.size
  · go_enter Try.func3, Try.ntmps3
    go_wp2_with fail
    refine (shown_any w).mono ?_
    rintro e w1 ⟨rfl, hb1⟩
    go_wp2_with fail
    go_ret
    exact ⟨rfl, hb1⟩
  · obtain ⟨e1, e2⟩ := parts_is s t
    have E1 := Lib.hid e1; have E2 := Lib.hid e2
    clear e1 e2
    obtain ⟨x, hx⟩ : ∃ x, s ++ ⟨#[32]⟩ = x := ⟨_, rfl⟩
    have hxs : x.size = s.size + 1 := by rw [← hx]; simp; rfl
    rw [hx] at E1 E2
    obtain ⟨y, hy⟩ : ∃ y, x ++ t = y := ⟨_, rfl⟩
    have hys : y.size = x.size + t.size := by rw [← hy]; simp
    rw [hy] at E1
    have hpt := parse_ok t
    have hps := parse_ok s
    obtain ⟨lb, hlb⟩ : ∃ lb, parse (g3.bytes t) = lb := ⟨_, rfl⟩
    obtain ⟨la, hla⟩ : ∃ la, parse (g3.bytes s) = la := ⟨_, rfl⟩
    rw [hlb] at hpt E1
    rw [hla] at hps E1 E2
    have HLB := Lib.hid hlb; have HLA := Lib.hid hla
    have hlbl : lb.length ≤ 1000 := by have := hpt.1; omega
    have hlal : la.length ≤ 1000 := by have := hps.1; omega
    have HPT := Lib.hid hpt.2; have HPS := Lib.hid hps.2
    clear hpt hps hlb hla
    go_enter Try.func3, Try.ntmps3
    go_wp2_with fail
    refine (shown_any w).mono ?_
    rintro e w1 ⟨rfl, hb1⟩
    go_wp2_with fail
    refine (gparse_G (s := x) (by omega) w1).mono ?_
    rintro e w2 ⟨hb2, v2, rfl, hG⟩
    have hbw2 := hb1.trans (hb2.mono hb1.size)
    have HG := Lib.hid hG
    clear hG hb1 hb2
    go_wp2_with fail
    refine (as_parse (s := x) (by omega) w2 HG.out).mono ?_
    rintro e w3 ⟨hb3, va, rfl, hA⟩
    rw [E2.out] at hA
    have HA := Lib.hid hA
    have hbw3 := hbw2.trans (hb3.mono hbw2.size)
    clear hA hb3 hbw2 HG
    go_wp2_with fail
    refine (gparse_G (s := t) (by omega) w3).mono ?_
    rintro e w4 ⟨hb4, v4, rfl, hG⟩
    have hbw4 := hbw3.trans (hb4.mono hbw3.size)
    have HG := Lib.hid hG
    have HA4 := Lib.hid (HA.out.below hb4)
    clear hG hb4 HA hbw3
    go_wp2_with fail
    refine (as_parse (s := t) (by omega) w4 HG.out).mono ?_
    rintro e w5 ⟨hb5, vb, rfl, hB⟩
    rw [HLB.out] at hB
    have hbw5 := hbw4.trans (hb5.mono hbw4.size)
    have HB := Lib.hid hB
    have HA5 := Lib.hid (HA4.out.below hb5)
    have hs45 : w4.heap.size ≤ w5.heap.size := hb5.size
    have hsw4 : w.heap.size ≤ w4.heap.size := hbw4.size
    have HAB := Lib.hid HA4.out.blk
    clear HG HA4 hB hb5 hbw4
    go_wp2_with fail
    refine (gparse_G (s := y) (by omega) w5).mono ?_
    rintro e w6 ⟨hb6, v6, rfl, hG⟩
    have hbw6 := hbw5.trans (hb6.mono hbw5.size)
    have HG := Lib.hid hG
    have HA6 := Lib.hid (HA5.out.below hb6)
    have HB6 := Lib.hid (HB.out.below hb6)
    have HBB := Lib.hid HB.out.blk
    have hs56 := hb6.size
    clear hG hb6 HA5 HB hbw5
    go_wp2_with fail
    refine (as_parse (s := y) (by omega) w6 HG.out).mono ?_
    rintro e w7 ⟨hb7, vc, rfl, hC⟩
    rw [E1.out] at hC
    have HC := Lib.hid hC
    have HCB := Lib.hid hC.blk
    have hbw7 := hbw6.trans (hb7.mono hbw6.size)
    have HA7 := Lib.hid (HA6.out.below hb7)
    have HB7 := HB6.out.below hb7
    obtain ⟨ab, cb, rfl, hform⟩ := HB7.form
    have HB8 := Lib.hid HB7
    have HF := Lib.hid hform
    clear HG HA6 HB6 hC hb7 hbw6 HB7 hform
    go_wp2_with fail
    go_loopw [9] (fun i wr => ∃ k : Nat, k ≤ lb.length ∧ i = .int .i64 k ∧ Below w.heap.size w wr ∧ Hid (AsRow wr w2.heap.size va la) ∧ Hid (AsRow wr w4.heap.size (.slice ab lb.length cb) ((lb.take k).map (shift (s.size + 1)) ++ lb.drop k)) ∧
      Hid (AsRow wr w6.heap.size vc (la ++ lb.map (shift (s.size + 1))))) (fun i _ => lb.length - (intOf i).toNat)
    case atStart => exact ⟨0, Nat.zero_le _, rfl, hbw7, HA7, HB8, HC⟩
    case round =>
      obtain ⟨k, hk, rfl, hbr, RA, RB, RC⟩ := hrel
      by_cases hlt : k < lb.length
      · obtain ⟨gb, rfl, hg1, hg2⟩ := HF.out (by omega)
        obtain ⟨hl1, hl2, hl3⟩ := shift_step lb (s.size + 1) k hlt
        obtain ⟨⟨c3, f3⟩, hset⟩ := RB.out.place k (lb[k].at_ + (s.size + 1)) (by rw [hl1]; exact hlt)
        rw [hl2] at c3 hset
        rw [hl3] at hset
        have hz : ((lb[k].at_ + (s.size + 1) : Nat) : Int) = (lb[k].at_ : Int) + (s.size : Int) + 1 := by omega
        rw [hz] at hset
        have hgb4 := (HBB.out gb rfl)
        have RA2 := Lib.hid (RA.out.set c3 (fun e => by have := (HAB.out gb e).2; omega) (.int .i64 ((lb[k].at_ : Int) + (s.size : Int) + 1)))
        have RC2 := Lib.hid (RC.out.set c3 (fun e => by have := (HCB.out gb e).1; omega) (.int .i64 ((lb[k].at_ : Int) + (s.size : Int) + 1)))
        have RB2 := Lib.hid hset
        have hat := (HPT.out lb[k] (List.getElem_mem hlt)).2.2.2
        have hat0 : (0 : Int) ≤ (lb[k].at_ : Int) := by omega
        have hj1 : (0 : Int) ≤ (k : Int) := by omega
        have hj2 : (k : Int) < (lb.length : Int) := by omega
        have hgw : w.heap.size ≤ gb := by have := hbw7.size; have := hgb4.1; omega
        clear hl1 hl2 hl3 hset hz
        go_wp2_with fail
        go_roundw
        case rel => exact ⟨k + 1, by omega, by go_num, hbr.setCell hgw _, RA2, RB2, RC2⟩
        case measure => simp [intOf]; omega
      · obtain rfl : k = lb.length := by omega
        rw [List.take_length, List.drop_length, List.append_nil] at RB
        obtain ⟨wz, hwz⟩ : ∃ wz : World, wz = wr := ⟨_, rfl⟩
        have hE := empty_row wr wr
        have h1 : AsRowW wr (wr.alloc (.cells #[] 29)) w2.heap.size va la := RA.out.w.below ((Below.refl _ _).alloc (Nat.le_refl _) _)
        have hbE : Below wr.heap.size wr (wr.alloc (.cells #[] 29)) := (Below.refl _ _).alloc (Nat.le_refl _) _
        have HE := Lib.hid hE; have H1 := Lib.hid h1; have HBE := Lib.hid hbE
        clear hE h1 hbE hwz
        go_upto_region 11 with (fail)
        go_wp2_with (at_builtin; refine wpList_rows rfl _ _ rfl wr wr.heap.size w2.heap.size _ va [] la rfl rfl HE.out H1.out (by simp) (by omega) (by simp) ?_)
        intro v1 w9 hg9 hR9
        have hb9 := grown_below HBE.out hg9 HE.out
        have HB9 := Lib.hid (RB.out.w.below hb9)
        have HR9 := Lib.hid hR9
        have hs9 := hb9.size
        have HX9 := Lib.hid hb9
        clear hg9 hR9 hb9
        go_wp2_with (at_builtin; refine wpList_rows rfl _ _ rfl wr wr.heap.size w4.heap.size v1 _ la _ rfl rfl HR9.out HB9.out (by omega) (by rw [List.length_map]; omega) hs9 ?_)
        intro v2 w10 hg10 hR10
        have hb10 := grown_below HX9.out hg10 HR9.out
        have HR10 := Lib.hid (hR10.fin hb10)
        have HC10 := Lib.hid (RC.out.below hb10)
        have HA10 := Lib.hid (RA.out.below hb10)
        have hbw10 := hbr.trans (hb10.mono hbr.size)
        have hargs : ∀ e ∈ la ++ lb.map (shift (s.size + 1)), e.args.length ≤ 1000000 := fun e he => by
          rcases List.mem_append.1 he with he | he
          · have := (HPS.out e he).2.1; omega
          · obtain ⟨f, hf, rfl⟩ := List.mem_map.1 he
            have := (HPT.out f hf).2.1
            show f.args.length ≤ _
            omega
        have HAR := Lib.hid hargs
        have hll : (la ++ lb.map (shift (s.size + 1))).length ≤ 1000000 := by rw [List.length_append, List.length_map]; omega
        clear hg10 hR10 hb10 HB9 HR9 HX9 RA RB RC HE H1 HBE hargs
        go_wp2_with fail
        refine (same_any true w10 HC10.out.reads HR10.out.reads hll HAR.out).mono ?_
        rintro e w11 ⟨he, hb11⟩
        rw [same_refl] at he
        subst he
        have HA11 := Lib.hid (HA10.out.below hb11)
        have hbw11 := hbw10.trans (hb11.mono hbw10.size)
        clear HA10 HC10 HR10 hb11 hbw10
        go_wp2_with fail
        refine (gparse_G (s := s) (by omega) w11).mono ?_
        rintro e w12 ⟨hb12, v12, rfl, hG⟩
        have HG := Lib.hid hG
        have HA12 := Lib.hid (HA11.out.below hb12)
        have hbw12 := hbw11.trans (hb12.mono hbw11.size)
        clear hG HA11 hb12 hbw11
        go_wp2_with fail
        refine (as_parse (s := s) (by omega) w12 HG.out).mono ?_
        rintro e w13 ⟨hb13, v13, rfl, hD⟩
        rw [HLA.out] at hD
        have HD := Lib.hid hD
        have HA13 := Lib.hid (HA12.out.below hb13)
        have hbw13 := hbw12.trans (hb13.mono hbw12.size)
        clear hD HA12 hb13 hbw12
        go_wp2_with fail
        refine (same_any true w13 HA13.out.reads HD.out.reads (by omega) (fun e he => HAR.out e (List.mem_append_left _ he))).mono ?_
        rintro e w14 ⟨he, hb14⟩
        rw [same_refl] at he
        subst he
        have hbw14 := hbw13.trans (hb14.mono hbw13.size)
        clear HA13 HD hb14 hbw13
        go_wp2_with fail
        go_ret
        exact ⟨rfl, hbw14⟩
theorem own : ownKnob Try.prog.godebug = none := by kernel_rfl
theorem laidOut : laidOutB Try.prog = true := by kernel_rfl
set_option maxRecDepth 100000 in
theorem lifted (os : Os) (started : os.Started) (H : Type) (enc : TypeId × Value → H) :
    ReturnsInHanded {} Try.checked os 3 .any (Rows.glyphPartsSpec.pre6 enc Try.prog Try.f3 Rows.glyphPartsRow.domain false) (Rows.glyphPartsSpec.post enc Try.prog Try.f3 false true false false) := by
  refine returnsInHanded_of_change_sized (C := Try.checked) own started (by kernel_rfl) Try.func3
    (ChangeSpec.witness6 (enc := enc) (C := Try.checked) false ⟨#[], #[.string ByteArray.empty, .string ByteArray.empty], []⟩ 8 (by kernel_rfl) (by kernel_rfl) (by kernel_rfl) (by kernel_rfl)) ?_
  intro W base args ds gs before hval0 hW hcnd hsz0 _
  have hsz : (DataW.weightsEach Try.prog (Try.f3.params.toList ++ Rows.glyphPartsSpec.plain.varTypes Try.prog) (ds ++ gs)).all (· ≤ reachBytes) = true := hsz0
  clear hsz0
  have hval : ∀ (j : Nat) t v, Try.f3.params[j]? = some t → args[j]? = some v → Value.okWide Try.prog W .any base t v := hval0
  have hW' := hW
  obtain ⟨p, q, hA0, hV, rfl, hfz, hnd⟩ := hW
  have hA : DataW.TrodAll enc Try.prog W 0 (fun _ => true) true Try.f3.params.toList args.toList ds p := hA0
  rw [Try.params3] at hA hval hsz
  obtain ⟨v0, vs0, d0, ds0, p0, q0, hargs, rfl, rfl, h0, r0⟩ := trodAll_cons hA
  obtain ⟨v1, vs1, d1, ds1, p1, q1, rfl, rfl, rfl, h1, r1⟩ := trodAll_cons r0
  obtain ⟨rfl, rfl, rfl⟩ := trodAll_nil r1
  obtain rfl : args = #[v0, v1] := by cases args; simp_all
  obtain ⟨rfl, rfl⟩ := trodVars_none hV
  obtain ⟨a0, rfl, rfl, rfl, ws0⟩ := Go.ChangeMaps.open_string Try.underlying9 (hval 0 9 v0 rfl rfl) h0
  have w0 : a0.size ≤ 140737488351232 := by
    have := sized_string hsz (j := 0) (t := 9) rfl rfl
    simpa [reachBytes] using this
  obtain ⟨a1, rfl, rfl, rfl, ws1⟩ := Go.ChangeMaps.open_string Try.underlying9 (hval 1 9 v1 rfl rfl) h1
  have w1 : a1.size ≤ 140737488351232 := by
    have := sized_string hsz (j := 1) (t := 9) rfl rfl
    simpa [reachBytes] using this
  clear hA0 hval0
  refine (walk a0 a1 W w0 w1).mono fun e W' ⟨he, hb⟩ => ?_
  subst he
  exact ⟨_, rfl, lift.post_law (tb := 4) laidOut (by rw [Try.params3]; exact fun t ht => (of_decide_eq_true (by kernel_rfl) : ∀ t ∈ [9, 9], Try.prog.readableRec t = true ∧ t < Try.prog.types.size) t ht) (by kernel_rfl) Try.underlying4 rfl hW' rfl hb⟩
theorem over : Rows.glyphPartsRow.holds Try.pinned (OpenSpec.ofChange Rows.glyphPartsSpec) :=
  OpenClaim.holds_of_wide 3 Try.f3 rfl rfl rfl rfl rfl rfl rfl ⟨rfl, rfl, rfl, rfl, rfl⟩ rfl rfl rfl rfl rfl (by kernel_rfl) Try.func3 (by kernel_rfl)
    (of_decide_eq_true (by kernel_rfl)) (by unfold Func.isWrapper; first | (rw [if_pos (by decide +kernel)]; kernel_rfl) | (rw [if_neg (by decide +kernel)]; exact ⟨rfl, rfl⟩))
    (fun os started H enc _ => lifted os started H enc)
theorem proved : Rows.GlyphPartsSaid :=
  over
end Go.Proofs.Ytolampkhohahlaa.glyphParts
