/- LifoBack: what is pushed last is popped first; pushed, and popped again, a stack is as it was; one that is full takes none, one that is empty gives none: no condition. -/
import Derived.Test.YtjmbjlijkohkfaaLifB
namespace Go.Proofs.Ytjmbjlijkohkfaa.lifoBack
open Go.ChangeShapes Go.WideShapes Go.ChangeAt Go.RowKit frame lift sep own join lf
set_option linter.unusedVariables false
theorem yes {α : Type} [DecidableEq α] (a : α) : decide (a = a) = true := decide_eq_true rfl
/-- Behind k of the words: j of them went in. -/
structure Fill (s l : List Int) (most : Int) (k j : Nat) : Prop where
  le : j ≤ k
  kl : k ≤ l.length
  room : (s.length : Int) + j ≤ most
  full : j < k → (s.length : Int) + j = most
theorem fill_len {s l : List Int} {j : Nat} (h : j ≤ l.length) : (s ++ l.take j).length = s.length + j := by
  rw [List.length_append, List.length_take, Nat.min_eq_left h]
theorem take_next {s l : List Int} {j : Nat} (h : j < l.length) : s ++ l.take (j + 1) = (s ++ l.take j) ++ [nth l j] := by
  rw [List.take_succ_eq_append_getElem h, List.append_assoc]
  simp [nth, List.getD, h]
set_option maxRecDepth 100000 in
set_option maxHeartbeats 8000000 in
theorem walk (v0 : Value) (s : List Int) (v1 : Value) (l : List Int) (a2 : Int) (f2 : (Lit.int .i64 a2).wf = true) (w : World) (f0 : Ints w .u64 v0 s) (z0 : Fit .u64 s) (f1 : Ints w .u64 v1 l) (z1 : Fit .u64 l) :
    Calls Try.prog 4 #[v0, v1, .int .i64 a2] w fun e w' => e = .returned (.bool true) ∧ Below w.heap.size w w' := by
  obtain ⟨b0, b1⟩ := bd_i64 f2
  have HI := Lib.hid f0
  obtain ⟨aa, ca, rfl, _⟩ := form f0
  obtain ⟨ab, cb, rfl, hfb⟩ := form f1
  have HF := Lib.hid hfb
  clear f0 f1 z0 z1 hfb f2
  by_cases hs : 200 < s.length
  · have hs1 : (200 : Int) < (s.length : Int) := by omega
    go_enter Try.func4, Try.ntmps4
    go_wp2_with fail
    refine (shown_any w).mono ?_
    rintro e w1 ⟨rfl, hb⟩
    go_wp2_with fail
    go_ret
    exact ⟨rfl, hb⟩
  have hs1 : ¬ (200 : Int) < (s.length : Int) := by omega
  by_cases hl : 200 < l.length
  · have hl1 : (200 : Int) < (l.length : Int) := by omega
    go_enter Try.func4, Try.ntmps4
    go_wp2_with fail
    refine (shown_any w).mono ?_
    rintro e w1 ⟨rfl, hb⟩
    go_wp2_with fail
    go_ret
    exact ⟨rfl, hb⟩
  have hl1 : ¬ (200 : Int) < (l.length : Int) := by omega
  have hsl : s.length ≤ 1000 := by omega
  have hll : l.length ≤ 1000 := by omega
  have hw1 : IntKind.i64.wrap ((l.length : Int) + 3) = (l.length : Int) + 3 := IntWalk.i64_in _ (by omega)
  obtain ⟨p, hp⟩ : ∃ p, pickI a2 ((l.length : Int) + 3) = p := ⟨_, rfl⟩
  have hpb := pickI_bd a2 ((l.length : Int) + 3) (by omega)
  rw [hp] at hpb
  obtain ⟨p0, p1⟩ := hpb
  have HP := Lib.hid hp
  obtain ⟨most, hmost⟩ : ∃ most, (s.length : Int) + p = most := ⟨_, rfl⟩
  have hw2 : IntKind.i64.wrap ((s.length : Int) + p) = most := by rw [IntWalk.i64_in _ (by omega), hmost]
  have hms : (s.length : Int) ≤ most := by omega
  have hmb : most ≤ 100000 := by omega
  clear hp hmost
  go_enter Try.func4, Try.ntmps4
  go_wp2_with fail
  refine (shown_any w).mono ?_
  rintro e w1 ⟨rfl, hb⟩
  have HB0 := Lib.hid hb
  clear hb
  go_wp2_with fail
  refine (pick_any a2 ((l.length : Int) + 3) b0 b1 (by omega) (by omega) w1).mono ?_
  rintro e w2 ⟨rfl, rfl⟩
  rw [HP.out]
  have H1 := Lib.hid (HB0.out.alloc HB0.out.size (Obj.cells #[] 28 (0, 0)))
  have HO := Lib.hid (own_empty (W := w1) (B := w.heap.size) 28 .u64 HB0.out.size)
  have HX := Lib.hid (HI.out.below H1.out)
  go_wp2_with (at_builtin; refine wpList_cat _ rfl _ _ 22 rfl w.heap.size 28 .u64 (.int .u64 0) 8 Try.underlying22 info64 rfl _ [] rfl HO.out _ s rfl HX.out ?c1 (by decide) ?c2 ?_)
  case c1 => simp; omega
  case c2 => exact H1.out.size
  intro v' w2 hown hgrow
  have HB1 := Lib.hid (below_grown H1.out hgrow HO.out (Nat.le_refl _))
  have HO1 : Hid (Own w2 w.heap.size 28 .u64 v' s) := hown
  clear hown hgrow
  go_wp2_with fail
  clear p0 p1 hw2 HP
  go_loopw [9, 10, 11] (fun nv inn i wr => ∃ (k j : Nat) (vv : Value), nv = vv ∧ i = .int .i64 k ∧ inn = .int .i64 j ∧ Hid (Fill s l most k j) ∧ Hid (Ints wr .u64 vv (s ++ l.take j)) ∧ Hid (Below w.heap.size w wr)) (fun _ _ i _ => l.length - (intOf i).toNat)
  case atStart => exact ⟨0, 0, _, rfl, rfl, rfl, ⟨Nat.le_refl _, Nat.zero_le _, by omega, fun h => by omega⟩, by
    have := HO1.out.ints
    unfold Hid
    simpa using this, HB1.out⟩
  case round =>
    obtain ⟨k, j, vv, hvv, rfl, rfl, HL, HN, HB⟩ := hrel
    have hv2 := hvv.symm
    clear hvv
    subst hv2
    obtain ⟨an, cn, rfl, _⟩ := form HN.out
    have hjk := HL.out.le
    have hkl := HL.out.kl
    have hroom := HL.out.room
    have hfull := HL.out.full
    have hlen := fill_len (s := s) (l := l) (j := j) (by omega)
    obtain ⟨now, hnow⟩ : ∃ now, s ++ l.take j = now := ⟨_, rfl⟩
    have HNOW := Lib.hid hnow
    rw [hnow] at HN hlen ⊢
    by_cases hlt : k < l.length
    · obtain ⟨h1, h2, g, off, rfl, hgl, hc⟩ := HF.out (by omega)
      have e0 := (HB.out.cell (p := ⟨g, off + k, none⟩) hgl).trans (hc k hlt)
      obtain ⟨x, hx⟩ : ∃ x, nth l k = x := ⟨_, rfl⟩
      have HXK := Lib.hid hx
      rw [hx] at e0
      have hi1 : (0 : Int) ≤ (k : Int) := by omega
      have hi2 : (k : Int) < (l.length : Int) := by omega
      have hnl : now.length ≤ 1000 := by omega
      clear hc hx hnow
      by_cases hr : (now.length : Int) < most
      · have hjeq : j = k := by
          by_cases h : j = k
          · exact h
          · have := hfull (by omega)
            omega
        have HPU : Hid (pushL now most x = s ++ l.take (j + 1) ∧ pushT now most = 1) := by
          refine ⟨?_, by simp [pushT, hr]⟩
          rw [take_next (by omega), hjeq, HXK.out, ← hjeq, HNOW.out]
          simp [pushL, hr]
        have HL2 : Hid (Fill s l most (k + 1) (j + 1)) := ⟨by omega, by omega, by push_cast; omega, fun h => by omega⟩
        have hr2 : decide ((now.length : Int) < most) = true := decide_eq_true hr
        have hnl2 : now.length ≤ 1000000 := by omega
        clear hfull hlen hjeq
        go_wp2_with fail
        refine (push_any HN.out hnl2 most x).mono ?_
        rintro e w3 ⟨t, rfl, ht, hb⟩
        rw [HPU.out.1] at ht
        rw [HPU.out.2]
        have HB3 := Lib.hid (below_trans HB.out hb)
        have HT := Lib.hid ht
        clear hb ht
        go_wp2_with fail
        go_roundw
        case rel => exact ⟨k + 1, j + 1, t, rfl, by go_num, by go_num, HL2.out, HT.out, HB3.out⟩
        case measure => simp [intOf]; omega
      · have HPU : Hid (pushL now most x = now ∧ pushT now most = 2) := by simp [Hid, pushL, pushT, hr]
        have HL2 : Hid (Fill s l most (k + 1) j) := ⟨by omega, by omega, hroom, fun h => by omega⟩
        have hr2 : decide ((now.length : Int) < most) = false := decide_eq_false hr
        have hnl2 : now.length ≤ 1000000 := by omega
        clear hfull hlen
        go_wp2_with fail
        refine (push_any HN.out hnl2 most x).mono ?_
        rintro e w3 ⟨t, rfl, ht, hb⟩
        rw [HPU.out.1] at ht
        rw [HPU.out.2]
        have HB3 := Lib.hid (below_trans HB.out hb)
        have HT := Lib.hid ht
        have HN3 := Lib.hid (HN.out.below hb)
        clear hb ht
        go_wp2_with fail
        refine (same_any HT.out HN3.out hnl2 hnl2).mono ?_
        rintro e w4 ⟨rfl, hb⟩
        rw [yes]
        have HB4 := Lib.hid (below_trans HB3.out hb)
        have HT4 := Lib.hid (HT.out.below hb)
        clear hb
        go_wp2_with fail
        go_roundw
        case rel => exact ⟨k + 1, j, t, rfl, by go_num, rfl, HL2.out, by rw [HNOW.out]; exact HT4.out, HB4.out⟩
        case measure => simp [intOf]; omega
    · have hne : ((now.length : Int) != (s.length : Int) + (j : Int)) = false := by rw [bne_eq_false_iff_eq]; omega
      have hwj : IntKind.i64.wrap ((s.length : Int) + (j : Int)) = (s.length : Int) + (j : Int) := IntWalk.i64_in _ (by omega)
      have hgt : ¬ most < (now.length : Int) := by omega
      have hwj1 : IntKind.i64.wrap ((j : Int) - 1) = (j : Int) - 1 := IntWalk.i64_in _ (by omega)
      have hj2 : j ≤ l.length := by omega
      have HN0 : Hid (Ints wr .u64 (.slice an now.length cn) (s ++ l.take j)) := by rw [HNOW.out]; exact HN.out
      clear hfull hnow hlen
      go_wp2_with fail
      go_loopw [9, 14] (fun nv i wv => ∃ (c : Nat) (vv : Value), nv = vv ∧ c ≤ j ∧ i = .int .i64 ((c : Int) - 1) ∧ Hid (Ints wv .u64 vv (s ++ l.take c)) ∧ Hid (Below w.heap.size w wv)) (fun _ i _ => (intOf i + 1).toNat)
      case atStart => exact ⟨j, _, rfl, Nat.le_refl _, rfl, HN0.out, HB.out⟩
      case round =>
        clear HN HB HN0 HNOW hne hgt
        obtain ⟨c, vv, hvv, hcj, rfl, HN, HB⟩ := hrel
        have hv2 := hvv.symm
        clear hvv
        subst hv2
        have hlen := fill_len (s := s) (l := l) (j := c) (by omega)
        by_cases hc0 : 0 < c
        · obtain ⟨d, rfl⟩ : ∃ d, c = d + 1 := ⟨c - 1, by omega⟩
          have hdl : d < l.length := by omega
          obtain ⟨h1, h2, g, off, rfl, hgl, hc⟩ := HF.out (by omega)
          have HG := Lib.hid hgl
          have HC := Lib.hid (hc d hdl)
          obtain ⟨x, hx⟩ : ∃ x, nth l d = x := ⟨_, rfl⟩
          rw [hx] at HC
          have htn := take_next (s := s) hdl
          rw [hx] at htn
          have HPO : Hid (popT (s ++ l.take (d + 1)) = 1 ∧ popV (s ++ l.take (d + 1)) = x ∧ popL (s ++ l.take (d + 1)) = s ++ l.take d) := by
            rw [htn]
            have := pop_push (l := s ++ l.take d) (most := ((s ++ l.take d).length : Int) + 1) (x := x) (by omega)
            have e : pushL (s ++ l.take d) (((s ++ l.take d).length : Int) + 1) x = (s ++ l.take d) ++ [x] := by
              unfold pushL
              rw [if_pos (by omega)]
            rwa [e] at this
          have hi0 : ((d + 1 : Nat) : Int) - 1 = (d : Int) := by omega
          have hi1 : (0 : Int) ≤ (d : Int) := by omega
          have hi2 : (d : Int) < (l.length : Int) := by omega
          have hi3 : IntKind.i64.wrap ((d : Int) - 1) = (d : Int) - 1 := IntWalk.i64_in _ (by omega)
          rw [hi0]
          have hln : (s ++ l.take (d + 1)).length ≤ 1000000 := by omega
          have HLN := Lib.hid hln
          clear hc hx htn hlen hln
          go_wp2_with fail
          refine (pop_any HN.out HLN.out).mono ?_
          rintro e w3 ⟨t, rfl, ht, hb⟩
          rw [HPO.out.2.2] at ht
          rw [HPO.out.1, HPO.out.2.1]
          have HB3 := Lib.hid (below_trans HB.out hb)
          have e3 := (HB3.out.cell (p := ⟨g, off + d, none⟩) HG.out).trans HC.out
          have HT := Lib.hid ht
          clear hb ht
          go_wp2_with fail
          go_roundw
          case rel => exact ⟨d, t, rfl, by omega, by go_num, HT.out, HB3.out⟩
          case measure => simp [intOf]
        · obtain rfl : c = 0 := by omega
          clear hlen
          have HNs : Hid (Ints wr .u64 vv s) := by
            have := HN.out
            unfold Hid
            simpa using this
          have hneg : ((0 : Nat) : Int) - 1 = -1 := by decide
          rw [hneg]
          go_wp2_with fail
          refine (pop_any (l := []) (v := .slice none 0 0) (.inl ⟨rfl, none, 0, rfl⟩) (by simp)).mono ?_
          rintro e w3 ⟨t, rfl, ht, hb⟩
          have HB3 := Lib.hid (below_trans HB.out hb)
          have HT := Lib.hid (HNs.out.below hb)
          have e1 : popV [] = 0 := rfl
          have e2 : popT [] = 2 := rfl
          rw [e1, e2]
          clear hb ht e1 e2
          go_wp2_with fail
          refine (same_any HT.out (HI.out.below HB3.out) (by omega) (by omega)).mono ?_
          rintro e w4 ⟨rfl, hb⟩
          rw [yes]
          have HB4 := Lib.hid (below_trans HB3.out hb)
          clear hb
          go_wp2_with fail
          go_ret
          exact ⟨rfl, HB4.out⟩
theorem own : ownKnob Try.prog.godebug = none := by kernel_rfl
theorem laidOut : laidOutB Try.prog = true := by kernel_rfl
theorem cells_uint64 : Try.prog.cellsOf 28 = 1 := by kernel_rfl
set_option maxRecDepth 100000 in
theorem lifted (os : Os) (started : os.Started) (H : Type) (enc : TypeId × Value → H) :
    ReturnsInHanded {} Try.checked os 4 .any (Rows.lifoBackSpec.pre6 enc Try.prog Try.f4 Rows.lifoBackRow.domain false) (Rows.lifoBackSpec.post enc Try.prog Try.f4 false true false false) := by
  refine returnsInHanded_of_change (C := Try.checked) own started (by kernel_rfl) Try.func4
    (ChangeSpec.witness6 (enc := enc) (C := Try.checked) false ⟨#[], #[.slice none 0 0, .slice none 0 0, .int .i64 0], []⟩ 8 (by kernel_rfl) (by kernel_rfl) (by kernel_rfl) (by kernel_rfl)) ?_
  intro W base args ds gs before hval0 hW hcnd _
  have hval : ∀ (j : Nat) t v, Try.f4.params[j]? = some t → args[j]? = some v → Value.okWide Try.prog W .any base t v := hval0
  have hW' := hW
  obtain ⟨p, q, hA0, hV, rfl, hfz, hnd⟩ := hW
  have hA : DataW.TrodAll enc Try.prog W 0 (fun _ => true) true Try.f4.params.toList args.toList ds p := hA0
  rw [Try.params4] at hA hval
  obtain ⟨v0, vs0, d0, ds0, p0, q0, hargs, rfl, rfl, h0, r0⟩ := trodAll_cons hA
  obtain ⟨v1, vs1, d1, ds1, p1, q1, rfl, rfl, rfl, h1, r1⟩ := trodAll_cons r0
  obtain ⟨v2, vs2, d2, ds2, p2, q2, rfl, rfl, rfl, h2, r2⟩ := trodAll_cons r1
  obtain ⟨rfl, rfl, rfl⟩ := trodAll_nil r2
  obtain rfl : args = #[v0, v1, v2] := by cases args; simp_all
  obtain ⟨rfl, rfl⟩ := trodVars_none hV
  obtain ⟨a0, w0, z0⟩ := lift.open_row Try.underlying22 Try.underlying28 cells_uint64 (okWide_slice Try.underlying22 (hval 0 22 v0 rfl rfl)) h0
  obtain ⟨a1, w1, z1⟩ := lift.open_row Try.underlying22 Try.underlying28 cells_uint64 (okWide_slice Try.underlying22 (hval 1 22 v1 rfl rfl)) h1
  obtain ⟨a2, rfl, rfl, rfl, w2⟩ := open_int Try.underlying3 (hval 2 3 v2 rfl rfl) h2
  clear hA0 hval0
  refine (walk v0 a0 v1 a1 a2 w2 W w0 z0 w1 z1).mono fun e W' ⟨he, hb⟩ => ?_
  subst he
  exact ⟨_, rfl, lift.post_law (tb := 4) laidOut (by rw [Try.params4]; exact fun t ht => (of_decide_eq_true (by kernel_rfl) : ∀ t ∈ [22, 22, 3], Try.prog.readableRec t = true ∧ t < Try.prog.types.size) t ht) (by kernel_rfl) Try.underlying4 rfl hW' rfl hb⟩
theorem over : Rows.lifoBackRow.holds Try.pinned (OpenSpec.ofChange Rows.lifoBackSpec) :=
  OpenClaim.holds_of_wide 4 Try.f4 rfl rfl rfl rfl rfl rfl rfl ⟨rfl, rfl, rfl, rfl, rfl⟩ rfl rfl rfl rfl rfl (by kernel_rfl) Try.func4 (by kernel_rfl)
    (of_decide_eq_true (by kernel_rfl)) (by unfold Func.isWrapper; first | (rw [if_pos (by decide +kernel)]; kernel_rfl) | (rw [if_neg (by decide +kernel)]; exact ⟨rfl, rfl⟩))
    (fun os started H enc _ => lifted os started H enc)
theorem proved : Rows.LifoBackSaid :=
  over
end Go.Proofs.Ytjmbjlijkohkfaa.lifoBack
