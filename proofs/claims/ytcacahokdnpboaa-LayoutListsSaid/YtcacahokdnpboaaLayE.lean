/- Package hatstandref6, on: the stack's values; over this seat's program. -/
import Derived.Test.YtcacahokdnpboaaLayD
namespace Go.Proofs.Ytcacahokdnpboaa.ly
open Go.ChangeShapes Go.WideShapes Go.ChangeAt Go.RowKit frame lift sep own join
set_option linter.unusedVariables false
/-- The values of a list's nodes, the last one's first, behind d of them. -/
def valsR (ws l : List Int) (d : Nat) : List Int := (l.reverse.take d).map fun i => nth ws (2 * i + 1).toNat
theorem valsR_succ {ws l : List Int} {d : Nat} (h : d < l.length) : valsR ws l (d + 1) = valsR ws l d ++ [nth ws (2 * nth l (l.length - 1 - d) + 1).toNat] := by
  unfold valsR
  rw [List.take_succ_eq_append_getElem (by simpa using h), List.map_append]
  congr 1
  simp [nth, List.getD, List.getElem?_eq_getElem (show l.length - 1 - d < l.length by omega)]
theorem valsR_len (ws l : List Int) (d : Nat) (h : d ≤ l.length) : (valsR ws l d).length = d := by
  unfold valsR
  simp
  omega
set_option maxRecDepth 100000 in
set_option maxHeartbeats 8000000 in
theorem rstack_any (c : Cf) {w : World} {vw : Value} {ws : List Int} (hw : Ints w .u64 vw ws) (hz : Fit .u64 ws) (hl : ws.length ≤ 1000000) :
    Calls Try.prog 30 #[.agg #[.int .i64 c.nodes, .int .i64 c.slots, .int .i64 c.holders, .int .u32 c.tag], vw] w (StackV w (stackL c ws)) := by
  have HC := Lib.hid (fun w => rcheck_any c w)
  have HCE := Lib.hid (fun w => rcells_any c w)
  have HVA := Lib.hid (fun i h0 h1 w => rvalue_any c i h0 h1 w)
  have HI := Lib.hid hw
  have HCH : Hid (∀ (w' : World), Below w.heap.size w w' → ∀ x, 0 ≤ x → x ≤ 18446744073709551615 → Calls Try.prog 28 #[.agg #[.int .i64 c.nodes, .int .i64 c.slots, .int .i64 c.holders, .int .u32 c.tag], vw, .int .u64 x] w' (ChainV w' (chainL c ws x))) :=
    fun w' hb x h0 h1 => rchain_any c (HI.out.below hb) hz hl x h0 h1
  have hcase := checkE_is c
  obtain ⟨aw, cw, rfl, hfw⟩ := form hw
  have HF := Lib.hid hfw
  have HFIT := Lib.hid hz
  have hbad := fun h => stack_bad (c := c) (ws := ws) h
  have hcn : Ok c → cellsN c = 2 + 2 * c.nodes + c.slots + c.holders := fun h => by simp [cellsN, h]
  have hokn : Ok c → (1 ≤ c.nodes ∧ c.nodes ≤ 64 ∧ 0 ≤ c.slots ∧ c.slots ≤ 16 ∧ 0 ≤ c.holders ∧ c.holders ≤ 64) := id
  have hvp : Ok c → ∀ i, 1 ≤ i → i ≤ c.nodes → valueP c i = 2 * i + 1 := fun h i h1 h2 => by simp [valueP, h, h1, h2]
  have hst : stackL c ws = (chainL c ws (nth ws 0)).map fun l => l.reverse.map fun i => nth ws (2 * i + 1).toNat := rfl
  have hmem := fun l => chain_mem (c := c) (ws := ws) (x := nth ws 0) (l := l)
  have hlen := fun l => chain_len (c := c) (ws := ws) (x := nth ws 0) (l := l)
  clear hw hfw hz
  obtain ⟨R, hR⟩ : ∃ R, stackL c ws = R := ⟨_, rfl⟩
  rw [hR] at hbad hst ⊢
  clear hR
  obtain ⟨N, hN⟩ : ∃ N, cellsN c = N := ⟨_, rfl⟩
  rw [hN] at hbad hcn
  simp only [hN] at HCE
  rcases hcase with ⟨hok, hE⟩ | ⟨hok, hE⟩
  · have hcn := hcn hok
    have hokn := hokn hok
    have hvp := hvp hok
    by_cases hlenN : (ws.length : Int) = N
    · have hne : ((ws.length : Int) != N) = false := by rw [bne_eq_false_iff_eq]; exact hlenN
      clear hbad hok hN
      obtain ⟨Q, hQ⟩ : ∃ Q, chainL c ws (nth ws 0) = Q := ⟨_, rfl⟩
      have HCH0 : Hid (∀ (w' : World), Below w.heap.size w w' → Calls Try.prog 28 #[.agg #[.int .i64 c.nodes, .int .i64 c.slots, .int .i64 c.holders, .int .u32 c.tag], .slice aw ws.length cw, .int .u64 (nth ws 0)] w' (ChainV w' Q)) := fun w' hb => by
        rw [← hQ]
        exact HCH.out w' hb _ (nth_u64 HFIT.out 0).1 (nth_u64 HFIT.out 0).2
      rw [hQ] at hst
      simp only [hQ] at hmem hlen
      obtain ⟨n, s, h, t⟩ := c
      dsimp only at HC HCE HVA HCH0 hE hcn hokn hvp hmem ⊢
      obtain ⟨b1, b2, b3, b4, b5, b6⟩ := hokn
      have hlen2 : 2 + 2 * n ≤ (ws.length : Int) := by omega
      obtain ⟨hcw1, hcw2, bw, ow, rfl, hbw, hcw⟩ := HF.out (by omega)
      have HBW := Lib.hid hbw
      have HCW := Lib.hid hcw
      have HE := Lib.hid hE; have HVP := Lib.hid hvp; have HLEN := Lib.hid hlen2; have HMEM := Lib.hid hmem; have HLL := Lib.hid hlen; have HST := Lib.hid hst
      have hw0 : 0 < ws.length := by omega
      obtain ⟨x0, hx0⟩ : ∃ x0, nth ws 0 = x0 := ⟨_, rfl⟩
      have HX0 := Lib.hid (hcw 0 hw0)
      rw [hx0, Nat.add_zero] at HX0
      rw [hx0] at HCH0
      have hi0 : (0 : Int) < (ws.length : Int) := by omega
      clear hE hvp hmem hlen hst hcn hlenN hlen2 hQ hx0 hcw hbw HCH HI HF
      go_enter Try.func30, Try.ntmps30
      go_wp2_with fail
      refine (HC.out _).mono ?_
      rintro e w1 ⟨rfl, hb⟩
      rw [HE.out]
      obtain ⟨hb1, c0, c1, c2, c3⟩ := boxed hb
      have HB := Lib.hid hb1
      have HLT : Hid (w.heap.size < w1.heap.size) := Nat.lt_of_lt_of_le (by simp) hb.size
      have HC0 := Lib.hid c0; have HC1 := Lib.hid c1; have HC2 := Lib.hid c2; have HC3 := Lib.hid c3
      clear hb hb1
      go_wp2_with fail
      refine (HCE.out _).mono ?_
      rintro e w2 ⟨rfl, hb⟩
      have HB2 := Lib.hid (below_trans HB.out hb)
      have HLT2 : Hid (w.heap.size < w2.heap.size) := Nat.lt_of_lt_of_le HLT.out hb.size
      have d0 := (hb.cell (p := ⟨w.heap.size, 0, none⟩) HLT.out).trans HC0.out
      have d1 := (hb.cell (p := ⟨w.heap.size, 1, none⟩) HLT.out).trans HC1.out
      have d2 := (hb.cell (p := ⟨w.heap.size, 2, none⟩) HLT.out).trans HC2.out
      have d3 := (hb.cell (p := ⟨w.heap.size, 3, none⟩) HLT.out).trans HC3.out
      have e0 := (HB2.out.cell (p := ⟨bw, ow, none⟩) HBW.out).trans HX0.out
      have HD0 := Lib.hid d0; have HD1 := Lib.hid d1; have HD2 := Lib.hid d2; have HD3 := Lib.hid d3
      clear hb c0 c1 c2 c3
      go_wp2_with fail
      go_region_held3 (fun w' => w'.cell? ⟨w.heap.size, 0, none⟩ = some (.int .i64 n) ∧ w'.cell? ⟨w.heap.size, 1, none⟩ = some (.int .i64 s) ∧ w'.cell? ⟨w.heap.size, 2, none⟩ = some (.int .i64 h) ∧ w'.cell? ⟨w.heap.size, 3, none⟩ = some (.int .u32 t) ∧ w'.cell? ⟨bw, ow, none⟩ = some (.int .u64 x0)) (go_keep) ((go_at_call 28; (refine (HCH0.out _ HB2.out.drew).mono ?_); rintro e w3 ⟨lv, rfl, hlv, hb⟩; (have HB3 := Lib.hid (below_trans HB2.out.drew hb)); (have HLV := Lib.hid hlv); (have HK3 : Hid (Below w2.heap.size w2 w3) := below_trans ((Below.refl w2.heap.size w2).drew) hb); (have d0 := (HK3.out.cell (p := ⟨w.heap.size, 0, none⟩) HLT2.out).trans HD0.out); (have d1 := (HK3.out.cell (p := ⟨w.heap.size, 1, none⟩) HLT2.out).trans HD1.out); (have d2 := (HK3.out.cell (p := ⟨w.heap.size, 2, none⟩) HLT2.out).trans HD2.out); (have d3 := (HK3.out.cell (p := ⟨w.heap.size, 3, none⟩) HLT2.out).trans HD3.out); (have e0 := (HB3.out.cell (p := ⟨bw, ow, none⟩) HBW.out).trans HX0.out); clear hb hlv))
      clear d0 d1 d2 d3 e0
      obtain ⟨L, hL⟩ : ∃ L, Q.getD [] = L := ⟨_, rfl⟩
      have hR1 : R.isSome = Q.isSome := by rw [HST.out]; simp
      have hR2 : R.getD [] = valsR ws L L.length := by
        rw [HST.out, ← hL]
        cases Q with
        | none => rfl
        | some l =>
          show _ = valsR ws l l.length
          unfold valsR
          rw [List.take_of_length_le (by simp)]
          rfl
      have hLm : ∀ i ∈ L, 1 ≤ i ∧ i ≤ n := fun i hi => by
        cases hq : Q with
        | none => rw [hq] at hL; simp at hL; subst hL; cases hi
        | some l => rw [hq] at hL; simp at hL; subst hL; exact HMEM.out _ hq i hi
      have hLl : L.length ≤ 64 := by
        cases hq : Q with
        | none => rw [hq] at hL; simp at hL; subst hL; simp
        | some l => rw [hq] at hL; simp at hL; subst hL; exact HLL.out _ hq
      rw [hL] at HLV
      have HR1 := Lib.hid hR1; have HR2 := Lib.hid hR2; have HLM := Lib.hid hLm
      obtain ⟨al, cl, rfl, hfl⟩ := form HLV.out
      have HFL := Lib.hid hfl
      have HLT3 : Hid (w.heap.size < w3.heap.size) := Nat.lt_of_lt_of_le HLT2.out HK3.out.size
      have HG0 := Lib.hid ((HK3.out.cell (p := ⟨w.heap.size, 0, none⟩) HLT2.out).trans HD0.out)
      have HG1 := Lib.hid ((HK3.out.cell (p := ⟨w.heap.size, 1, none⟩) HLT2.out).trans HD1.out)
      have HG2 := Lib.hid ((HK3.out.cell (p := ⟨w.heap.size, 2, none⟩) HLT2.out).trans HD2.out)
      have HG3 := Lib.hid ((HK3.out.cell (p := ⟨w.heap.size, 3, none⟩) HLT2.out).trans HD3.out)
      have hwl : IntKind.i64.wrap ((L.length : Int) - 1) = (L.length : Int) - 1 := IntWalk.i64_in _ (by omega)
      clear hL hR1 hR2 hLm hfl
      go_wp2_with fail
      go_loopw [8, 9] (fun nv i wr => ∃ (d : Nat) (vv : Value), nv = vv ∧ d ≤ L.length ∧ i = .int .i64 ((L.length : Int) - (d : Int) - 1) ∧ Hid (Own wr w3.heap.size 43 .u64 vv (valsR ws L d)) ∧ Hid (Below w3.heap.size w3 wr)) (fun _ i _ => (intOf i + 1).toNat)
      case atStart => exact ⟨0, _, rfl, Nat.zero_le _, by simp, ⟨rfl, .inl ⟨rfl, rfl⟩⟩, Below.refl _ _⟩
      case round =>
        obtain ⟨d, vv, hvv, hd, rfl, HO, HK⟩ := hrel
        have hv2 := hvv.symm
        clear hvv
        subst hv2
        by_cases hlt : d < L.length
        · obtain ⟨k, hk⟩ : ∃ k : Nat, L.length - 1 - d = k := ⟨_, rfl⟩
          have hkI : (L.length : Int) - (d : Int) - 1 = (k : Int) := by omega
          have hkl : k < L.length := by omega
          rw [hkI]
          obtain ⟨_, _, gl, ol, rfl, hgl, hcl⟩ := HFL.out (by omega)
          have HGL := Lib.hid hgl
          obtain ⟨y, hy⟩ : ∃ y, nth L k = y := ⟨_, rfl⟩
          have HCL := Lib.hid (hcl k hkl)
          rw [hy] at HCL
          obtain ⟨y1, y2⟩ := HLM.out y (by rw [← hy]; exact nth_mem hkl)
          have y0 : 0 ≤ y := by omega
          have y3 : y ≤ 4294967295 := by omega
          obtain ⟨m, hm⟩ : ∃ m : Nat, 2 * y + 1 = m := ⟨(2 * y + 1).toNat, by omega⟩
          have HM : Hid (valueP ⟨n, s, h, t⟩ y = (m : Int)) := by rw [← hm]; exact HVP.out y y1 y2
          have hml : m < ws.length := by have := HLEN.out; omega
          obtain ⟨x, hx⟩ : ∃ x, nth ws m = x := ⟨_, rfl⟩
          have HXW := Lib.hid (HCW.out m hml)
          rw [hx] at HXW
          have HN : Hid (valsR ws L (d + 1) = valsR ws L d ++ [x]) := by
            unfold Hid
            rw [valsR_succ hlt, hk, hy, hm, ← hx]
            rfl
          have HVL := Lib.hid (valsR_len ws L d hd)
          have hi1 : (0 : Int) ≤ (k : Int) := by omega
          have hi2 : (k : Int) < (L.length : Int) := by omega
          have hi3 : (0 : Int) ≤ (m : Int) := by omega
          have hi4 : (m : Int) < (ws.length : Int) := by omega
          have d0 := (HK.out.cell (p := ⟨w.heap.size, 0, none⟩) HLT3.out).trans HG0.out
          have d1 := (HK.out.cell (p := ⟨w.heap.size, 1, none⟩) HLT3.out).trans HG1.out
          have d2 := (HK.out.cell (p := ⟨w.heap.size, 2, none⟩) HLT3.out).trans HG2.out
          have d3 := (HK.out.cell (p := ⟨w.heap.size, 3, none⟩) HLT3.out).trans HG3.out
          have d4 := (HK.out.cell (p := ⟨gl, ol + k, none⟩) HGL.out).trans HCL.out
          have HKW := Lib.hid (below_trans HB3.out HK.out)
          have d5 := (HKW.out.cell (p := ⟨bw, ow + m, none⟩) HBW.out).trans HXW.out
          have hwk : IntKind.i64.wrap ((k : Int) - 1) = (k : Int) - 1 := IntWalk.i64_in _ (by omega)
          have hkd : (k : Int) - 1 = (L.length : Int) - ((d + 1 : Nat) : Int) - 1 := by omega
          have HKD := Lib.hid hkd
          clear hcl hy hm hx hk hkI hgl hkd
          go_wp2_with fail
          go_region_held3 (fun w' => w'.cell? ⟨w.heap.size, 0, none⟩ = some (.int .i64 n) ∧ w'.cell? ⟨w.heap.size, 1, none⟩ = some (.int .i64 s) ∧ w'.cell? ⟨w.heap.size, 2, none⟩ = some (.int .i64 h) ∧ w'.cell? ⟨w.heap.size, 3, none⟩ = some (.int .u32 t) ∧ w'.cell? ⟨gl, ol + k, none⟩ = some (.int .u32 y) ∧ w'.cell? ⟨bw, ow + m, none⟩ = some (.int .u64 x)) (go_keep) (first
            | (go_at_call 19; (refine (HVA.out y y0 y3 _).mono ?_); rintro e w5 ⟨rfl, hb⟩; rw [HM.out]; (have HK5 := Lib.hid (below_trans HK.out.drew hb)); (have HO5 := Lib.hid ((Own.below HO.out ((Below.refl _ _).drew)).below hb)); (have d0 := (HK5.out.cell (p := ⟨w.heap.size, 0, none⟩) HLT3.out).trans HG0.out); (have d1 := (HK5.out.cell (p := ⟨w.heap.size, 1, none⟩) HLT3.out).trans HG1.out); (have d2 := (HK5.out.cell (p := ⟨w.heap.size, 2, none⟩) HLT3.out).trans HG2.out); (have d3 := (HK5.out.cell (p := ⟨w.heap.size, 3, none⟩) HLT3.out).trans HG3.out); (have d4 := (HK5.out.cell (p := ⟨gl, ol + k, none⟩) HGL.out).trans HCL.out); (have d5 := ((below_trans HB3.out HK5.out).cell (p := ⟨bw, ow + m, none⟩) HBW.out).trans HXW.out); (have HK5a := Lib.hid (HK5.out.alloc HK5.out.size (Obj.cells #[.int .u64 x] 43 (0, 0)))); (have HO5a := Lib.hid (HO5.out.alloc (Obj.cells #[.int .u64 x] 43 (0, 0)))); (have HX5 := Lib.hid (ints_one w5 .u64 x 43)); (have hq1 : (valsR ws L d).length + [x].length ≤ 1099511627776 := Nat.le_trans (Nat.add_le_add_right (Nat.le_of_eq HVL.out) 1) (by simp; omega)); (have HQ1 := Lib.hid hq1); clear hb hq1)
            | ((refine step_cat _ rfl _ _ 28 rfl w3.heap.size 43 .u64 (.int .u64 0) 8 Try.underlying28 info64 rfl _ (valsR ws L d) rfl HO5a.out _ [x] rfl HX5.out HQ1.out (by decide) HK5a.out.size ?_); intro v6 w6 hown hgrow; (have HK6 := Lib.hid (below_grown HK5a.out hgrow HO5a.out (Nat.le_refl _))); (have HO6 := Lib.hid hown); (have d0 := (HK6.out.cell (p := ⟨w.heap.size, 0, none⟩) HLT3.out).trans HG0.out); (have d1 := (HK6.out.cell (p := ⟨w.heap.size, 1, none⟩) HLT3.out).trans HG1.out); (have d2 := (HK6.out.cell (p := ⟨w.heap.size, 2, none⟩) HLT3.out).trans HG2.out); (have d3 := (HK6.out.cell (p := ⟨w.heap.size, 3, none⟩) HLT3.out).trans HG3.out); (have d4 := (HK6.out.cell (p := ⟨gl, ol + k, none⟩) HGL.out).trans HCL.out); (have d5 := ((below_trans HB3.out HK6.out).cell (p := ⟨bw, ow + m, none⟩) HBW.out).trans HXW.out); clear hown hgrow))
          go_wp2_with fail
          go_roundw
          case rel => exact ⟨d + 1, v6, rfl, by omega, by first | exact congrArg _ HKD.out | (rw [HKD.out]), by rw [HN.out]; exact HO6.out, HK6.out⟩
          case measure => simp [intOf]
        · have hdl : d = L.length := by omega
          have hneg : (L.length : Int) - (d : Int) - 1 = -1 := by omega
          rw [hneg]
          have HOL : Hid (Own wr w3.heap.size 43 .u64 vv (valsR ws L L.length)) := by rw [← hdl]; exact HO.out
          clear hneg
          go_wp2_with fail
          go_ret2
          rw [← HR1.out]
          refine ⟨_, rfl, ?_, below_trans HB3.out HK.out⟩
          rw [HR2.out]
          exact HOL.out.ints
    · have hne : ((ws.length : Int) != N) = true := by rw [bne_iff_ne]; exact hlenN
      have HR := Lib.hid (hbad (.inr hlenN))
      clear hbad hok hN hst hvp hmem hlen hcn hokn hlenN HCH
      obtain ⟨n, s, h, t⟩ := c
      dsimp only at HC HCE HVA hE ⊢
      have HE := Lib.hid hE
      clear hE
      go_enter Try.func30, Try.ntmps30
      go_wp2_with fail
      refine (HC.out _).mono ?_
      rintro e w1 ⟨rfl, hb⟩
      rw [HE.out]
      obtain ⟨hb1, c0, c1, c2, c3⟩ := boxed hb
      have HB := Lib.hid hb1
      clear hb hb1
      go_wp2_with fail
      refine (HCE.out _).mono ?_
      rintro e w2 ⟨rfl, hb⟩
      have HB2 := Lib.hid (below_trans HB.out hb)
      clear hb c0 c1 c2 c3
      go_wp2_with fail
      go_ret2
      rw [HR.out]
      exact ⟨_, rfl, .inl ⟨rfl, none, 0, rfl⟩, HB2.out⟩
  · have HR := Lib.hid (hbad (.inl hok))
    clear hbad hok hN hst hvp hmem hlen hcn hokn HCH
    obtain ⟨n, s, h, t⟩ := c
    dsimp only at HC HCE HVA hE ⊢
    have HE := Lib.hid hE
    clear hE
    go_enter Try.func30, Try.ntmps30
    go_wp2_with fail
    refine (HC.out _).mono ?_
    rintro e w1 ⟨rfl, hb⟩
    rw [HE.out]
    have HB := Lib.hid (boxed hb).1
    clear hb
    go_wp2_with fail
    go_ret2
    rw [HR.out]
    exact ⟨_, rfl, .inl ⟨rfl, none, 0, rfl⟩, HB.out⟩
end Go.Proofs.Ytcacahokdnpboaa.ly
