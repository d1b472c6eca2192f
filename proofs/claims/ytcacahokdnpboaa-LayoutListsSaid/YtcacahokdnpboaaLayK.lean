/- Package layout, on: the stack's values; over this seat's program. -/
import Derived.Test.YtcacahokdnpboaaLayL
import Derived.Test.YtcacahokdnpboaaCells
namespace Go.Proofs.Ytcacahokdnpboaa.ly
open Go.ChangeShapes Go.WideShapes Go.ChangeAt Go.RowKit frame lift sep own join
set_option linter.unusedVariables false
/-- The values of a list's nodes, the last one's first, the last d of them laid. -/
def valsE (ws l : List Int) (d : Nat) : List Int := List.replicate (l.length - d) 0 ++ (l.take d).reverse.map fun i => nth ws (2 * i + 1).toNat
theorem valsE_len (ws l : List Int) (d : Nat) (h : d ≤ l.length) : (valsE ws l d).length = l.length := by
  unfold valsE
  simp
  omega
theorem valsE_set {ws l : List Int} {d : Nat} (h : d < l.length) : (valsE ws l d).set (l.length - 1 - d) (nth ws (2 * nth l d + 1).toNat) = valsE ws l (d + 1) := by
  unfold valsE
  have e : l.length - d = (l.length - 1 - d) + 1 := by omega
  have e2 : l.length - (d + 1) = l.length - 1 - d := by omega
  have e3 : l.take (d + 1) = l.take d ++ [nth l d] := by
    rw [List.take_succ_eq_append_getElem h]
    simp [nth, List.getD, h]
  rw [e, e2, e3, List.replicate_succ', List.append_assoc, List.set_append_right _ _ (by simp)]
  simp
theorem valsE_all (ws l : List Int) : valsE ws l l.length = valsR ws l l.length := by
  unfold valsE valsR
  rw [List.take_of_length_le (by simp), List.take_of_length_le (by simp)]
  simp
theorem valsE_none (ws l : List Int) : valsE ws l 0 = List.replicate l.length 0 := by simp [valsE]
set_option maxRecDepth 100000 in
set_option maxHeartbeats 8000000 in
theorem stack_any (c : Cf) {w : World} {vw : Value} {ws : List Int} (hw : Ints w .u64 vw ws) (hz : Fit .u64 ws) (hl : ws.length ≤ 1000000) :
    Calls Try.prog 29 #[.agg #[.int .i64 c.nodes, .int .i64 c.slots, .int .i64 c.holders, .int .u32 c.tag], vw] w (StackV w (stackL c ws)) := by
  have HVA := Lib.hid (fun i h0 h1 w => value_any c i h0 h1 w)
  have HI := Lib.hid hw
  have HCH : Hid (∀ (w' : World), Below w.heap.size w w' → ∀ x, 0 ≤ x → x ≤ 18446744073709551615 → Calls Try.prog 27 #[.agg #[.int .i64 c.nodes, .int .i64 c.slots, .int .i64 c.holders, .int .u32 c.tag], vw, .int .u64 x] w' (ChainV w' (chainL c ws x))) :=
    fun w' hb x h0 h1 => chain_any c (HI.out.below hb) hz hl x h0 h1
  obtain ⟨aw, cw, rfl, hfw⟩ := form hw
  have HFT := Lib.hid (fun w => fits_any c aw ws.length cw w)
  have HF := Lib.hid hfw
  have HFIT := Lib.hid hz
  have hbad := fun h => stack_bad (c := c) (ws := ws) h
  have hcn : Ok c → cellsN c = 2 + 2 * c.nodes + c.slots + c.holders := fun h => by simp [cellsN, h]
  have hokn : Ok c → (1 ≤ c.nodes ∧ c.nodes ≤ 64 ∧ 0 ≤ c.slots ∧ c.slots ≤ 16 ∧ 0 ≤ c.holders ∧ c.holders ≤ 64) := id
  have hvp : Ok c → ∀ i, 1 ≤ i → i ≤ c.nodes → valueP c i = 2 * i + 1 := fun h i h1 h2 => by simp [valueP, h, h1, h2]
  have hst : stackL c ws = (chainL c ws (nth ws 0)).map fun l => l.reverse.map fun i => nth ws (2 * i + 1).toNat := rfl
  have hmem := fun l => chain_mem (c := c) (ws := ws) (x := nth ws 0) (l := l)
  have hlen := fun l => chain_len (c := c) (ws := ws) (x := nth ws 0) (l := l)
  clear hw hfw hz
  obtain ⟨R, hR⟩ : ∃ R, stackL c ws = R := ⟨_, rfl⟩
  rw [hR] at hbad hst ⊢
  clear hR
  by_cases hyes : Ok c ∧ (ws.length : Int) = cellsN c
  · have hfb : fitB c ws.length = true := by simp [fitB, hyes]
    rw [hfb] at HFT
    obtain ⟨hok, hlenN⟩ := hyes
    have hcn := hcn hok
    have hokn := hokn hok
    have hvp := hvp hok
    clear hbad hok hfb
    obtain ⟨Q, hQ⟩ : ∃ Q, chainL c ws (nth ws 0) = Q := ⟨_, rfl⟩
    have HCH0 : Hid (∀ (w' : World), Below w.heap.size w w' → Calls Try.prog 27 #[.agg #[.int .i64 c.nodes, .int .i64 c.slots, .int .i64 c.holders, .int .u32 c.tag], .slice aw ws.length cw, .int .u64 (nth ws 0)] w' (ChainV w' Q)) := fun w' hb => by
      rw [← hQ]
      exact HCH.out w' hb _ (nth_u64 HFIT.out 0).1 (nth_u64 HFIT.out 0).2
    rw [hQ] at hst
    simp only [hQ] at hmem hlen
    obtain ⟨n, s, h, t⟩ := c
    dsimp only at HFT HVA HCH0 hcn hokn hvp hmem ⊢
    obtain ⟨b1, b2, b3, b4, b5, b6⟩ := hokn
    have hlen2 : 2 + 2 * n ≤ (ws.length : Int) := by omega
    obtain ⟨hcw1, hcw2, bw, ow, rfl, hbw, hcw⟩ := HF.out (by omega)
    have HBW := Lib.hid hbw
    have HCW := Lib.hid hcw
    have HVP := Lib.hid hvp; have HLEN := Lib.hid hlen2; have HMEM := Lib.hid hmem; have HLL := Lib.hid hlen; have HST := Lib.hid hst
    have hw0 : 0 < ws.length := by omega
    obtain ⟨x0, hx0⟩ : ∃ x0, nth ws 0 = x0 := ⟨_, rfl⟩
    have HX0 := Lib.hid (hcw 0 hw0)
    rw [hx0, Nat.add_zero] at HX0
    rw [hx0] at HCH0
    have hi0 : (0 : Int) < (ws.length : Int) := by omega
    have hmkr := fun k => run_make_row' (P := Try.prog) 28 43 (.int .u64 0) 8 Try.underlying28 info64 rfl .i64 .i64 k
    clear hvp hmem hlen hst hcn hlenN hlen2 hQ hx0 hcw hbw HCH HI HF
    go_enter Try.func29, Try.ntmps29
    go_wp2_with fail
    refine (HFT.out _).mono ?_
    rintro e w2 ⟨rfl, hb⟩
    obtain ⟨hb1, c0, c1, c2, c3⟩ := boxed hb
    have HB2 := Lib.hid hb1
    have HLT2 : Hid (w.heap.size < w2.heap.size) := Nat.lt_of_lt_of_le (by simp) hb.size
    have HD0 := Lib.hid c0; have HD1 := Lib.hid c1; have HD2 := Lib.hid c2; have HD3 := Lib.hid c3
    have e0 := (HB2.out.cell (p := ⟨bw, ow, none⟩) HBW.out).trans HX0.out
    clear hb hb1
    go_wp2_with fail
    go_region_held3 (fun w' => w'.cell? ⟨w.heap.size, 0, none⟩ = some (.int .i64 n) ∧ w'.cell? ⟨w.heap.size, 1, none⟩ = some (.int .i64 s) ∧ w'.cell? ⟨w.heap.size, 2, none⟩ = some (.int .i64 h) ∧ w'.cell? ⟨w.heap.size, 3, none⟩ = some (.int .u32 t) ∧ w'.cell? ⟨bw, ow, none⟩ = some (.int .u64 x0)) (go_keep) ((go_at_call 27; (refine (HCH0.out _ HB2.out.drew).mono ?_); rintro e w3 ⟨lv, rfl, hlv, hb⟩; (have HB3 := Lib.hid (below_trans HB2.out.drew hb)); (have HLV := Lib.hid hlv); (have HK3 : Hid (Below w2.heap.size w2 w3) := below_trans ((Below.refl w2.heap.size w2).drew) hb); (have d0 := (HK3.out.cell (p := ⟨w.heap.size, 0, none⟩) HLT2.out).trans HD0.out); (have d1 := (HK3.out.cell (p := ⟨w.heap.size, 1, none⟩) HLT2.out).trans HD1.out); (have d2 := (HK3.out.cell (p := ⟨w.heap.size, 2, none⟩) HLT2.out).trans HD2.out); (have d3 := (HK3.out.cell (p := ⟨w.heap.size, 3, none⟩) HLT2.out).trans HD3.out); (have e0 := (HB3.out.cell (p := ⟨bw, ow, none⟩) HBW.out).trans HX0.out); clear hb hlv))
    cases Q with
    | none =>
      have HR : Hid (R = none) := HST.out
      clear HCH0 HMEM HLL HST d0 d1 d2 d3 e0
      simp only [Option.isSome_none] at *
      go_wp2_with fail
      go_ret2
      rw [HR.out]
      exact ⟨_, rfl, .inl ⟨rfl, none, 0, rfl⟩, HB3.out⟩
    | some L =>
      have HR : Hid (R = some (valsR ws L L.length)) := by
        unfold Hid
        rw [HST.out]
        unfold valsR
        rw [List.take_of_length_le (by simp)]
        rfl
      have HLM : Hid (∀ i ∈ L, 1 ≤ i ∧ i ≤ n) := HMEM.out L rfl
      have hLl : L.length ≤ 64 := HLL.out L rfl
      simp only [Option.isSome_some, Option.getD_some] at HLV ⊢
      obtain ⟨al, cl, rfl, hfl⟩ := form HLV.out
      have HFL := Lib.hid hfl
      have HLT3 : Hid (w.heap.size < w3.heap.size) := Nat.lt_of_lt_of_le HLT2.out HK3.out.size
      have HG0 := Lib.hid d0; have HG1 := Lib.hid d1; have HG2 := Lib.hid d2; have HG3 := Lib.hid d3
      have hmk := hmkr L.length (by omega) (by omega)
      have hwl : IntKind.i64.wrap ((L.length : Int) - 1) = (L.length : Int) - 1 := IntWalk.i64_in _ (by omega)
      have HRW : Hid ((w3.alloc (.cells (madeCells #[.int .u64 0] L.length) 43)).heap[w3.heap.size]? = some (.cells (rowA .u64 (valsE ws L 0)) 43 (0, 0))) := by
        rw [valsE_none, ← rowA_made]
        exact heap_alloc_new w3 _
      have HK4 : Hid (Below w3.heap.size w3 (w3.alloc (.cells (madeCells #[.int .u64 0] L.length) 43))) := (Below.refl _ _).alloc (Nat.le_refl _) _
      clear HCH0 HMEM HLL HST d0 d1 d2 d3 e0 hfl hmkr
      go_wp2_with fail
      go_loopw [31] (fun iv wr => ∃ d : Nat, iv = .int .i64 (d : Int) ∧ d ≤ L.length ∧ Hid (wr.heap[w3.heap.size]? = some (.cells (rowA .u64 (valsE ws L d)) 43 (0, 0))) ∧ Hid (Below w3.heap.size w3 wr)) (fun iv _ => L.length - (intOf iv).toNat)
      case atStart => exact ⟨0, rfl, Nat.zero_le _, HRW.out, HK4.out⟩
      case round =>
        obtain ⟨d, rfl, hd, HO, HK⟩ := hrel
        by_cases hlt : d < L.length
        · skip
          obtain ⟨_, _, gl, ol, rfl, hgl, hcl⟩ := HFL.out (by omega)
          have HGL := Lib.hid hgl
          obtain ⟨y, hy⟩ : ∃ y, nth L d = y := ⟨_, rfl⟩
          have HCL := Lib.hid (hcl d hlt)
          rw [hy] at HCL
          obtain ⟨y1, y2⟩ := HLM.out y (by rw [← hy]; exact nth_mem hlt)
          have y0 : 0 ≤ y := by omega
          have y3 : y ≤ 4294967295 := by omega
          obtain ⟨m, hm⟩ : ∃ m : Nat, 2 * y + 1 = m := ⟨(2 * y + 1).toNat, by omega⟩
          have HM : Hid (valueP ⟨n, s, h, t⟩ y = (m : Int)) := by rw [← hm]; exact HVP.out y y1 y2
          have hml : m < ws.length := by have := HLEN.out; omega
          obtain ⟨x, hx⟩ : ∃ x, nth ws m = x := ⟨_, rfl⟩
          have HXW := Lib.hid (HCW.out m hml)
          rw [hx] at HXW
          obtain ⟨k, hk⟩ : ∃ k : Nat, L.length - 1 - d = k := ⟨_, rfl⟩
          have HN : Hid ((valsE ws L d).set k x = valsE ws L (d + 1)) := by
            unfold Hid
            rw [← valsE_set hlt, hy, hm, hk, ← hx]
            rfl
          have hlv := valsE_len ws L d hd
          have hkl : k < (valsE ws L d).length := by omega
          have hkI : (L.length : Int) - 1 - (d : Int) = (k : Int) := by omega
          have hwk : IntKind.i64.wrap ((L.length : Int) - 1 - (d : Int)) = (k : Int) := by rw [hkI]; exact IntWalk.i64_in _ (by omega)
          have hwd : IntKind.i64.wrap ((d : Int) + 1) = (d : Int) + 1 := IntWalk.i64_in _ (by omega)
          have hi1 : (0 : Int) ≤ (d : Int) := by omega
          have hi2 : (d : Int) < (L.length : Int) := by omega
          have hi3 : (0 : Int) ≤ (m : Int) := by omega
          have hi4 : (m : Int) < (ws.length : Int) := by omega
          have hi5 : (0 : Int) ≤ (k : Int) := by omega
          have hi6 : (k : Int) < (L.length : Int) := by omega
          have HKL := Lib.hid hkl
          have hgs : w3.heap.size < wr.heap.size := (Array.getElem?_eq_some_iff.1 HO.out).1
          have HGS := Lib.hid hgs
          have d0 := (HK.out.cell (p := ⟨w.heap.size, 0, none⟩) HLT3.out).trans HG0.out
          have d1 := (HK.out.cell (p := ⟨w.heap.size, 1, none⟩) HLT3.out).trans HG1.out
          have d2 := (HK.out.cell (p := ⟨w.heap.size, 2, none⟩) HLT3.out).trans HG2.out
          have d3 := (HK.out.cell (p := ⟨w.heap.size, 3, none⟩) HLT3.out).trans HG3.out
          have d4 := (HK.out.cell (p := ⟨gl, ol + d, none⟩) HGL.out).trans HCL.out
          have HV := Lib.hid (fun w => HVA.out y y0 y3 w)
          clear hcl hy hm hx hk hgl hlv hkl hkI hgs
          go_wp2_with fail
          refine (HV.out _).mono ?_
          rintro e w5 ⟨rfl, hb⟩
          rw [HM.out]
          have HK5 := Lib.hid (below_trans HK.out hb)
          have HO5 : Hid (w5.heap[w3.heap.size]? = some (.cells (rowA .u64 (valsE ws L d)) 43 (0, 0))) := (hb.block _ HGS.out).trans HO.out
          have d5 := ((below_trans HB3.out HK5.out).cell (p := ⟨bw, ow + m, none⟩) HBW.out).trans HXW.out
          have d6 := rowA_cell HO5.out HKL.out
          have d7 := rowA_froz HO5.out k
          have HO6 := Lib.hid (rowA_store HO5.out k x)
          rw [HN.out] at HO6
          have HK6 : Hid (Below w3.heap.size w3 (w5.setCell ⟨w3.heap.size, k, none⟩ (.int .u64 x))) := HK5.out.setCell (p := ⟨w3.heap.size, k, none⟩) (Nat.le_refl _) _
          clear hb d0 d1 d2 d3 d4
          go_wp2_with fail
          go_roundw
          case rel => exact ⟨d + 1, by go_num, by omega, HO6.out, HK6.out⟩
          case measure => simp [intOf]; omega
        · have hdl : d = L.length := by omega
          have hge : ¬ (d : Int) < (L.length : Int) := by omega
          have HOL : Hid (Own wr w3.heap.size 43 .u64 (.slice (some ⟨w3.heap.size, 0, none⟩) L.length L.length) (valsR ws L L.length)) := by
            have h1 := HO.out
            rw [hdl, valsE_all] at h1
            have h2 := rowA_own h1 (Nat.le_refl _) (by rw [valsR_len ws L L.length (Nat.le_refl _)]; simp [maxLen]; omega)
            rwa [valsR_len ws L L.length (Nat.le_refl _)] at h2
          go_wp2_with fail
          go_ret2
          rw [HR.out]
          exact ⟨_, rfl, HOL.out.ints, below_trans HB3.out HK.out⟩
  · have hfb : fitB c ws.length = false := by simp only [fitB, hyes, decide_false]
    rw [hfb] at HFT
    have HR := Lib.hid (hbad (by
      by_cases h : Ok c
      · exact .inr (fun h2 => hyes ⟨h, h2⟩)
      · exact .inl h))
    clear hbad hvp hst hmem hlen hcn hokn hfb hyes HCH HI
    obtain ⟨n, s, h, t⟩ := c
    dsimp only at HFT HVA ⊢
    go_enter Try.func29, Try.ntmps29
    go_wp2_with fail
    refine (HFT.out _).mono ?_
    rintro e w1 ⟨rfl, hb⟩
    have HB := Lib.hid (boxed hb).1
    clear hb
    go_wp2_with fail
    go_ret2
    rw [HR.out]
    exact ⟨_, rfl, .inl ⟨rfl, none, 0, rfl⟩, HB.out⟩
end Go.Proofs.Ytcacahokdnpboaa.ly
