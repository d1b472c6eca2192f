/- Package layout, on: the lists that words make, the stack's values, the fresh words; over this seat's program. -/
import Derived.Test.YtcacahokdnpboaaLayP
import Derived.Test.YtcacahokdnpboaaPack
import Derived.Test.YtcacahokdnpboaaKept
namespace Go.Proofs.Ytcacahokdnpboaa.ly
open Go.ChangeShapes Go.WideShapes Go.ChangeAt Go.RowKit frame lift sep own join
set_option linter.unusedVariables false
def fitB (c : Cf) (l : Nat) : Bool := decide (Ok c ∧ (l : Int) = cellsN c)
theorem fits_any (c : Cf) (a : Option Addr) (l cp : Nat) (w : World) : Calls Try.prog 40 #[.agg #[.int .i64 c.nodes, .int .i64 c.slots, .int .i64 c.holders, .int .u32 c.tag], .slice a l cp] w fun e w' => e = .returned (.bool (fitB c l)) ∧ Below w.heap.size w w' := by
  have HC := Lib.hid (fun w => check_any c w)
  have HCE := Lib.hid (fun w => cells_any c w)
  have hcase := checkE_is c
  obtain ⟨B, hB⟩ : ∃ B, fitB c l = B := ⟨_, rfl⟩
  rw [hB]
  obtain ⟨N, hN⟩ : ∃ N, cellsN c = N := ⟨_, rfl⟩
  simp only [hN] at HCE
  have hB2 : B = decide (Ok c ∧ (l : Int) = N) := by rw [← hB, ← hN]; rfl
  clear hB hN
  rcases hcase with ⟨hok, hE⟩ | ⟨hok, hE⟩
  · have HR : Hid (B = ((l : Int) == N)) := by
      unfold Hid
      rw [hB2]
      by_cases h : (l : Int) = N <;> simp [h, hok]
    obtain ⟨n, s, h, t⟩ := c
    dsimp only at HC HCE hE ⊢
    have HE := Lib.hid hE
    clear hE hok hB2
    go_enter Try.func40, Try.ntmps40
    go_wp2_with fail
    refine (HC.out _).mono ?_
    rintro e w1 ⟨rfl, hb⟩
    rw [HE.out]
    obtain ⟨hb1, c0, c1, c2, c3⟩ := boxed hb
    have HB := Lib.hid hb1
    clear hb hb1
    go_wp2_with fail
    refine (HCE.out _).mono ?_
    rintro e w2 ⟨rfl, hb⟩
    have HB2 := Lib.hid (below_trans HB.out hb)
    clear hb c0 c1 c2 c3
    go_wp2_with fail
    go_ret
    rw [HR.out]
    exact ⟨rfl, HB2.out⟩
  · have HR : Hid (B = false) := by
      unfold Hid
      rw [hB2]
      simp [hok]
    obtain ⟨n, s, h, t⟩ := c
    dsimp only at HC HCE hE ⊢
    have HE := Lib.hid hE
    clear hE hok hB2
    go_enter Try.func40, Try.ntmps40
    go_wp2_with fail
    refine (HC.out _).mono ?_
    rintro e w1 ⟨rfl, hb⟩
    rw [HE.out]
    have HB := Lib.hid (boxed hb).1
    clear hb
    go_wp2_with fail
    go_ret
    rw [HR.out]
    exact ⟨rfl, HB.out⟩
/-- Which nodes a list has. -/
def hadA (out : List Int) : Array Value := Array.ofFn (n := 65) fun j => .bool (decide ((j.val : Int) ∈ out))
theorem hadA_at {out : List Int} {m : Nat} (h : m < 65) : (hadA out)[m]? = some (.bool (decide ((m : Int) ∈ out))) := by
  unfold hadA
  rw [Array.getElem?_ofFn, dif_pos h]
theorem hadA_set {out : List Int} {m : Nat} (h : m < 65) : (hadA out).setIfInBounds m (.bool true) = hadA (out ++ [(m : Int)]) := by
  apply Array.ext_getElem?
  intro i
  rw [Array.getElem?_setIfInBounds]
  by_cases hi : m = i
  · subst hi
    rw [if_pos rfl, if_pos (by simpa [hadA] using h), hadA_at h]
    simp
  · rw [if_neg hi]
    by_cases h2 : i < 65
    · rw [hadA_at h2, hadA_at h2]
      have : ¬ (i : Int) = (m : Int) := by omega
      simp [this]
    · have e : ∀ o, (hadA o)[i]? = none := fun o => Array.getElem?_eq_none (by simp [hadA]; omega)
      rw [e, e]
theorem zero65 (w : World) : Sem.run Try.prog (zeroValue 65) w = .ok (.agg (hadA [])) w := by kernel_rfl
theorem own_set {w : World} {B g j : Nat} {e : TypeId} {k : IntKind} {v u : Value} {l : List Int} (h : Own w B e k v l) (hg : g < B) : Own (w.setCell ⟨g, j, none⟩ u) B e k v l := by
  obtain ⟨h1, h2 | ⟨g', cap, cur, hv, hg', hh, hn, hc, hs, ht⟩⟩ := h
  · exact ⟨h1, .inl h2⟩
  · exact ⟨h1, .inr ⟨g', cap, cur, hv, hg', by rw [Below.heap_setCell _ _ _ _ (by simp; omega)]; exact hh, hn, hc, hs, ht⟩⟩
set_option maxRecDepth 100000 in
set_option maxHeartbeats 8000000 in
theorem chain_any (c : Cf) {w : World} {vw : Value} {ws : List Int} (hw : Ints w .u64 vw ws) (hz : Fit .u64 ws) (hl : ws.length ≤ 1000000) (x : Int) (x0 : 0 ≤ x) (x1 : x ≤ 18446744073709551615) :
    Calls Try.prog 27 #[.agg #[.int .i64 c.nodes, .int .i64 c.slots, .int .i64 c.holders, .int .u32 c.tag], vw, .int .u64 x] w (ChainV w (chainL c ws x)) := by
  have HI := Lib.hid hw
  obtain ⟨aw, cw, rfl, hfw⟩ := form hw
  have HFT := Lib.hid (fun w => fits_any c aw ws.length cw w)
  have HNX := Lib.hid (fun i h0 h1 w => next_any c i h0 h1 w)
  have HF := Lib.hid hfw
  have HFIT := Lib.hid hz
  have hbad := fun h => chain_bad (c := c) (ws := ws) (x := x) h
  have hiff := fun h1 h2 => fun l => (chain_iff (c := c) (ws := ws) (w := x) h1 h2 l)
  have hnone := fun h1 h2 => (chain_none (c := c) (ws := ws) (w := x) h1 h2)
  have hcn : Ok c → cellsN c = 2 + 2 * c.nodes + c.slots + c.holders := fun h => by simp [cellsN, h]
  have hokn : Ok c → (1 ≤ c.nodes ∧ c.nodes ≤ 64 ∧ 0 ≤ c.slots ∧ c.slots ≤ 16 ∧ 0 ≤ c.holders ∧ c.holders ≤ 64) := id
  have hnp : Ok c → ∀ i, 1 ≤ i → i ≤ c.nodes → nextP c i = 2 * i := fun h i h1 h2 => by simp [nextP, h, h1, h2]
  clear hw hfw hz
  obtain ⟨R, hR⟩ : ∃ R, chainL c ws x = R := ⟨_, rfl⟩
  rw [hR] at hbad ⊢
  simp only [hR] at hiff hnone
  clear hR
  by_cases hyes : Ok c ∧ (ws.length : Int) = cellsN c
  · have hfb : fitB c ws.length = true := by simp [fitB, hyes]
    rw [hfb] at HFT
    obtain ⟨hok, hlen⟩ := hyes
    have hiff := hiff hok hlen
    have hnone := hnone hok hlen
    have hcn := hcn hok
    have hokn := hokn hok
    have hnp := hnp hok
    clear hbad hok hfb
    obtain ⟨n, s, h, t⟩ := c
    dsimp only at HFT HNX hcn hokn hnp hiff hnone ⊢
    obtain ⟨b1, b2, b3, b4, b5, b6⟩ := hokn
    have HIFF := Lib.hid hiff; have HNONE := Lib.hid hnone; have HNP := Lib.hid hnp
    have hlen2 : 2 + 2 * n ≤ (ws.length : Int) := by omega
    obtain ⟨i0, hi0⟩ : ∃ i0, x % 4294967296 = i0 := ⟨_, rfl⟩
    have hib : 0 ≤ i0 ∧ i0 ≤ 4294967295 := by omega
    obtain ⟨hib0, hib1⟩ := hib
    have hwn : IntKind.u32.wrap n = n := by rw [IntKind.wrap_u32]; omega
    have HIX := Lib.hid (fun w => pk.index_any x x0 x1 w)
    rw [hi0] at HIX
    simp only [hi0] at HIFF HNONE
    have hz65 := zero65
    have HLEN := Lib.hid hlen2
    clear hiff hnone hnp hcn hlen hlen2
    go_enter Try.func27, Try.ntmps27
    go_wp2_with fail
    refine (HFT.out _).mono ?_
    rintro e w1 ⟨rfl, hb⟩
    obtain ⟨hb1, c0, c1, c2, c3⟩ := boxed hb
    have HB := Lib.hid hb1
    have hlt : w.heap.size < w1.heap.size := Nat.lt_of_lt_of_le (by simp) hb.size
    have HLT := Lib.hid hlt
    have HC0 := Lib.hid c0; have HC1 := Lib.hid c1; have HC2 := Lib.hid c2; have HC3 := Lib.hid c3
    clear hb hb1 hlt
    go_wp2_with fail
    refine (HIX.out _).mono ?_
    rintro e w2 ⟨rfl, hb⟩
    have HK2 : Hid (Below w1.heap.size w1 w2) := below_trans ((Below.refl _ _).alloc (Nat.le_refl _) _) hb
    have HG2 : Hid (w2.heap[w1.heap.size]? = some (.cells (hadA []) 65 (0, 0))) := (hb.block _ (by simp)).trans (heap_alloc_new w1 _)
    have HS2 : Hid (w1.heap.size + 1 ≤ w2.heap.size) := Nat.le_trans (by simp) hb.size
    clear hb c0 c1 c2 c3
    go_wp2_with fail
    go_loopw [8, 10] (fun nv iv wr => ∃ (out : List Int) (i : Int) (vv : Value), nv = vv ∧ iv = .int .u32 i ∧ 0 ≤ i ∧ i ≤ 4294967295 ∧ Hid (Came n ws i0 out i) ∧ Hid (Own wr (w1.heap.size + 1) 22 .u32 vv out) ∧ Hid (wr.heap[w1.heap.size]? = some (.cells (hadA out) 65 (0, 0))) ∧ Hid (Below w1.heap.size w1 wr)) (fun nv _ _ => 65 - lenV nv)
    case atStart => exact ⟨[], i0, _, rfl, rfl, hib0, hib1, .here, ⟨rfl, .inl ⟨rfl, rfl⟩⟩, HG2.out, HK2.out⟩
    case round =>
      obtain ⟨out, i, vv, hvv, rfl, ib0, ib1, HCM, HO, HG, HK⟩ := hrel
      have hv2 := hvv.symm
      clear hvv
      subst hv2
      obtain ⟨av, cv, rfl, _, _⟩ := Own.form HO.out
      have hol := HCM.out.len (by omega)
      by_cases h0 : i = 0
      · subst h0
        have HR : Hid (R = some out) := (HIFF.out out).2 HCM.out.done
        go_wp2_with fail
        go_ret2
        rw [HR.out]
        exact ⟨_, rfl, HO.out.ints, below_trans HB.out HK.out⟩
      · have hn0 : (i != 0) = true := by simpa using h0
        have d0 := (HK.out.cell (p := ⟨w.heap.size, 0, none⟩) HLT.out).trans HC0.out
        have d1 := (HK.out.cell (p := ⟨w.heap.size, 1, none⟩) HLT.out).trans HC1.out
        have d2 := (HK.out.cell (p := ⟨w.heap.size, 2, none⟩) HLT.out).trans HC2.out
        have d3 := (HK.out.cell (p := ⟨w.heap.size, 3, none⟩) HLT.out).trans HC3.out
        by_cases hin : n < i
        · have HR : Hid (R = none) := HNONE.out (fun m => HCM.out.off h0 hin m)
          go_wp2_with fail
          go_ret2
          rw [HR.out]
          exact ⟨_, rfl, .inl ⟨rfl, none, 0, rfl⟩, below_trans HB.out HK.out⟩
        · obtain ⟨m, hmi⟩ : ∃ m : Nat, i = (m : Int) := ⟨i.toNat, by omega⟩
          subst hmi
          have hm65 : m < 65 := by omega
          have hm0 : (0 : Int) ≤ (m : Int) := by omega
          have hm1 : (m : Int) < 65 := by omega
          have hgt : ¬ n < (m : Int) := hin
          have e0 := (cell_of_row wr w1.heap.size m _ _ _ HG.out).trans (hadA_at hm65)
          have hz0 := frozen_of_row wr w1.heap.size m _ _ HG.out
          by_cases hmem : (m : Int) ∈ out
          · have hd : decide ((m : Int) ∈ out) = true := by simpa using hmem
            rw [hd] at e0
            have HR : Hid (R = none) := HNONE.out (fun m => HCM.out.again hmem m)
            clear hd
            go_wp2_with fail
            go_ret2
            rw [HR.out]
            exact ⟨_, rfl, .inl ⟨rfl, none, 0, rfl⟩, below_trans HB.out HK.out⟩
          · have hd : decide ((m : Int) ∈ out) = false := by simpa using hmem
            rw [hd] at e0
            have hi1 : 1 ≤ (m : Int) := by omega
            have hin2 : (m : Int) ≤ n := by omega
            have HCN := Lib.hid (HCM.out.next hi1 hin2 hmem)
            have hol2 := HCN.out.len (by omega)
            obtain ⟨q, hq⟩ : ∃ q : Nat, 2 * (m : Int) = q := ⟨(2 * (m : Int)).toNat, by omega⟩
            have HM : Hid (nextP ⟨n, s, h, t⟩ (m : Int) = (q : Int)) := by rw [← hq]; exact HNP.out _ hi1 hin2
            have hml : q < ws.length := by have := HLEN.out; omega
            have hnx : nx ws (m : Int) = nth ws q % 4294967296 := by
              unfold nx
              rw [hq]
              rfl
            obtain ⟨_, _, bw, ow, rfl, hbw, hcw⟩ := HF.out (by omega)
            have HCW := Lib.hid (hcw q hml)
            have HBW := Lib.hid hbw
            obtain ⟨y0, y1⟩ := nth_u64 HFIT.out q
            obtain ⟨y, hy⟩ : ∃ y, nth ws q = y := ⟨_, rfl⟩
            rw [hy] at y0 y1 HCW hnx
            obtain ⟨z, hz⟩ : ∃ z, y % 4294967296 = z := ⟨_, rfl⟩
            have hzb : 0 ≤ z ∧ z ≤ 4294967295 := by omega
            obtain ⟨zb0, zb1⟩ := hzb
            have HIY := Lib.hid (fun w => pk.index_any y y0 y1 w)
            rw [hz] at hnx HIY
            rw [hnx] at HCN
            have hq0 : (0 : Int) ≤ (q : Int) := by omega
            have hq1 : (q : Int) < (ws.length : Int) := by omega
            have HNX2 := Lib.hid (fun w => HNX.out (m : Int) ib0 ib1 w)
            have HO1 : Hid (Own (wr.setCell ⟨w1.heap.size, m, none⟩ (.bool true)) (w1.heap.size + 1) 22 .u32 (.slice av out.length cv) out) := own_set HO.out (Nat.lt_succ_self _)
            have hszr : (wr.setCell ⟨w1.heap.size, m, none⟩ (.bool true)).heap.size = wr.heap.size := by simp
            have hgs : w1.heap.size < wr.heap.size := (Array.getElem?_eq_some_iff.1 HG.out).1
            have HG1 : Hid ((wr.setCell ⟨w1.heap.size, m, none⟩ (.bool true)).heap[w1.heap.size]? = some (.cells (hadA (out ++ [(m : Int)])) 65 (0, 0))) := by
              have h1 := heap_setCell_same wr w1.heap.size m _ _ (.bool true) HG.out
              rw [hadA_set hm65] at h1
              exact h1
            have HK1 : Hid (Below w1.heap.size w1 (wr.setCell ⟨w1.heap.size, m, none⟩ (.bool true))) := HK.out.setCell (p := ⟨w1.heap.size, m, none⟩) (Nat.le_refl _) _
            have HSZ := Lib.hid hszr; have HGS := Lib.hid hgs
            clear hnx hcw hbw hy hz hq hd hmem HNX hgs hszr
            go_wp2_with (at_builtin; refine wpList_push _ rfl _ _ 44 rfl (w1.heap.size + 1) 22 .u32 (.int .u32 0) 4 Try.underlying44 info32 rfl _ out (m : Int) rfl (HO1.out.alloc _) ⟨wr.heap.size, 0, none⟩ 1 rfl ?c1 ?c2 (by decide) ?c4 ?_)
            case c2 => omega
            case c4 => have h1 := HGS.out; simp; omega
            intro v6 w6 hown hgrow
            have HK6 := Lib.hid (below_grown (HK1.out.alloc HK1.out.size _) hgrow (HO1.out.alloc _) (Nat.le_succ _))
            have HO6 := Lib.hid hown
            have HG6 : Hid (w6.heap[w1.heap.size]? = some (.cells (hadA (out ++ [(m : Int)])) 65 (0, 0))) := ((grown_below hgrow (HO1.out.alloc _) (by have h1 := HGS.out; simp; omega)).block _ (Nat.lt_succ_self _)).trans ((((Below.refl _ _).alloc (Nat.le_refl _) _).block _ (by rw [HSZ.out]; exact HGS.out)).trans HG1.out)
            have f0 := (HK6.out.cell (p := ⟨w.heap.size, 0, none⟩) HLT.out).trans HC0.out
            have f1 := (HK6.out.cell (p := ⟨w.heap.size, 1, none⟩) HLT.out).trans HC1.out
            have f2 := (HK6.out.cell (p := ⟨w.heap.size, 2, none⟩) HLT.out).trans HC2.out
            have f3 := (HK6.out.cell (p := ⟨w.heap.size, 3, none⟩) HLT.out).trans HC3.out
            have hgs6 : w1.heap.size < w6.heap.size := (Array.getElem?_eq_some_iff.1 HG6.out).1
            have HGS6 := Lib.hid hgs6
            obtain ⟨a6, c6, rfl, _, _⟩ := Own.form hown
            clear hown hgrow d0 d1 d2 d3 e0 hz0 hgs6
            go_wp2_with fail
            refine (HNX2.out _).mono ?_
            rintro e w7 ⟨rfl, hb⟩
            rw [HM.out]
            have HK7 := Lib.hid (below_trans HK6.out hb)
            have HO7 := Lib.hid (HO6.out.below hb)
            have HG7 := Lib.hid ((hb.block _ HGS6.out).trans HG6.out)
            have e7 := ((below_trans HB.out HK7.out).cell (p := ⟨bw, ow + q, none⟩) HBW.out).trans HCW.out
            have HGS7 := Lib.hid (Nat.lt_of_lt_of_le HGS6.out hb.size)
            clear hb f0 f1 f2 f3
            go_wp2_with fail
            refine (HIY.out _).mono ?_
            rintro e w8 ⟨rfl, hb⟩
            have HK8 := Lib.hid (below_trans HK7.out hb)
            have HO8 := Lib.hid (HO7.out.below hb)
            have HG8 := Lib.hid ((hb.block _ HGS7.out).trans HG7.out)
            clear hb e7
            go_wp2_with fail
            go_roundw
            case rel => exact ⟨out ++ [(m : Int)], z, _, rfl, rfl, zb0, zb1, HCN.out, by unfold Hid; simpa using HO8.out, HG8.out, HK8.out⟩
            case measure =>
              simp at hol2
              simp [lenV]
              omega
  · have hfb : fitB c ws.length = false := by simp only [fitB, hyes, decide_false]
    rw [hfb] at HFT
    have HR := Lib.hid (hbad (by
      by_cases h : Ok c
      · exact .inr (fun h2 => hyes ⟨h, h2⟩)
      · exact .inl h))
    clear hbad hiff hnone hnp hcn hokn hfb hyes
    obtain ⟨n, s, h, t⟩ := c
    dsimp only at HFT HNX ⊢
    go_enter Try.func27, Try.ntmps27
    go_wp2_with fail
    refine (HFT.out _).mono ?_
    rintro e w1 ⟨rfl, hb⟩
    have HB := Lib.hid (boxed hb).1
    clear hb
    go_wp2_with fail
    go_ret2
    rw [HR.out]
    exact ⟨_, rfl, .inl ⟨rfl, none, 0, rfl⟩, HB.out⟩
end Go.Proofs.Ytcacahokdnpboaa.ly
