/- Package layout, on: the fresh words; over this seat's program. With it all nine contracts of the package stand. -/
import Derived.Test.YtcacahokdnpboaaLayK
namespace Go.Proofs.Ytcacahokdnpboaa.ly
open Go.ChangeShapes Go.WideShapes Go.ChangeAt Go.RowKit frame lift sep own join
set_option linter.unusedVariables false
/-- A row by what each place holds. -/
def tell (N : Nat) (f : Nat → Int) : List Int := (List.range N).map f
theorem tell_len (N : Nat) (f : Nat → Int) : (tell N f).length = N := by simp [tell]
theorem tell_set {N : Nat} {f g : Nat → Int} (q : Nat) (x : Int) (h1 : q < N → g q = x) (h2 : ∀ p, p < N → p ≠ q → g p = f p) : (tell N f).set q x = tell N g := by
  apply List.ext_getElem?
  intro p
  unfold tell
  rw [List.getElem?_set]
  by_cases hp : p < N
  · by_cases hq : q = p
    · subst hq
      simp [hp, h1 hp]
    · simp [hq, hp, h2 p hp (fun e => hq e.symm)]
  · by_cases hq : q = p <;> simp [hq, hp]
theorem tell_same {N : Nat} {f g : Nat → Int} (h : ∀ p, p < N → g p = f p) : tell N f = tell N g := by
  unfold tell
  exact List.map_congr_left fun p hp => (h p (by simpa using hp)).symm
theorem tell_zero (N : Nat) : List.replicate N 0 = tell N (fun _ => 0) := by
  apply List.ext_getElem?
  intro p
  by_cases hp : p < N <;> simp [tell, hp]
/-- The words, so many nodes laid. -/
def nodesF (w0 w1 : Int) (j p : Nat) : Int := if p = 0 then w0 else if p = 1 then w1 else if p % 2 = 0 ∧ p < 2 + 2 * j then (p : Int) / 2 + 1 else 0
/-- The words, so many slots laid. -/
def slotsF (w0 w1 : Int) (n k p : Nat) : Int := if p < 2 + 2 * n then nodesF w0 w1 (n - 1) p else if p < 2 + 2 * n + k then w0 else 0
theorem slots_all {c : Cf} {n s : Nat} (hn : (n : Int) = c.nodes) (hs : (s : Int) = c.slots) (h1 : 1 ≤ n) (p : Nat) : freshF c p = slotsF (wordP 0 c.tag) (wordP 1 c.tag) n s p := by
  unfold freshF slotsF nodesF
  by_cases p0 : p = 0
  · rw [if_pos p0, if_pos (by omega), if_pos p0]
  rw [if_neg p0]
  by_cases p1 : p = 1
  · rw [if_pos p1, if_pos (by omega), if_neg p0, if_pos p1]
  rw [if_neg p1]
  by_cases h : p < 2 + 2 * n
  · rw [if_pos (by omega), if_pos h, if_neg p0, if_neg p1]
    by_cases h2 : p % 2 = 0
    · rw [if_pos h2]
      by_cases h3 : (p : Int) = 2 * c.nodes
      · rw [if_pos h3, if_neg (by omega)]
      · rw [if_neg h3, if_pos (by omega)]
    · rw [if_neg h2, if_neg (by omega)]
  · rw [if_neg (by omega), if_neg h]
    by_cases h2 : p < 2 + 2 * n + s
    · rw [if_pos (by omega), if_pos h2]
    · rw [if_neg (by omega), if_neg h2]
theorem nodes_last {w0 w1 : Int} {n p : Nat} : slotsF w0 w1 n 0 p = nodesF w0 w1 (n - 1) p ∨ n = 0 := by
  by_cases hn : n = 0
  · exact .inr hn
  · left
    unfold slotsF
    by_cases h : p < 2 + 2 * n
    · rw [if_pos h]
    · rw [if_neg h, if_neg (by omega)]
      unfold nodesF
      rw [if_neg (by omega), if_neg (by omega), if_neg (by omega)]
set_option maxRecDepth 100000 in
set_option maxHeartbeats 8000000 in
theorem fresh_any (c : Cf) (ht : TagOk c) (w : World) : Calls Try.prog 12 #[.agg #[.int .i64 c.nodes, .int .i64 c.slots, .int .i64 c.holders, .int .u32 c.tag]] w fun e w' => Made w (freshL c) e w' (fun t => .tuple #[t, .int .i64 (checkE c)]) := by
  have HC := Lib.hid (fun w => check_any c w)
  have HCE := Lib.hid (fun w => cells_any c w)
  have HNX := Lib.hid (fun i h0 h1 w => next_any c i h0 h1 w)
  have HSL := Lib.hid (fun k w => slot_any c k w)
  have hcase := checkE_is c
  obtain ⟨t0, t1⟩ := ht
  rcases hcase with ⟨hok, hE⟩ | ⟨hok, hE⟩
  · have hcn : cellsN c = 2 + 2 * c.nodes + c.slots + c.holders := by simp [cellsN, hok]
    have hnp : ∀ i, 1 ≤ i → i ≤ c.nodes → nextP c i = 2 * i := fun i h1 h2 => by simp [nextP, hok, h1, h2]
    have hsp : ∀ k, 0 ≤ k → k < c.slots → slotP c k = 2 + 2 * c.nodes + k := fun k h1 h2 => by simp [slotP, hok, h1, h2]
    have hokn : (1 ≤ c.nodes ∧ c.nodes ≤ 64 ∧ 0 ≤ c.slots ∧ c.slots ≤ 16 ∧ 0 ≤ c.holders ∧ c.holders ≤ 64) := hok
    have hall := fun n s => slots_all (c := c) (n := n) (s := s)
    have hfl : freshL c = tell (cellsN c).toNat (freshF c) := rfl
    obtain ⟨Fr, hFr⟩ : ∃ Fr, freshL c = Fr := ⟨_, rfl⟩
    rw [hFr] at hfl ⊢
    rw [hcn] at hfl
    simp only [hcn] at HCE
    obtain ⟨FF, hFF⟩ : ∃ FF, freshF c = FF := ⟨_, rfl⟩
    rw [hFF] at hfl
    simp only [hFF] at hall
    clear hFF hFr hok hcn
    obtain ⟨n, s, h, t⟩ := c
    dsimp only at HC HCE HNX HSL hE hnp hsp hokn hall hfl t0 t1 ⊢
    obtain ⟨b1, b2, b3, b4, b5, b6⟩ := hokn
    obtain ⟨n, rfl⟩ : ∃ n' : Nat, n = n' := ⟨n.toNat, by omega⟩
    obtain ⟨s, rfl⟩ : ∃ n' : Nat, s = n' := ⟨s.toNat, by omega⟩
    obtain ⟨h, rfl⟩ : ∃ n' : Nat, h = n' := ⟨h.toNat, by omega⟩
    obtain ⟨N, hN⟩ : ∃ N : Nat, 2 + 2 * n + s + h = N := ⟨_, rfl⟩
    have hNI : 2 + 2 * (n : Int) + (s : Int) + (h : Int) = (N : Int) := by omega
    rw [hNI] at hfl
    simp only [hNI] at HCE
    rw [Int.toNat_natCast] at hfl
    have hall := fun p => hall n s rfl rfl (by omega) p
    obtain ⟨W0, hW0⟩ : ∃ W0, wordP 0 t = W0 := ⟨_, rfl⟩
    obtain ⟨W1, hW1⟩ : ∃ W1, wordP 1 t = W1 := ⟨_, rfl⟩
    simp only [hW0, hW1] at hall
    have hP0 : Hid (∀ w, Calls Try.prog 34 #[.int .u32 0, .int .u32 t] w fun e w' => e = .returned (.int .u64 W0) ∧ w = w') := fun w => by
      have := pk.word_any 0 t (by decide) (by decide) t0 t1 w
      rw [← hW0]
      unfold wordP
      rwa [Int.mul_comm] at this
    have hP1 : Hid (∀ w, Calls Try.prog 34 #[.int .u32 1, .int .u32 t] w fun e w' => e = .returned (.int .u64 W1) ∧ w = w') := fun w => by
      have := pk.word_any 1 t (by decide) (by decide) t0 t1 w
      rw [← hW1]
      unfold wordP
      rwa [Int.mul_comm] at this
    have HE := Lib.hid hE; have HNP := Lib.hid hnp; have HSP := Lib.hid hsp; have HALL := Lib.hid hall; have HFL := Lib.hid hfl
    obtain ⟨mk, hmk, hmw⟩ : ∃ mk : World → World, (∀ w, (Instr.makeSlice 28 (.int .i64 (N : Int)) (.int .i64 (N : Int))).run Try.prog w = .ok (.slice (some ⟨w.heap.size, 0, none⟩) N N) (mk w)) ∧ ∀ w, mk w = w.alloc (.cells (rowA .u64 (tell N (fun _ => 0))) 43) := ⟨fun w => w.alloc (.cells (madeCells #[.int .u64 0] N) 43), run_make_row' (P := Try.prog) 28 43 (.int .u64 0) 8 Try.underlying28 info64 rfl .i64 .i64 N (by omega) (by omega), fun w => by rw [rowA_made, tell_zero]⟩
    have HMW := Lib.hid hmw
    have HNN := Lib.hid hN
    have hn0 : (0 : Int) < (N : Int) := by omega
    have hn1 : (1 : Int) < (N : Int) := by omega
    clear hE hnp hsp hall hfl hW0 hW1 hN hNI hmw
    go_enter Try.func12, Try.ntmps12
    go_wp2_with fail
    refine (HC.out _).mono ?_
    rintro e w1 ⟨rfl, hb⟩
    rw [HE.out]
    obtain ⟨hb1, c0, c1, c2, c3⟩ := boxed hb
    have HB := Lib.hid hb1
    have HLT : Hid (w.heap.size < w1.heap.size) := Nat.lt_of_lt_of_le (by simp) hb.size
    have HC0 := Lib.hid c0; have HC1 := Lib.hid c1; have HC2 := Lib.hid c2; have HC3 := Lib.hid c3
    clear hb hb1
    go_wp2_with fail
    refine (HCE.out _).mono ?_
    rintro e w2 ⟨rfl, hb⟩
    have HB2 := Lib.hid (below_trans HB.out hb)
    have HLT2 : Hid (w.heap.size < w2.heap.size) := Nat.lt_of_lt_of_le HLT.out hb.size
    have HD0 := Lib.hid ((hb.cell (p := ⟨w.heap.size, 0, none⟩) HLT.out).trans HC0.out)
    have HD1 := Lib.hid ((hb.cell (p := ⟨w.heap.size, 1, none⟩) HLT.out).trans HC1.out)
    have HD2 := Lib.hid ((hb.cell (p := ⟨w.heap.size, 2, none⟩) HLT.out).trans HC2.out)
    have HD3 := Lib.hid ((hb.cell (p := ⟨w.heap.size, 3, none⟩) HLT.out).trans HC3.out)
    have HK3 : Hid (Below w2.heap.size w2 (mk w2)) := by unfold Hid; rw [HMW.out]; exact (Below.refl _ _).alloc (Nat.le_refl _) _
    have HG3 : Hid ((mk w2).heap[w2.heap.size]? = some (.cells (rowA .u64 (tell N (fun _ => 0))) 43 (0, 0))) := by unfold Hid; rw [HMW.out]; exact heap_alloc_new w2 _
    have d0 := (HK3.out.cell (p := ⟨w.heap.size, 0, none⟩) HLT2.out).trans HD0.out
    have d1 := (HK3.out.cell (p := ⟨w.heap.size, 1, none⟩) HLT2.out).trans HD1.out
    have d2 := (HK3.out.cell (p := ⟨w.heap.size, 2, none⟩) HLT2.out).trans HD2.out
    have d3 := (HK3.out.cell (p := ⟨w.heap.size, 3, none⟩) HLT2.out).trans HD3.out
    have e0 := rowA_cell HG3.out (m := 0) (by rw [tell_len]; omega)
    have e1 := rowA_cell HG3.out (m := 1) (by rw [tell_len]; omega)
    have z0 := rowA_froz HG3.out 0
    have z1 := rowA_froz HG3.out 1
    have hne : ¬ w2.heap.size = w.heap.size := by have := HLT2.out; omega
    have hne2 : ¬ w.heap.size = w2.heap.size := by have := HLT2.out; omega
    clear hb c0 c1 c2 c3
    go_wp2_with fail
    refine (hP0.out _).mono ?_
    rintro e w3 ⟨rfl, rfl⟩
    go_wp2_with fail
    refine (hP1.out _).mono ?_
    rintro e w4 ⟨rfl, rfl⟩
    go_wp2_with fail
    have HG4 : Hid ((((mk w2).setCell ⟨w2.heap.size, 0, none⟩ (.int .u64 W0)).setCell ⟨w2.heap.size, 1, none⟩ (.int .u64 W1)).heap[w2.heap.size]? = some (.cells (rowA .u64 (tell N (nodesF W0 W1 0))) 43 (0, 0))) := by
      have h1 := rowA_store (rowA_store HG3.out 0 W0) 1 W1
      rw [tell_set (g := fun p => if p = 0 then W0 else 0) 0 W0 (fun _ => rfl) (fun p _ hp => by simp [hp]), tell_set (g := nodesF W0 W1 0) 1 W1 (fun _ => rfl) (fun p _ hp => by
        unfold nodesF
        by_cases h0 : p = 0
        · simp [h0]
        · rw [if_neg h0, if_neg h0, if_neg hp, if_neg (by omega)])] at h1
      exact h1
    have HK4 : Hid (Below w2.heap.size w2 (((mk w2).setCell ⟨w2.heap.size, 0, none⟩ (.int .u64 W0)).setCell ⟨w2.heap.size, 1, none⟩ (.int .u64 W1))) := (HK3.out.setCell (p := ⟨w2.heap.size, 0, none⟩) (Nat.le_refl _) _).setCell (p := ⟨w2.heap.size, 1, none⟩) (Nat.le_refl _) _
    clear d0 d1 d2 d3 e0 e1 z0 z1 hmk
    go_loopw [6] (fun iv wr => ∃ j : Nat, iv = .int .i64 ((j + 1 : Nat) : Int) ∧ j + 1 ≤ n ∧ Hid (wr.heap[w2.heap.size]? = some (.cells (rowA .u64 (tell N (nodesF W0 W1 j))) 43 (0, 0))) ∧ Hid (Below w2.heap.size w2 wr)) (fun iv _ => n - (intOf iv).toNat)
    case atStart => exact ⟨0, rfl, by omega, HG4.out, HK4.out⟩
    case round =>
      obtain ⟨j, rfl, hj, HO, HK⟩ := hrel
      have d0 := (HK.out.cell (p := ⟨w.heap.size, 0, none⟩) HLT2.out).trans HD0.out
      have d1 := (HK.out.cell (p := ⟨w.heap.size, 1, none⟩) HLT2.out).trans HD1.out
      have d2 := (HK.out.cell (p := ⟨w.heap.size, 2, none⟩) HLT2.out).trans HD2.out
      have d3 := (HK.out.cell (p := ⟨w.heap.size, 3, none⟩) HLT2.out).trans HD3.out
      have hgs : w2.heap.size < wr.heap.size := (Array.getElem?_eq_some_iff.1 HO.out).1
      have HGS := Lib.hid hgs
      clear hgs
      by_cases hlt : j + 1 < n
      · obtain ⟨m, hm⟩ : ∃ m : Nat, 2 * (j + 1) = m := ⟨_, rfl⟩
        have HM : Hid (nextP ⟨n, s, h, t⟩ ((j : Int) + 1) = (m : Int)) := by
          unfold Hid
          rw [HNP.out _ (by omega) (by omega), ← hm]
          push_cast
          rfl
        have hmN : m < N := by have := HNN.out; omega
        have hl1 : (j : Int) + 1 < (n : Int) := by omega
        have hw1 : IntKind.u32.wrap ((j : Int) + 1) = (j : Int) + 1 := by rw [IntKind.wrap_u32]; omega
        have hw2 : IntKind.i64.wrap ((j : Int) + 1 + 1) = (j : Int) + 1 + 1 := IntWalk.i64_in _ (by omega)
        have hw3 : IntKind.u64.wrap ((j : Int) + 1 + 1) = (j : Int) + 1 + 1 := by rw [IntKind.wrap_u64]; omega
        have HV := Lib.hid (fun w => HNX.out ((j : Int) + 1) (by omega) (by omega) w)
        have HST : Hid ((tell N (nodesF W0 W1 j)).set m ((j : Int) + 1 + 1) = tell N (nodesF W0 W1 (j + 1))) := by
          refine tell_set m _ (fun _ => ?_) (fun p _ hp => ?_)
          · unfold nodesF
            rw [if_neg (by omega), if_neg (by omega), if_pos (by omega)]
            omega
          · unfold nodesF
            by_cases p0 : p = 0
            · simp [p0]
            · by_cases p1 : p = 1
              · simp [p1]
              · rw [if_neg p0, if_neg p0, if_neg p1, if_neg p1]
                by_cases h2 : p % 2 = 0 ∧ p < 2 + 2 * j
                · rw [if_pos h2, if_pos (by omega)]
                · rw [if_neg h2, if_neg (by omega)]
        have hi1 : (0 : Int) ≤ (m : Int) := by omega
        have hi2 : (m : Int) < (N : Int) := by omega
        have HMN := Lib.hid hmN
        clear hm hmN
        go_wp2_with fail
        refine (HV.out _).mono ?_
        rintro e w5 ⟨rfl, hb⟩
        rw [HM.out]
        have HK5 := Lib.hid (below_trans HK.out hb)
        have HO5 := Lib.hid ((hb.block _ HGS.out).trans HO.out)
        have e0 := rowA_cell HO5.out (m := m) (by rw [tell_len]; exact HMN.out)
        have z0 := rowA_froz HO5.out m
        have HO6 := Lib.hid (rowA_store HO5.out m ((j : Int) + 1 + 1))
        rw [HST.out] at HO6
        have HK6 : Hid (Below w2.heap.size w2 (w5.setCell ⟨w2.heap.size, m, none⟩ (.int .u64 ((j : Int) + 1 + 1)))) := HK5.out.setCell (p := ⟨w2.heap.size, m, none⟩) (Nat.le_refl _) _
        clear hb d0 d1 d2 d3
        go_wp2_with fail
        go_roundw
        case rel => exact ⟨j + 1, by go_num, by omega, HO6.out, HK6.out⟩
        case measure => simp [intOf]; omega
      · have hge : ¬ (j : Int) + 1 < (n : Int) := by omega
        have HG5 : Hid (wr.heap[w2.heap.size]? = some (.cells (rowA .u64 (tell N (slotsF W0 W1 n 0))) 43 (0, 0))) := by
          have h1 := HO.out
          have hj2 : j = n - 1 := by omega
          rw [hj2, tell_same (f := nodesF W0 W1 (n - 1)) (g := slotsF W0 W1 n 0) (fun p _ => (nodes_last (n := n)).resolve_right (by omega))] at h1
          exact h1
        go_wp2_with fail
        go_loopw [43] (fun iv wv => ∃ k : Nat, iv = .int .i64 (k : Int) ∧ k ≤ s ∧ Hid (wv.heap[w2.heap.size]? = some (.cells (rowA .u64 (tell N (slotsF W0 W1 n k))) 43 (0, 0))) ∧ Hid (Below w2.heap.size w2 wv)) (fun iv _ => s - (intOf iv).toNat)
        case atStart => exact ⟨0, rfl, Nat.zero_le _, HG5.out, HK.out⟩
        case round =>
          clear d0 d1 d2 d3 HGS HG5 HO HK hlt hge hj
          obtain ⟨k, rfl, hk, HO, HK⟩ := hrel
          have d0 := (HK.out.cell (p := ⟨w.heap.size, 0, none⟩) HLT2.out).trans HD0.out
          have d1 := (HK.out.cell (p := ⟨w.heap.size, 1, none⟩) HLT2.out).trans HD1.out
          have d2 := (HK.out.cell (p := ⟨w.heap.size, 2, none⟩) HLT2.out).trans HD2.out
          have d3 := (HK.out.cell (p := ⟨w.heap.size, 3, none⟩) HLT2.out).trans HD3.out
          have hgs : w2.heap.size < wr.heap.size := (Array.getElem?_eq_some_iff.1 HO.out).1
          have HGS := Lib.hid hgs
          clear hgs
          by_cases hlt : k < s
          · obtain ⟨m, hm⟩ : ∃ m : Nat, 2 + 2 * n + k = m := ⟨_, rfl⟩
            have HM : Hid (slotP ⟨n, s, h, t⟩ (k : Int) = (m : Int)) := by
              unfold Hid
              rw [HSP.out _ (by omega) (by omega), ← hm]
              push_cast
              rfl
            have hmN : m < N := by have := HNN.out; omega
            have hl1 : (k : Int) < (s : Int) := by omega
            have HST : Hid ((tell N (slotsF W0 W1 n k)).set m W0 = tell N (slotsF W0 W1 n (k + 1))) := by
              refine tell_set m _ (fun _ => ?_) (fun p _ hp => ?_)
              · unfold slotsF
                rw [if_neg (by omega), if_pos (by omega)]
              · unfold slotsF
                by_cases p0 : p < 2 + 2 * n
                · rw [if_pos p0, if_pos p0]
                · rw [if_neg p0, if_neg p0]
                  by_cases p1 : p < 2 + 2 * n + k
                  · rw [if_pos p1, if_pos (by omega)]
                  · rw [if_neg p1, if_neg (by omega)]
            have HV := Lib.hid (fun w => HSL.out (k : Int) w)
            have hi1 : (0 : Int) ≤ (m : Int) := by omega
            have hi2 : (m : Int) < (N : Int) := by omega
            have HMN : Hid (m < (tell N (slotsF W0 W1 n k)).length) := by unfold Hid; rw [tell_len]; exact hmN
            clear hm hmN
            go_wp2_with fail
            go_region_held3 (fun w' => w'.cell? ⟨w.heap.size, 0, none⟩ = some (.int .i64 n) ∧ w'.cell? ⟨w.heap.size, 1, none⟩ = some (.int .i64 s) ∧ w'.cell? ⟨w.heap.size, 2, none⟩ = some (.int .i64 h) ∧ w'.cell? ⟨w.heap.size, 3, none⟩ = some (.int .u32 t)) (go_keep) (first
              | (go_at_call 20; (refine (HV.out _).mono ?_); rintro e w5 ⟨rfl, hb⟩; rw [HM.out]; (have HK5 := Lib.hid (below_trans HK.out (below_trans ((Below.refl wr.heap.size wr).drew) hb))); (have HO5 := Lib.hid (((below_trans ((Below.refl wr.heap.size wr).drew) hb).block _ HGS.out).trans HO.out)); (have e0 := rowA_cell HO5.out HMN.out); (have z0 := rowA_froz HO5.out m); (have d0 := (HK5.out.cell (p := ⟨w.heap.size, 0, none⟩) HLT2.out).trans HD0.out); (have d1 := (HK5.out.cell (p := ⟨w.heap.size, 1, none⟩) HLT2.out).trans HD1.out); (have d2 := (HK5.out.cell (p := ⟨w.heap.size, 2, none⟩) HLT2.out).trans HD2.out); (have d3 := (HK5.out.cell (p := ⟨w.heap.size, 3, none⟩) HLT2.out).trans HD3.out); clear hb)
              | (go_at_call 34; (refine (hP0.out _).mono ?_); rintro e w6 ⟨rfl, rfl⟩))
            have HO6 := Lib.hid (rowA_store HO5.out m W0)
            rw [HST.out] at HO6
            have HK6 : Hid (Below w2.heap.size w2 (w5.setCell ⟨w2.heap.size, m, none⟩ (.int .u64 W0))) := HK5.out.setCell (p := ⟨w2.heap.size, m, none⟩) (Nat.le_refl _) _
            go_wp2_with fail
            go_roundw
            case rel => exact ⟨k + 1, by go_num, by omega, HO6.out, HK6.out⟩
            case measure => simp [intOf]; omega
          · have hge : ¬ (k : Int) < (s : Int) := by omega
            have hks : k = s := by omega
            have HOL : Hid (Own wr w2.heap.size 43 .u64 (.slice (some ⟨w2.heap.size, 0, none⟩) N N) Fr) := by
              have h1 := HO.out
              rw [hks, tell_same (f := slotsF W0 W1 n s) (g := FF) (fun p _ => HALL.out p), ← HFL.out] at h1
              have h2 : Fr.length = N := by rw [HFL.out, tell_len]
              have h3 := rowA_own h1 (Nat.le_refl _) (by rw [h2]; have := HNN.out; simp [maxLen]; omega)
              rwa [h2] at h3
            go_wp2_with fail
            go_ret2
            rw [HE.out]
            exact ⟨_, rfl, HOL.out.start HB2.out.size, below_trans HB2.out HK.out⟩
  · have hfl : freshL c = [] := by
      have : cellsN c = 0 := by simp [cellsN, hok]
      unfold freshL
      rw [this]
      rfl
    obtain ⟨n, s, h, t⟩ := c
    dsimp only at HC hE ⊢
    have HE := Lib.hid hE; have HFL := Lib.hid hfl
    clear hE hfl HCE HNX HSL hok
    go_enter Try.func12, Try.ntmps12
    go_wp2_with fail
    refine (HC.out _).mono ?_
    rintro e w1 ⟨rfl, hb⟩
    rw [HE.out]
    have HB := Lib.hid (boxed hb).1
    clear hb
    go_wp2_with fail
    go_ret2
    rw [HE.out]
    refine ⟨_, rfl, ?_, HB.out⟩
    rw [HFL.out]
    exact ⟨rfl, .inl ⟨rfl, rfl⟩⟩
end Go.Proofs.Ytcacahokdnpboaa.ly
