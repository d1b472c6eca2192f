/- Package hatstandref6, on: the lists that words make; over this seat's program. -/
import Derived.Test.YtcacahokdnpboaaLayF
namespace Go.Proofs.Ytcacahokdnpboaa.ly
open Go.ChangeShapes Go.WideShapes Go.ChangeAt Go.RowKit frame lift sep own join
set_option linter.unusedVariables false
theorem info32 : (Try.prog.info? 22).map (fun i => (i.zero, i.size, i.bytes)) = some (some (.int .u32 0), 1, 4) := by kernel_rfl
def lenV : Value → Nat
  | .slice _ n _ => n
  | _ => 0
theorem form {k : IntKind} {w : World} {v : Value} {l : List Int} (h : Ints w k v l) : ∃ a cap, v = .slice a l.length cap ∧ (0 < l.length → l.length ≤ cap ∧ cap ≤ maxLen ∧ ∃ b off, a = some ⟨b, off, none⟩ ∧ b < w.heap.size ∧ ∀ i, i < l.length → w.cell? ⟨b, off + i, none⟩ = some (.int k (nth l i))) := by
  rcases h with ⟨rfl, a, cap, rfl⟩ | ⟨h0, b, off, cap, rfl, h1, h2, hb, hc⟩
  · exact ⟨a, cap, rfl, fun h => by simp at h⟩
  · exact ⟨_, cap, rfl, fun _ => ⟨h1, h2, b, off, rfl, hb, hc⟩⟩
theorem nth_u64 {l : List Int} (h : Fit .u64 l) (k : Nat) : 0 ≤ nth l k ∧ nth l k ≤ 18446744073709551615 := by
  by_cases hk : k < l.length
  · have : nth l k = l[k] := by simp [nth, List.getD, hk]
    rw [this]
    exact bd_u64 (h _ (List.getElem_mem hk))
  · have : nth l k = 0 := by simp [nth, List.getD, hk]
    rw [this]
    decide
theorem mem_nth {l : List Int} {x : Int} (h : x ∈ l) : ∃ k, k < l.length ∧ nth l k = x := by
  obtain ⟨k, hk, rfl⟩ := List.getElem_of_mem h
  exact ⟨k, hk, by simp [nth, List.getD, hk]⟩
theorem nth_mem {l : List Int} {k : Nat} (h : k < l.length) : nth l k ∈ l := by
  have : nth l k = l[k] := by simp [nth, List.getD, h]
  rw [this]
  exact List.getElem_mem h
/-- What a Chain tells. -/
def ChainV (w : World) (o : Option (List Int)) (e : Ending) (w' : World) : Prop := ∃ t, e = .returned (.tuple #[t, .bool o.isSome]) ∧ Ints w' .u32 t (o.getD []) ∧ Below w.heap.size w w'
theorem chain_bad {c : Cf} {ws : List Int} {x : Int} (h : ¬ Ok c ∨ (ws.length : Int) ≠ cellsN c) : chainL c ws x = none := by
  unfold chainL
  rw [if_neg]
  intro h2
  rcases h with h | h
  · exact h h2.1
  · exact h h2.2
set_option maxRecDepth 100000 in
set_option maxHeartbeats 8000000 in
theorem rchain_any (c : Cf) {w : World} {vw : Value} {ws : List Int} (hw : Ints w .u64 vw ws) (hz : Fit .u64 ws) (hl : ws.length ≤ 1000000) (x : Int) (x0 : 0 ≤ x) (x1 : x ≤ 18446744073709551615) :
    Calls Try.prog 28 #[.agg #[.int .i64 c.nodes, .int .i64 c.slots, .int .i64 c.holders, .int .u32 c.tag], vw, .int .u64 x] w (ChainV w (chainL c ws x)) := by
  have HC := Lib.hid (fun w => rcheck_any c w)
  have HCE := Lib.hid (fun w => rcells_any c w)
  have HNX := Lib.hid (fun i h0 h1 w => rnext_any c i h0 h1 w)
  have hcase := checkE_is c
  have HI := Lib.hid hw
  obtain ⟨aw, cw, rfl, hfw⟩ := form hw
  have HF := Lib.hid hfw
  have HFIT := Lib.hid hz
  have hbad := fun h => chain_bad (c := c) (ws := ws) (x := x) h
  have hiff := fun h1 h2 => fun l => (chain_iff (c := c) (ws := ws) (w := x) h1 h2 l)
  have hnone := fun h1 h2 => (chain_none (c := c) (ws := ws) (w := x) h1 h2)
  have hcn : Ok c → cellsN c = 2 + 2 * c.nodes + c.slots + c.holders := fun h => by simp [cellsN, h]
  have hokn : Ok c → (1 ≤ c.nodes ∧ c.nodes ≤ 64 ∧ 0 ≤ c.slots ∧ c.slots ≤ 16 ∧ 0 ≤ c.holders ∧ c.holders ≤ 64) := id
  have hnp : Ok c → ∀ i, 1 ≤ i → i ≤ c.nodes → nextP c i = 2 * i := fun h i h1 h2 => by simp [nextP, h, h1, h2]
  clear hw hfw hz
  obtain ⟨R, hR⟩ : ∃ R, chainL c ws x = R := ⟨_, rfl⟩
  rw [hR] at hbad ⊢
  simp only [hR] at hiff hnone
  clear hR
  obtain ⟨N, hN⟩ : ∃ N, cellsN c = N := ⟨_, rfl⟩
  rw [hN] at hbad hcn
  simp only [hN] at hiff hnone HCE
  rcases hcase with ⟨hok, hE⟩ | ⟨hok, hE⟩
  · have hcn := hcn hok
    have hokn := hokn hok
    have hnp := hnp hok
    by_cases hlen : (ws.length : Int) = N
    · have hiff := hiff hok hlen
      have hnone := hnone hok hlen
      have hne : ((ws.length : Int) != N) = false := by rw [bne_eq_false_iff_eq]; exact hlen
      clear hbad hok hN
      obtain ⟨n, s, h, t⟩ := c
      dsimp only at HC HCE HNX hE hcn hokn hnp hiff hnone ⊢
      obtain ⟨b1, b2, b3, b4, b5, b6⟩ := hokn
      have HE := Lib.hid hE; have HIFF := Lib.hid hiff; have HNONE := Lib.hid hnone; have HNP := Lib.hid hnp
      have hlen2 : 2 + 2 * n ≤ (ws.length : Int) := by omega
      have hxm : x.tmod 4294967296 = x % 4294967296 := Int.tmod_eq_emod_of_nonneg x0
      obtain ⟨i0, hi0⟩ : ∃ i0, x % 4294967296 = i0 := ⟨_, rfl⟩
      have hib : 0 ≤ i0 ∧ i0 ≤ 4294967295 := by omega
      obtain ⟨hib0, hib1⟩ := hib
      have hwi : IntKind.u32.wrap i0 = i0 := by rw [IntKind.wrap_u32]; omega
      have hwn : IntKind.u32.wrap n = n := by rw [IntKind.wrap_u32]; omega
      rw [hi0] at hxm
      simp only [hi0] at HIFF HNONE
      have HLEN := Lib.hid hlen2
      clear hE hiff hnone hnp hcn hlen hlen2
      go_enter Try.func28, Try.ntmps28
      go_wp2_with fail
      refine (HC.out _).mono ?_
      rintro e w1 ⟨rfl, hb⟩
      rw [HE.out]
      obtain ⟨hb1, c0, c1, c2, c3⟩ := boxed hb
      have HB := Lib.hid hb1
      have hlt : w.heap.size < w1.heap.size := Nat.lt_of_lt_of_le (by simp) hb.size
      have HLT := Lib.hid hlt
      have HC0 := Lib.hid c0; have HC1 := Lib.hid c1; have HC2 := Lib.hid c2; have HC3 := Lib.hid c3
      clear hb hb1 hlt
      go_wp2_with fail
      refine (HCE.out _).mono ?_
      rintro e w2 ⟨rfl, hb⟩
      have HB2 := Lib.hid (below_trans HB.out hb)
      have HLT2 : Hid (w.heap.size < w2.heap.size) := Nat.lt_of_lt_of_le HLT.out hb.size
      have HD0 := Lib.hid ((hb.cell (p := ⟨w.heap.size, 0, none⟩) HLT.out).trans HC0.out)
      have HD1 := Lib.hid ((hb.cell (p := ⟨w.heap.size, 1, none⟩) HLT.out).trans HC1.out)
      have HD2 := Lib.hid ((hb.cell (p := ⟨w.heap.size, 2, none⟩) HLT.out).trans HC2.out)
      have HD3 := Lib.hid ((hb.cell (p := ⟨w.heap.size, 3, none⟩) HLT.out).trans HC3.out)
      clear hb c0 c1 c2 c3
      go_wp2_with fail
      go_loopw [8, 9] (fun nv iv wr => ∃ (out : List Int) (i : Int) (vv : Value), nv = vv ∧ iv = .int .u32 i ∧ 0 ≤ i ∧ i ≤ 4294967295 ∧ Hid (Came n ws i0 out i) ∧ Hid (Own wr w2.heap.size 22 .u32 vv out) ∧ Hid (Below w2.heap.size w2 wr)) (fun nv _ _ => 65 - lenV nv)
      case atStart => exact ⟨[], i0, _, rfl, rfl, hib0, hib1, .here, ⟨rfl, .inl ⟨rfl, rfl⟩⟩, Below.refl _ _⟩
      case round =>
        obtain ⟨out, i, vv, hvv, rfl, ib0, ib1, HCM, HO, HK⟩ := hrel
        have hv2 := hvv.symm
        clear hvv
        subst hv2
        obtain ⟨av, cv, rfl, _, _⟩ := Own.form HO.out
        have hol := HCM.out.len (by omega)
        by_cases h0 : i = 0
        · subst h0
          have HR : Hid (R = some out) := (HIFF.out out).2 HCM.out.done
          go_wp2_with fail
          go_ret2
          rw [HR.out]
          exact ⟨_, rfl, HO.out.ints, below_trans HB2.out HK.out⟩
        · have hn0 : (i != 0) = true := by simpa using h0
          have d0 := (HK.out.cell (p := ⟨w.heap.size, 0, none⟩) HLT2.out).trans HD0.out
          have d1 := (HK.out.cell (p := ⟨w.heap.size, 1, none⟩) HLT2.out).trans HD1.out
          have d2 := (HK.out.cell (p := ⟨w.heap.size, 2, none⟩) HLT2.out).trans HD2.out
          have d3 := (HK.out.cell (p := ⟨w.heap.size, 3, none⟩) HLT2.out).trans HD3.out
          have HRD := Lib.hid HO.out.at_
          go_wp2_with fail
          go_loopw [10] (fun kv wv => ∃ k : Nat, kv = .int .i64 k ∧ k ≤ out.length ∧ Hid (∀ j, j < k → nth out j ≠ i) ∧ wv = wr) (fun kv _ => out.length - (intOf kv).toNat)
          case atStart => exact ⟨0, rfl, Nat.zero_le _, fun j hj => by omega, rfl⟩
          case round =>
            obtain ⟨k, rfl, hk, HNE, rfl⟩ := hrel
            by_cases hlt : k < out.length
            · obtain ⟨g, cap2, hv, _, hg, _, hcell⟩ := HRD.out (by omega)
              simp only [Value.slice.injEq] at hv
              obtain ⟨rfl, _, rfl⟩ := hv
              have e0 := hcell k hlt
              obtain ⟨y, hy⟩ : ∃ y, nth out k = y := ⟨_, rfl⟩
              rw [hy] at e0
              have hi1 : (0 : Int) ≤ (k : Int) := by omega
              have hi2 : (k : Int) < (out.length : Int) := by omega
              have HY := Lib.hid hy
              clear hcell hy
              by_cases hyi : y = i
              · have HR : Hid (R = none) := HNONE.out (fun m => HCM.out.again (by
                  have := nth_mem hlt
                  rw [HY.out, hyi] at this
                  exact this) m)
                have hyi' : (y == i) = true := by simpa using hyi
                clear hyi
                go_wp2_with fail
                go_ret2
                rw [HR.out]
                exact ⟨_, rfl, .inl ⟨rfl, none, 0, rfl⟩, below_trans HB2.out HK.out⟩
              · have hyi' : (y == i) = false := by simpa using hyi
                have HNE2 : Hid (∀ j, j < k + 1 → nth out j ≠ i) := fun j hj => by
                  by_cases h : j = k
                  · rw [h, HY.out]; exact hyi
                  · exact HNE.out j (by omega)
                clear hyi
                go_wp2_with fail
                go_roundw
                case rel => exact ⟨k + 1, by go_num, by omega, HNE2.out, by first | rfl | trivial⟩
                case measure => simp [intOf]; omega
            · have hni : i ∉ out := fun hm => by
                obtain ⟨j, hj, he⟩ := mem_nth hm
                exact HNE.out j (by omega) he
              have hge : ¬ (k : Int) < (out.length : Int) := by omega
              by_cases hin : n < i
              · have HR : Hid (R = none) := HNONE.out (fun m => HCM.out.off h0 hin m)
                clear hni
                go_wp2_with fail
                go_ret2
                rw [HR.out]
                exact ⟨_, rfl, .inl ⟨rfl, none, 0, rfl⟩, below_trans HB2.out HK.out⟩
              · have hin2 : i ≤ n := by omega
                have hi1 : 1 ≤ i := by omega
                have HCN := Lib.hid (HCM.out.next hi1 hin2 hni)
                have hol2 := HCN.out.len (by omega)
                obtain ⟨m, hm⟩ : ∃ m : Nat, 2 * i = m := ⟨(2 * i).toNat, by omega⟩
                have HM : Hid (nextP ⟨n, s, h, t⟩ i = (m : Int)) := by rw [← hm]; exact HNP.out i hi1 hin2
                have hml : m < ws.length := by have := HLEN.out; omega
                have hnx : nx ws i = nth ws m % 4294967296 := by
                  unfold nx
                  rw [hm]
                  rfl
                obtain ⟨_, _, bw, ow, rfl, hbw, hcw⟩ := HF.out (by omega)
                have HCW := Lib.hid (hcw m hml)
                have HBW := Lib.hid hbw
                obtain ⟨y0, y1⟩ := nth_u64 HFIT.out m
                obtain ⟨y, hy⟩ : ∃ y, nth ws m = y := ⟨_, rfl⟩
                rw [hy] at y0 y1 HCW hnx
                have hym : y.tmod 4294967296 = y % 4294967296 := Int.tmod_eq_emod_of_nonneg y0
                obtain ⟨z, hz⟩ : ∃ z, y % 4294967296 = z := ⟨_, rfl⟩
                have hzb : 0 ≤ z ∧ z ≤ 4294967295 := by omega
                obtain ⟨zb0, zb1⟩ := hzb
                have hwz : IntKind.u32.wrap z = z := by rw [IntKind.wrap_u32]; omega
                rw [hz] at hym hnx
                rw [hnx] at HCN
                have hm0 : (0 : Int) ≤ (m : Int) := by omega
                have hm1 : (m : Int) < (ws.length : Int) := by omega
                clear hni hnx hcw hbw hy hz hm
                go_wp2_with (at_builtin; refine wpList_push _ rfl _ _ 44 rfl w2.heap.size 22 .u32 (.int .u32 0) 4 Try.underlying44 info32 rfl _ out i rfl (HO.out.alloc _) ⟨wr.heap.size, 0, none⟩ 1 rfl ?c1 ?c2 (by decide) ?c4 ?_)
                case c2 => omega
                case c4 => have := HK.out.size; simp; omega
                intro v6 w6 hown hgrow
                have HK6 := Lib.hid (below_grown (HK.out.alloc HK.out.size _) hgrow (HO.out.alloc _) (Nat.le_refl _))
                have HO6 := Lib.hid hown
                have f0 := (HK6.out.cell (p := ⟨w.heap.size, 0, none⟩) HLT2.out).trans HD0.out
                have f1 := (HK6.out.cell (p := ⟨w.heap.size, 1, none⟩) HLT2.out).trans HD1.out
                have f2 := (HK6.out.cell (p := ⟨w.heap.size, 2, none⟩) HLT2.out).trans HD2.out
                have f3 := (HK6.out.cell (p := ⟨w.heap.size, 3, none⟩) HLT2.out).trans HD3.out
                obtain ⟨a6, c6, rfl, _, _⟩ := Own.form hown
                clear hown hgrow d0 d1 d2 d3
                go_wp2_with fail
                refine (HNX.out i ib0 ib1 _).mono ?_
                rintro e w7 ⟨rfl, hb⟩
                rw [HM.out]
                have HK7 := Lib.hid (below_trans HK6.out hb)
                have HO7 := Lib.hid (HO6.out.below hb)
                have e7 := ((below_trans HB2.out HK7.out).cell (p := ⟨bw, ow + m, none⟩) HBW.out).trans HCW.out
                clear hb f0 f1 f2 f3
                go_wp2_with fail
                go_roundw
                case rel => exact ⟨out ++ [i], z, _, rfl, rfl, zb0, zb1, HCN.out, by unfold Hid; simpa using HO7.out, HK7.out⟩
                case measure =>
                  simp at hol2
                  simp [lenV]
                  omega
    · have hne : ((ws.length : Int) != N) = true := by rw [bne_iff_ne]; exact hlen
      have HR := Lib.hid (hbad (.inr hlen))
      clear hbad hok hN hiff hnone hnp hcn hokn hlen
      obtain ⟨n, s, h, t⟩ := c
      dsimp only at HC HCE HNX hE ⊢
      have HE := Lib.hid hE
      clear hE
      go_enter Try.func28, Try.ntmps28
      go_wp2_with fail
      refine (HC.out _).mono ?_
      rintro e w1 ⟨rfl, hb⟩
      rw [HE.out]
      obtain ⟨hb1, c0, c1, c2, c3⟩ := boxed hb
      have HB := Lib.hid hb1
      clear hb hb1
      go_wp2_with fail
      refine (HCE.out _).mono ?_
      rintro e w2 ⟨rfl, hb⟩
      have HB2 := Lib.hid (below_trans HB.out hb)
      clear hb c0 c1 c2 c3
      go_wp2_with fail
      go_ret2
      rw [HR.out]
      exact ⟨_, rfl, .inl ⟨rfl, none, 0, rfl⟩, HB2.out⟩
  · have HR := Lib.hid (hbad (.inl hok))
    clear hbad hok hN hiff hnone hnp hcn hokn
    obtain ⟨n, s, h, t⟩ := c
    dsimp only at HC HCE HNX hE ⊢
    have HE := Lib.hid hE
    clear hE
    go_enter Try.func28, Try.ntmps28
    go_wp2_with fail
    refine (HC.out _).mono ?_
    rintro e w1 ⟨rfl, hb⟩
    rw [HE.out]
    have HB := Lib.hid (boxed hb).1
    clear hb
    go_wp2_with fail
    go_ret2
    rw [HR.out]
    exact ⟨_, rfl, .inl ⟨rfl, none, 0, rfl⟩, HB.out⟩
end Go.Proofs.Ytcacahokdnpboaa.ly
