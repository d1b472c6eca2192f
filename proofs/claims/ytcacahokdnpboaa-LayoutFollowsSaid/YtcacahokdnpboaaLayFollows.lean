/- LayoutFollows: the list from a node on is that node, and the list from its next one on: no condition. -/
import Derived.Test.YtcacahokdnpboaaLayG
import Derived.Test.YtcacahokdnpboaaLayO
import Derived.Test.YtcacahokdnpboaaHoldR
namespace Go.Proofs.Ytcacahokdnpboaa.layoutFollows
open Go.ChangeShapes Go.WideShapes Go.ChangeAt Go.RowKit frame lift sep own join ly
set_option linter.unusedVariables false
theorem chain_follows {c : Cf} {ws : List Int} (hok : Ok c) (hl : (ws.length : Int) = cellsN c) {i : Int} (h1 : 1 ≤ i) (h2 : i ≤ c.nodes) :
    chainL c ws i = (chainL c ws (nth ws (2 * i).toNat)).map (i :: ·) := by
  have hb := hok
  obtain ⟨b1, b2, _⟩ := hb
  have e : i % 4294967296 = i := by omega
  cases hd : chainL c ws (nth ws (2 * i).toNat) with
  | some b =>
    have := (chain_iff hok hl b).1 hd
    show _ = some (i :: b)
    rw [chain_iff hok hl, e]
    exact .cons h1 h2 this
  | none =>
    show _ = none
    refine chain_none hok hl fun a ha => ?_
    rw [e] at ha
    obtain ⟨_, _, r, rfl, hr⟩ := ha.pos (by omega)
    have := (chain_iff (w := nth ws (2 * i).toNat) hok hl r).2 hr
    rw [hd] at this
    cases this
theorem fit_set {ws : List Int} (h : Fit .u64 ws) (m : Nat) {x : Int} (h0 : 0 ≤ x) (h1 : x ≤ 18446744073709551615) : Fit .u64 (ws.set m x) := fun y hy => by
  rcases List.mem_or_eq_of_mem_set hy with hy | rfl
  · exact h y hy
  · exact wf_u64 h0 h1
theorem map_nth {k : IntKind} {ws : List Int} {m : Nat} (h : m < ws.length) : (ws.map (Value.int k))[m]? = some (.int k (nth ws m)) := by simp [nth, List.getD, h]
theorem nth_i64 {l : List Int} (h : Fit .i64 l) (k : Nat) : -9223372036854775808 ≤ nth l k ∧ nth l k ≤ 9223372036854775807 := by
  by_cases hk : k < l.length
  · have : nth l k = l[k] := by simp [nth, List.getD, hk]
    rw [this]
    exact bd_i64 (h _ (List.getElem_mem hk))
  · have : nth l k = 0 := by simp [nth, List.getD, hk]
    rw [this]
    decide
set_option maxRecDepth 100000 in
set_option maxHeartbeats 16000000 in
theorem walk (a0 : Int) (v1 : Value) (os : List Int) (a2 : Int) (f0 : (Lit.int .i64 a0).wf = true) (f2 : (Lit.int .i64 a2).wf = true) (w : World) (f1 : Ints w .i64 v1 os) (z1 : Fit .i64 os) :
    Calls Try.prog 8 #[.int .i64 a0, v1, .int .i64 a2] w fun e w' => e = .returned (.bool true) ∧ Below w.heap.size w w' := by
  have g0 := bd_i64 f0
  obtain ⟨g2, g2'⟩ := bd_i64 f2
  have HCF := Lib.hid (fun w => config_any a0 0 0 3 g0 (by unfold I64; omega) (by unfold I64; omega) w)
  have hok := cfgOf_ok a0 0 0 3
  have hcf : cfgOf a0 0 0 3 = ⟨1 + pickI a0 64, 0, 0, 3⟩ := rfl
  obtain ⟨n, hn⟩ : ∃ n, 1 + pickI a0 64 = n := ⟨_, rfl⟩
  rw [hn] at hcf
  rw [hcf] at HCF hok
  have hto : TagOk ⟨n, 0, 0, 3⟩ := ⟨by show (0 : Int) ≤ 3; decide, by show (3 : Int) ≤ 4294967295; decide⟩
  have HOK := Lib.hid hok
  have HFR := Lib.hid (fun w => fresh_any ⟨n, 0, 0, 3⟩ hto w)
  have hE : checkE ⟨n, 0, 0, 3⟩ = 0 := by simp [checkE, hok]
  rw [hE] at HFR
  have HFIT0 := Lib.hid (fresh_fit hok hto)
  have hlen := fresh_len ⟨n, 0, 0, 3⟩
  have hcn := cells_ok hok
  obtain ⟨b1, b2, _⟩ := id hok
  dsimp only at b1 b2 hcn
  obtain ⟨ws0, hws0⟩ : ∃ ws, freshL ⟨n, 0, 0, 3⟩ = ws := ⟨_, rfl⟩
  rw [hws0] at HFR HFIT0 hlen
  have HCN : Hid (cellsN ⟨n, 0, 0, 3⟩ = (ws0.length : Int)) := hlen.symm
  have HNN : Hid (2 + 2 * n = (ws0.length : Int)) := by unfold Hid; omega
  have hwl1 : ws0.length ≤ 1000 := by omega
  have hwl2 : 0 < ws0.length := by omega
  obtain ⟨u, hu⟩ : ∃ u, pickI a2 n = u := ⟨_, rfl⟩
  have hub := pickI_bd a2 n (by omega)
  rw [hu] at hub
  obtain ⟨u0, u1⟩ := hub
  have HU := Lib.hid hu
  have HI := Lib.hid f1
  have HZ := Lib.hid z1
  obtain ⟨ao, co, rfl, hfo⟩ := form f1
  have HFO := Lib.hid hfo
  have hw1 : IntKind.i64.wrap (n + 1) = n + 1 := IntWalk.i64_in _ (by omega)
  have hw2 : IntKind.i64.wrap (1 + u) = 1 + u := IntWalk.i64_in _ (by omega)
  have hw3 : IntKind.u32.wrap (1 + u) = 1 + u := by rw [IntKind.wrap_u32]; omega
  have hw4 : IntKind.u64.wrap (1 + u) = 1 + u := by rw [IntKind.wrap_u64]; omega
  have hn2 : n ≤ 9223372036854775807 := by omega
  have hn3 : 0 < n := by omega
  have hn4 : n + 1 ≤ 9223372036854775807 := by omega
  have hn5 : 0 < n + 1 := by omega
  clear f0 f1 f2 z1 hok hcf hn hE hlen hcn hws0 hu hfo hto
  by_cases hbig : 100 < os.length
  · have hb1 : (100 : Int) < (os.length : Int) := by omega
    go_enter Try.func8, Try.ntmps8
    go_wp2_with fail
    refine (shown_any _).mono ?_
    rintro e w1 ⟨rfl, hb⟩
    have H1 := Lib.hid ((Hold.empty w).on hb)
    clear hb
    go_wp2_with fail
    refine (HCF.out _).mono ?_
    rintro e w2 ⟨rfl, hb⟩
    have h2 := (H1.out.on hb).newBlk (Obj.cells #[.int .i64 n, .int .i64 0, .int .i64 0, .int .u32 3] 24)
    obtain ⟨Bc, hBc⟩ : ∃ B, w2.heap.size = B := ⟨_, rfl⟩
    rw [hBc] at h2
    have H2 := Lib.hid h2
    obtain ⟨c0, c1, c2, c3⟩ := cells4 H2.out
    clear hb h2
    go_wp2_with fail
    refine (HFR.out _).mono ?_
    rintro e w3 ⟨wv, rfl, hwv, hb⟩
    have H3 := Lib.hid (H2.out.on hb)
    obtain ⟨aw, cw, rfl, _⟩ := form hwv.ints
    clear hb hwv c0 c1 c2 c3 hBc
    obtain ⟨c0, c1, c2, c3⟩ := cells4 H3.out
    go_wp2_with fail
    refine (cells_p n 0 0 3 _).mono ?_
    rintro e w4 ⟨rfl, hb⟩
    rw [HCN.out]
    have H4 := Lib.hid (H3.out.on hb)
    clear hb c0 c1 c2 c3
    go_wp2_with fail
    go_ret
    exact ⟨rfl, H4.out.below⟩
  · have hb1 : ¬ (100 : Int) < (os.length : Int) := by omega
    go_enter Try.func8, Try.ntmps8
    go_wp2_with fail
    refine (shown_any _).mono ?_
    rintro e w1 ⟨rfl, hb⟩
    have H1 := Lib.hid ((Hold.empty w).on hb)
    clear hb
    go_wp2_with fail
    refine (HCF.out _).mono ?_
    rintro e w2 ⟨rfl, hb⟩
    have h2 := (H1.out.on hb).newBlk (Obj.cells #[.int .i64 n, .int .i64 0, .int .i64 0, .int .u32 3] 24)
    obtain ⟨Bc, hBc⟩ : ∃ B, w2.heap.size = B := ⟨_, rfl⟩
    rw [hBc] at h2
    have H2 := Lib.hid h2
    obtain ⟨c0, c1, c2, c3⟩ := cells4 H2.out
    clear hb h2
    go_wp2_with fail
    refine (HFR.out _).mono ?_
    rintro e w3 ⟨wv, rfl, hwv, hb⟩
    have h3 := H2.out.made hb hwv
    obtain ⟨g, cw, rfl, _, _, _, _, hne1, hge⟩ := h3.rowAt hwl2
    have hne1 : ¬ g = Bc := hne1 Bc _ (List.mem_cons_self ..)
    have hge := hge rfl
    have H3 := Lib.hid h3
    have HG := Lib.hid hge
    clear h3 hge
    clear hb hwv c0 c1 c2 c3 hBc
    obtain ⟨c0, c1, c2, c3⟩ := cells4 H3.out.swap
    go_wp2_with fail
    refine (cells_p n 0 0 3 _).mono ?_
    rintro e w4 ⟨rfl, hb⟩
    rw [HCN.out]
    have H4 := Lib.hid (H3.out.on hb)
    clear hb c0 c1 c2 c3
    go_wp2_with fail
    go_loopw [11] (fun iv wr => ∃ (k : Nat) (ws : List Int), iv = .int .i64 k ∧ k ≤ os.length ∧ (k : Int) ≤ n ∧ Hid (ws.length = ws0.length ∧ Fit .u64 ws) ∧ Hid (Hold (fun _ => False) w [row 43 1 (.slice (some ⟨g, 0, none⟩) ws0.length cw) ws0.length (ws.map (Value.int .u64)), blk Bc (Obj.cells #[.int .i64 n, .int .i64 0, .int .i64 0, .int .u32 3] 24)] wr)) (fun iv _ => os.length - (intOf iv).toNat)
    case atStart => exact ⟨0, ws0, rfl, Nat.zero_le _, by omega, ⟨rfl, HFIT0.out⟩, H4.out⟩
    case round =>
      obtain ⟨k, ws, rfl, hk, hkn, HWS, HX⟩ := hrel
      obtain ⟨c0, c1, c2, c3⟩ := cells4 HX.out.swap
      have hk0 : (0 : Int) ≤ (k : Int) := by omega
      by_cases hlt : k < os.length
      · have hlt1 : (k : Int) < (os.length : Int) := by omega
        by_cases hltn : (k : Int) < n
        · obtain ⟨_, _, go_, oo, rfl, hgo, hco⟩ := HFO.out (by omega)
          obtain ⟨x, hx⟩ : ∃ x, nth os k = x := ⟨_, rfl⟩
          obtain ⟨xb0, xb1⟩ := nth_i64 HZ.out k
          have HCO := Lib.hid (hco k hlt)
          rw [hx] at xb0 xb1 HCO
          have HGO := Lib.hid hgo
          have hne2 : ¬ g = go_ := fun e => by have := HG.out; omega
          obtain ⟨y, hy⟩ : ∃ y, pickI x (n + 1) = y := ⟨_, rfl⟩
          have hyb := pickI_bd x (n + 1) (by omega)
          rw [hy] at hyb
          obtain ⟨y0, y1⟩ := hyb
          have HY := Lib.hid hy
          have hwy : IntKind.u64.wrap y = y := by rw [IntKind.wrap_u64]; omega
          have hwk : IntKind.i64.wrap ((k : Int) + 1) = (k : Int) + 1 := IntWalk.i64_in _ (by omega)
          have hwk2 : IntKind.u32.wrap ((k : Int) + 1) = (k : Int) + 1 := by rw [IntKind.wrap_u32]; omega
          obtain ⟨m, hm⟩ : ∃ m : Nat, 2 * ((k : Int) + 1) = m := ⟨2 * (k + 1), by omega⟩
          have HM : Hid (nextP ⟨n, 0, 0, 3⟩ ((k : Int) + 1) = (m : Int)) := by rw [← hm]; simp [Hid, nextP, HOK.out]; omega
          have hm0 : (0 : Int) ≤ (m : Int) := by omega
          have hm1 : (m : Int) < (ws0.length : Int) := by have := HNN.out; omega
          have hm2 : m < ws0.length := by omega
          have HWSL : Hid (m < ws.length) := by have := HWS.out.1; unfold Hid; omega
          have HXd := Lib.hid HX.out.drew
          have e5 : wr.drew.cell? ⟨go_, oo + k, none⟩ = some (.int .i64 x) := (HXd.out.below.cell (p := ⟨go_, oo + k, none⟩) HGO.out).trans HCO.out
          have hj0 : 0 ≤ (k : Int) + 1 := by omega
          have hj1 : (k : Int) + 1 ≤ 4294967295 := by omega
          clear hco hx hy hm hgo
          go_wp2_with fail
          clear c0 c1 c2 c3
          obtain ⟨c0, c1, c2, c3⟩ := cells4 HXd.out.swap
          go_region_held3 (fun w' => w'.cell? ⟨Bc, 0, none⟩ = some (.int .i64 n) ∧ w'.cell? ⟨Bc, 1, none⟩ = some (.int .i64 0) ∧ w'.cell? ⟨Bc, 2, none⟩ = some (.int .i64 0) ∧ w'.cell? ⟨Bc, 3, none⟩ = some (.int .u32 3) ∧ w'.cell? ⟨go_, oo + k, none⟩ = some (.int .i64 x)) (go_keep) (first
            | (go_at_call 16; (refine (next_p n 0 0 3 _ hj0 hj1 _).mono ?_); rintro e w12 ⟨rfl, hb⟩; rw [HM.out]; (have HX2 := Lib.hid (HXd.out.on hb)); (have e5 := (HX2.out.below.cell (p := ⟨go_, oo + k, none⟩) HGO.out).trans HCO.out); (obtain ⟨c0, c1, c2, c3⟩ := cells4 HX2.out.swap); (obtain ⟨g9, c9, hv9, _, _, hce9, hfr9, _, _⟩ := HX2.out.rowAt hwl2); simp only [Value.slice.injEq, Option.some.injEq, Addr.mk.injEq, and_true, true_and] at hv9; (obtain ⟨rfl, rfl⟩ := hv9); (have z1 := hfr9 m); (have z2 := (hce9 m hm2).trans (map_nth HWSL.out)); clear hb hce9 hfr9)
            | (go_at_call 35; (refine (pick_any x (n + 1) xb0 xb1 hn5 hn4 _).mono ?_); rintro e w13 ⟨rfl, rfl⟩; rw [HY.out]))
          have h4 := HX2.out.rowStore m (.int .u64 y)
          rw [← List.map_set] at h4
          have H5 := Lib.hid h4
          have HW5 : Hid ((ws.set m y).length = ws0.length ∧ Fit .u64 (ws.set m y)) := ⟨by rw [List.length_set]; exact HWS.out.1, fit_set HWS.out.2 m y0 (by omega)⟩
          clear h4
          go_wp2_with fail
          go_roundw
          case rel => exact ⟨k + 1, ws.set m y, by go_num, by omega, by omega, HW5.out, H5.out⟩
          case measure => simp [intOf]; omega
        · have hge : ¬ (k : Int) < n := hltn
          have HIN : Hid (∀ w', Hold (fun _ => False) w [row 43 1 (.slice (some ⟨g, 0, none⟩) ws0.length cw) ws0.length (ws.map (Value.int .u64)), blk Bc (Obj.cells #[.int .i64 n, .int .i64 0, .int .i64 0, .int .u32 3] 24)] w' → Ints w' .u64 (.slice (some ⟨g, 0, none⟩) ws0.length cw) ws) := fun w' hh => by
            have h1 := hh.rowIs (e := 43) (size := 1) (List.mem_cons_self ..)
            have h2 := HWS.out.1
            rw [← h2] at h1 ⊢
            exact row_ints h1
          have HWLN : Hid ((ws.length : Int) = cellsN ⟨n, 0, 0, 3⟩) := by unfold Hid; rw [HCN.out, HWS.out.1]
          have HFI : Hid (Fit .u64 ws) := HWS.out.2
          have HL1 : Hid (ws.length ≤ 1000000) := by have := HWS.out.1; unfold Hid; omega
          obtain ⟨m, hm⟩ : ∃ m : Nat, 2 * (1 + u) = m := ⟨(2 * (1 + u)).toNat, by omega⟩
          have HM : Hid (nextP ⟨n, 0, 0, 3⟩ (1 + u) = (m : Int)) := by rw [← hm]; simp [Hid, nextP, HOK.out]; omega
          have hm0 : (0 : Int) ≤ (m : Int) := by omega
          have hm1 : (m : Int) < (ws0.length : Int) := by have := HNN.out; omega
          have hm2 : m < ws0.length := by omega
          have HWSL : Hid (m < ws.length) := by have := HWS.out.1; unfold Hid; omega
          obtain ⟨x, hx⟩ : ∃ x, nth ws m = x := ⟨_, rfl⟩
          obtain ⟨xb0, xb1⟩ := nth_u64 HFI.out m
          rw [hx] at xb0 xb1
          have hfol := chain_follows (i := 1 + u) HOK.out HWLN.out (by omega) (by show _ ≤ n; omega)
          have hmt : (2 * (1 + u)).toNat = m := by omega
          rw [hmt, hx] at hfol
          have HX0 := Lib.hid hx
          obtain ⟨Q, hQ⟩ : ∃ Q, chainL ⟨n, 0, 0, 3⟩ ws x = Q := ⟨_, rfl⟩
          have hql : ∀ b, Q = some b → b.length ≤ 64 := fun b hb => chain_len (hQ.trans hb)
          rw [hQ] at hfol
          have HQ := Lib.hid hQ; have HFOL := Lib.hid hfol; have HQL := Lib.hid hql
          have hj0 : 0 ≤ 1 + u := by omega
          have hj1 : 1 + u ≤ 4294967295 := by omega
          have hj2 : 1 + u ≤ 18446744073709551615 := by omega
          clear hm hx hfol hmt hQ hql
          go_wp2_with fail
          refine (pick_any a2 n g2 g2' hn3 hn2 _).mono ?_
          rintro e w12 ⟨rfl, rfl⟩
          rw [HU.out]
          go_wp2_with fail
          refine (next_p n 0 0 3 _ hj0 hj1 _).mono ?_
          rintro e w12 ⟨rfl, hb⟩
          rw [HM.out]
          have HX2 := Lib.hid (HX.out.on hb)
          obtain ⟨g9, c9, hv9, _, _, hce9, _, _, _⟩ := HX2.out.rowAt hwl2
          simp only [Value.slice.injEq, Option.some.injEq, Addr.mk.injEq, and_true, true_and] at hv9
          obtain ⟨rfl, rfl⟩ := hv9
          have z2 := (hce9 m hm2).trans (map_nth HWSL.out)
          rw [HX0.out] at z2
          clear hb hce9 c0 c1 c2 c3
          obtain ⟨c0, c1, c2, c3⟩ := cells4 HX2.out.swap
          go_wp2_with fail
          refine (chain_any ⟨n, 0, 0, 3⟩ (HIN.out _ HX2.out) HFI.out HL1.out (1 + u) hj0 hj2).mono ?_
          rintro e w13 ⟨av, rfl, hav, hb⟩
          rw [HFOL.out] at hav ⊢
          have HX3 := Lib.hid (HX2.out.on hb)
          have HAV := Lib.hid hav
          clear hb hav c0 c1 c2 c3 z2
          obtain ⟨c0, c1, c2, c3⟩ := cells4 HX3.out.swap
          go_wp2_with fail
          refine (chain_any ⟨n, 0, 0, 3⟩ (HIN.out _ HX3.out) HFI.out HL1.out x xb0 xb1).mono ?_
          rintro e w14 ⟨bv, rfl, hbv, hb⟩
          rw [HQ.out] at hbv ⊢
          have HX4 := Lib.hid (HX3.out.on hb)
          have HAV4 := Lib.hid (HAV.out.below hb)
          have HBV := Lib.hid hbv
          clear hb hbv c0 c1 c2 c3
          cases hq : Q with
          | none =>
            rw [hq] at HAV4 HBV
            have ha : Ints w14 .u32 av [] := HAV4.out
            obtain ⟨aa, ca, rfl, _⟩ := form ha
            clear ha hq
            try dsimp only [Option.map, Option.isSome, List.length_nil]
            go_wp2_with fail
            go_ret
            exact ⟨rfl, HX4.out.below⟩
          | some b =>
            rw [hq] at HAV4 HBV
            have ha : Ints w14 .u32 av ((1 + u) :: b) := HAV4.out
            have hbb : Ints w14 .u32 bv b := HBV.out
            have hbl := HQL.out b hq
            obtain ⟨aa, ca, rfl, hfa⟩ := form ha
            obtain ⟨ab, cb, rfl, _⟩ := form hbb
            obtain ⟨q1, q2, ga, oa, rfl, hga, hca⟩ := hfa (by simp)
            have z0 : w14.cell? ⟨ga, oa, none⟩ = some (.int .u32 (1 + u)) := by
              have := hca 0 (by simp)
              simpa [nth, List.getD] using this
            simp only [List.length_cons] at q1 ha ⊢
            unfold maxLen at q2
            obtain ⟨q, hqe⟩ : ∃ q, (if ca = 1 then some (⟨ga, oa, none⟩ : Addr) else some ⟨ga, oa + 1, none⟩) = q := ⟨_, rfl⟩
            have HTL : Hid (Ints w14 .u32 (.slice q b.length (ca - 1)) b) := ints_tail ha (fun h => by rw [← hqe, if_neg (by omega)])
            have HBB := Lib.hid hbb
            have hl1 : (1 : Int) ≤ (b.length : Int) + 1 := by omega
            have hl2 : (0 : Int) < (b.length : Int) + 1 := by omega
            have hwb : IntKind.i64.wrap ((b.length : Int) + 1) = (b.length : Int) + 1 := IntWalk.i64_in _ (by omega)
            clear ha hbb hfa hca hq
            try dsimp only [Option.map, Option.isSome]
            go_wp2_with fail
            refine (same32_any HTL.out HBB.out (by omega)).mono ?_
            rintro e w15 ⟨rfl, hb⟩
            have HX5 := Lib.hid (HX4.out.on hb)
            clear hb
            go_wp2_with fail
            go_ret
            exact ⟨rfl, HX5.out.below⟩
      · have hge : ¬ (k : Int) < (os.length : Int) := by omega
        have HIN : Hid (∀ w', Hold (fun _ => False) w [row 43 1 (.slice (some ⟨g, 0, none⟩) ws0.length cw) ws0.length (ws.map (Value.int .u64)), blk Bc (Obj.cells #[.int .i64 n, .int .i64 0, .int .i64 0, .int .u32 3] 24)] w' → Ints w' .u64 (.slice (some ⟨g, 0, none⟩) ws0.length cw) ws) := fun w' hh => by
          have h1 := hh.rowIs (e := 43) (size := 1) (List.mem_cons_self ..)
          have h2 := HWS.out.1
          rw [← h2] at h1 ⊢
          exact row_ints h1
        have HWLN : Hid ((ws.length : Int) = cellsN ⟨n, 0, 0, 3⟩) := by unfold Hid; rw [HCN.out, HWS.out.1]
        have HFI : Hid (Fit .u64 ws) := HWS.out.2
        have HL1 : Hid (ws.length ≤ 1000000) := by have := HWS.out.1; unfold Hid; omega
        obtain ⟨m, hm⟩ : ∃ m : Nat, 2 * (1 + u) = m := ⟨(2 * (1 + u)).toNat, by omega⟩
        have HM : Hid (nextP ⟨n, 0, 0, 3⟩ (1 + u) = (m : Int)) := by rw [← hm]; simp [Hid, nextP, HOK.out]; omega
        have hm0 : (0 : Int) ≤ (m : Int) := by omega
        have hm1 : (m : Int) < (ws0.length : Int) := by have := HNN.out; omega
        have hm2 : m < ws0.length := by omega
        have HWSL : Hid (m < ws.length) := by have := HWS.out.1; unfold Hid; omega
        obtain ⟨x, hx⟩ : ∃ x, nth ws m = x := ⟨_, rfl⟩
        obtain ⟨xb0, xb1⟩ := nth_u64 HFI.out m
        rw [hx] at xb0 xb1
        have hfol := chain_follows (i := 1 + u) HOK.out HWLN.out (by omega) (by show _ ≤ n; omega)
        have hmt : (2 * (1 + u)).toNat = m := by omega
        rw [hmt, hx] at hfol
        have HX0 := Lib.hid hx
        obtain ⟨Q, hQ⟩ : ∃ Q, chainL ⟨n, 0, 0, 3⟩ ws x = Q := ⟨_, rfl⟩
        have hql : ∀ b, Q = some b → b.length ≤ 64 := fun b hb => chain_len (hQ.trans hb)
        rw [hQ] at hfol
        have HQ := Lib.hid hQ; have HFOL := Lib.hid hfol; have HQL := Lib.hid hql
        have hj0 : 0 ≤ 1 + u := by omega
        have hj1 : 1 + u ≤ 4294967295 := by omega
        have hj2 : 1 + u ≤ 18446744073709551615 := by omega
        clear hm hx hfol hmt hQ hql
        go_wp2_with fail
        refine (pick_any a2 n g2 g2' hn3 hn2 _).mono ?_
        rintro e w12 ⟨rfl, rfl⟩
        rw [HU.out]
        go_wp2_with fail
        refine (next_p n 0 0 3 _ hj0 hj1 _).mono ?_
        rintro e w12 ⟨rfl, hb⟩
        rw [HM.out]
        have HX2 := Lib.hid (HX.out.on hb)
        obtain ⟨g9, c9, hv9, _, _, hce9, _, _, _⟩ := HX2.out.rowAt hwl2
        simp only [Value.slice.injEq, Option.some.injEq, Addr.mk.injEq, and_true, true_and] at hv9
        obtain ⟨rfl, rfl⟩ := hv9
        have z2 := (hce9 m hm2).trans (map_nth HWSL.out)
        rw [HX0.out] at z2
        clear hb hce9 c0 c1 c2 c3
        obtain ⟨c0, c1, c2, c3⟩ := cells4 HX2.out.swap
        go_wp2_with fail
        refine (chain_any ⟨n, 0, 0, 3⟩ (HIN.out _ HX2.out) HFI.out HL1.out (1 + u) hj0 hj2).mono ?_
        rintro e w13 ⟨av, rfl, hav, hb⟩
        rw [HFOL.out] at hav ⊢
        have HX3 := Lib.hid (HX2.out.on hb)
        have HAV := Lib.hid hav
        clear hb hav c0 c1 c2 c3 z2
        obtain ⟨c0, c1, c2, c3⟩ := cells4 HX3.out.swap
        go_wp2_with fail
        refine (chain_any ⟨n, 0, 0, 3⟩ (HIN.out _ HX3.out) HFI.out HL1.out x xb0 xb1).mono ?_
        rintro e w14 ⟨bv, rfl, hbv, hb⟩
        rw [HQ.out] at hbv ⊢
        have HX4 := Lib.hid (HX3.out.on hb)
        have HAV4 := Lib.hid (HAV.out.below hb)
        have HBV := Lib.hid hbv
        clear hb hbv c0 c1 c2 c3
        cases hq : Q with
        | none =>
          rw [hq] at HAV4 HBV
          have ha : Ints w14 .u32 av [] := HAV4.out
          obtain ⟨aa, ca, rfl, _⟩ := form ha
          clear ha hq
          try dsimp only [Option.map, Option.isSome, List.length_nil]
          go_wp2_with fail
          go_ret
          exact ⟨rfl, HX4.out.below⟩
        | some b =>
          rw [hq] at HAV4 HBV
          have ha : Ints w14 .u32 av ((1 + u) :: b) := HAV4.out
          have hbb : Ints w14 .u32 bv b := HBV.out
          have hbl := HQL.out b hq
          obtain ⟨aa, ca, rfl, hfa⟩ := form ha
          obtain ⟨ab, cb, rfl, _⟩ := form hbb
          obtain ⟨q1, q2, ga, oa, rfl, hga, hca⟩ := hfa (by simp)
          have z0 : w14.cell? ⟨ga, oa, none⟩ = some (.int .u32 (1 + u)) := by
            have := hca 0 (by simp)
            simpa [nth, List.getD] using this
          simp only [List.length_cons] at q1 ha ⊢
          unfold maxLen at q2
          obtain ⟨q, hqe⟩ : ∃ q, (if ca = 1 then some (⟨ga, oa, none⟩ : Addr) else some ⟨ga, oa + 1, none⟩) = q := ⟨_, rfl⟩
          have HTL : Hid (Ints w14 .u32 (.slice q b.length (ca - 1)) b) := ints_tail ha (fun h => by rw [← hqe, if_neg (by omega)])
          have HBB := Lib.hid hbb
          have hl1 : (1 : Int) ≤ (b.length : Int) + 1 := by omega
          have hl2 : (0 : Int) < (b.length : Int) + 1 := by omega
          have hwb : IntKind.i64.wrap ((b.length : Int) + 1) = (b.length : Int) + 1 := IntWalk.i64_in _ (by omega)
          clear ha hbb hfa hca hq
          try dsimp only [Option.map, Option.isSome]
          go_wp2_with fail
          refine (same32_any HTL.out HBB.out (by omega)).mono ?_
          rintro e w15 ⟨rfl, hb⟩
          have HX5 := Lib.hid (HX4.out.on hb)
          clear hb
          go_wp2_with fail
          go_ret
          exact ⟨rfl, HX5.out.below⟩
theorem own : ownKnob Try.prog.godebug = none := by kernel_rfl
theorem laidOut : laidOutB Try.prog = true := by kernel_rfl
theorem cells_int : Try.prog.cellsOf 3 = 1 := by kernel_rfl
set_option maxRecDepth 100000 in
theorem lifted (os : Os) (started : os.Started) (H : Type) (enc : TypeId × Value → H) :
    ReturnsInHanded {} Try.checked os 8 .any (Rows.layoutFollowsSpec.pre6 enc Try.prog Try.f8 Rows.layoutFollowsRow.domain false) (Rows.layoutFollowsSpec.post enc Try.prog Try.f8 false true false false) := by
  refine returnsInHanded_of_change (C := Try.checked) own started (by kernel_rfl) Try.func8
    (ChangeSpec.witness6 (enc := enc) (C := Try.checked) false ⟨#[], #[.int .i64 0, .slice none 0 0, .int .i64 0], []⟩ 8 (by kernel_rfl) (by kernel_rfl) (by kernel_rfl) (by kernel_rfl)) ?_
  intro W base args ds gs before hval0 hW hcnd _
  have hval : ∀ (j : Nat) t v, Try.f8.params[j]? = some t → args[j]? = some v → Value.okWide Try.prog W .any base t v := hval0
  have hW' := hW
  obtain ⟨p, q, hA0, hV, rfl, hfz, hnd⟩ := hW
  have hA : DataW.TrodAll enc Try.prog W 0 (fun _ => true) true Try.f8.params.toList args.toList ds p := hA0
  rw [Try.params8] at hA hval
  obtain ⟨v0, vs0, d0, ds0, p0, q0, hargs, rfl, rfl, h0, r0⟩ := trodAll_cons hA
  obtain ⟨v1, vs1, d1, ds1, p1, q1, rfl, rfl, rfl, h1, r1⟩ := trodAll_cons r0
  obtain ⟨v2, vs2, d2, ds2, p2, q2, rfl, rfl, rfl, h2, r2⟩ := trodAll_cons r1
  obtain ⟨rfl, rfl, rfl⟩ := trodAll_nil r2
  obtain rfl : args = #[v0, v1, v2] := by cases args; simp_all
  obtain ⟨rfl, rfl⟩ := trodVars_none hV
  obtain ⟨a0, rfl, rfl, rfl, w0⟩ := open_int Try.underlying3 (hval 0 3 v0 rfl rfl) h0
  obtain ⟨a1, w1, z1⟩ := lift.open_row Try.underlying54 Try.underlying3 cells_int (okWide_slice Try.underlying54 (hval 1 54 v1 rfl rfl)) h1
  obtain ⟨a2, rfl, rfl, rfl, w2⟩ := open_int Try.underlying3 (hval 2 3 v2 rfl rfl) h2
  clear hA0 hval0
  refine (walk a0 v1 a1 a2 w0 w2 W w1 z1).mono fun e W' ⟨he, hb⟩ => ?_
  subst he
  exact ⟨_, rfl, lift.post_law (tb := 4) laidOut (by rw [Try.params8]; exact fun t ht => (of_decide_eq_true (by kernel_rfl) : ∀ t ∈ [3, 54, 3], Try.prog.readableRec t = true ∧ t < Try.prog.types.size) t ht) (by kernel_rfl) Try.underlying4 rfl hW' rfl hb⟩
theorem over : Rows.layoutFollowsRow.holds Try.pinned (OpenSpec.ofChange Rows.layoutFollowsSpec) :=
  OpenClaim.holds_of_wide 8 Try.f8 rfl rfl rfl rfl rfl rfl rfl ⟨rfl, rfl, rfl, rfl, rfl⟩ rfl rfl rfl rfl rfl (by kernel_rfl) Try.func8 (by kernel_rfl)
    (of_decide_eq_true (by kernel_rfl)) (by unfold Func.isWrapper; first | (rw [if_pos (by decide +kernel)]; kernel_rfl) | (rw [if_neg (by decide +kernel)]; exact ⟨rfl, rfl⟩))
    (fun os started H enc _ => lifted os started H enc)
theorem proved : Rows.LayoutFollowsSaid :=
  over
end Go.Proofs.Ytcacahokdnpboaa.layoutFollows
