/- LayoutFresh: in the fresh words all nodes are free, in their order, and none is in the stack; all words that have tags have the first one: no condition. -/
import Derived.Test.YtcacahokdnpboaaLayG
import Derived.Test.YtcacahokdnpboaaLayO
import Derived.Test.YtcacahokdnpboaaPack
namespace Go.Proofs.Ytcacahokdnpboaa.layoutFresh
open Go.ChangeShapes Go.WideShapes Go.ChangeAt Go.RowKit frame lift sep own join ly
set_option linter.unusedVariables false
set_option maxRecDepth 100000 in
set_option maxHeartbeats 16000000 in
theorem walk (a0 a1 a2 a3 : Int) (f0 : (Lit.int .i64 a0).wf = true) (f1 : (Lit.int .i64 a1).wf = true) (f2 : (Lit.int .i64 a2).wf = true) (f3 : (Lit.int .u32 a3).wf = true) (w : World) :
    Calls Try.prog 6 #[.int .i64 a0, .int .i64 a1, .int .i64 a2, .int .u32 a3] w fun e w' => e = .returned (.bool true) ∧ Below w.heap.size w w' := by
  have g0 := bd_i64 f0; have g1 := bd_i64 f1; have g2 := bd_i64 f2
  have g3 := bd_u32 f3
  have HCF := Lib.hid (fun w => config_any a0 a1 a2 a3 g0 g1 g2 w)
  have hok := cfgOf_ok a0 a1 a2 a3
  have htag : (cfgOf a0 a1 a2 a3).tag = a3 := rfl
  obtain ⟨c, hc⟩ : ∃ c, cfgOf a0 a1 a2 a3 = c := ⟨_, rfl⟩
  rw [hc] at HCF hok htag
  have hto : TagOk c := by unfold TagOk; rw [htag]; exact g3
  have hlen := fresh_len c
  have hcn := cells_ok hok
  have hfree := fresh_free hok hto
  have hhead := fresh_head hok hto
  have hstack := fresh_stack hok hto
  have hfit := fresh_fit hok hto
  have hE : checkE c = 0 := by simp [checkE, hok]
  have hw0 : nth (freshL c) 0 = wordP 0 a3 := by
    rw [fresh_nth (by obtain ⟨b1, b2, b3, b4, b5, b6⟩ := hok; omega), ← htag]
    rfl
  have hw1 : nth (freshL c) 1 = wordP 1 a3 := by
    rw [fresh_nth (by obtain ⟨b1, b2, b3, b4, b5, b6⟩ := hok; omega), ← htag]
    rfl
  have hslot : ∀ n k : Nat, (n : Int) = c.nodes → (k : Int) < c.slots → nth (freshL c) (2 + 2 * n + k) = wordP 0 a3 ∧ slotP c k = ((2 + 2 * n + k : Nat) : Int) := fun n k hn hk => by
    obtain ⟨b1, b2, b3, b4, b5, b6⟩ := id hok
    constructor
    · rw [fresh_nth (by push_cast; omega), fresh_slot n k hn (by omega) hk, htag]
    · unfold slotP
      rw [if_pos ⟨hok, by omega, hk⟩]
      push_cast
      omega
  have hhold : ∀ n s k : Nat, (n : Int) = c.nodes → (s : Int) = c.slots → (k : Int) < c.holders → nth (freshL c) (2 + 2 * n + s + k) = 0 ∧ holderP c k = ((2 + 2 * n + s + k : Nat) : Int) := fun n s k hn hs hk => by
    obtain ⟨b1, b2, b3, b4, b5, b6⟩ := id hok
    constructor
    · rw [fresh_nth (by push_cast; omega), fresh_holder n s k hn (by omega) hs]
    · unfold holderP
      rw [if_pos ⟨hok, by omega, hk⟩]
      push_cast
      omega
  obtain ⟨b1, b2, b3, b4, b5, b6⟩ := hok
  have hln := lastL_len c.nodes c.nodes.toNat
  have hlnth := lastL_nth c.nodes (by omega)
  obtain ⟨L, hL⟩ : ∃ L, lastL c.nodes c.nodes.toNat = L := ⟨_, rfl⟩
  obtain ⟨ws, hws⟩ : ∃ ws, freshL c = ws := ⟨_, rfl⟩
  rw [hL] at hfree hln hlnth
  have HFR := Lib.hid (fun w => fresh_any c hto w)
  rw [hws] at hlen hfree hhead hstack hfit hw0 hw1 HFR
  simp only [hws] at hslot hhold
  rw [hE] at HFR
  rw [hw1] at hfree
  rw [hw0] at hhead
  clear hc hE hto hL hws
  obtain ⟨W0, hW0⟩ : ∃ W0, wordP 0 a3 = W0 := ⟨_, rfl⟩
  obtain ⟨W1, hW1⟩ : ∃ W1, wordP 1 a3 = W1 := ⟨_, rfl⟩
  have hW0b : 0 ≤ W0 ∧ W0 ≤ 18446744073709551615 ∧ W0 / 4294967296 = a3 := by rw [← hW0]; unfold wordP; omega
  have hW1b : 0 ≤ W1 ∧ W1 ≤ 18446744073709551615 ∧ W1 / 4294967296 = a3 := by rw [← hW1]; unfold wordP; omega
  rw [hW0] at hw0 hhead
  rw [hW1] at hw1 hfree
  simp only [hW0] at hslot
  have hpw : a3 * 4294967296 + 0 = W0 := by rw [← hW0]; unfold wordP; omega
  obtain ⟨n, s, h, t⟩ := c
  dsimp only at *
  subst htag
  obtain ⟨n, rfl⟩ : ∃ n' : Nat, n = n' := ⟨n.toNat, by omega⟩
  obtain ⟨s, rfl⟩ : ∃ n' : Nat, s = n' := ⟨s.toNat, by omega⟩
  obtain ⟨h, rfl⟩ : ∃ n' : Nat, h = n' := ⟨h.toNat, by omega⟩
  have hwl : ws.length = 2 + 2 * n + s + h := by omega
  have hln2 : L.length = n := by rw [hln]; omega
  have HCN : Hid (cellsN ⟨n, s, h, t⟩ = (ws.length : Int)) := hlen.symm
  have hwl1 : ws.length ≤ 1000 := by omega
  have hwl2 : ¬ (ws.length : Int) < 2 := by omega
  have hwl3 : (1 : Int) < (ws.length : Int) := by omega
  have hwl4 : (0 : Int) < (ws.length : Int) := by omega
  have hwl5 : 1 < ws.length := by omega
  have hwl6 : 0 < ws.length := by omega
  have hLne : ((L.length : Int) != (n : Int)) = false := by rw [bne_eq_false_iff_eq]; omega
  have hLI : (L.length : Int) = (n : Int) := by omega
  have HWL := Lib.hid hwl; have HLN := Lib.hid hln2; have HLTH := Lib.hid hlnth; have HSL := Lib.hid hslot; have HHO := Lib.hid hhold
  have HFREE := Lib.hid hfree; have HHEAD := Lib.hid hhead; have HSTACK := Lib.hid hstack; have HFIT := Lib.hid hfit
  have HW0 := Lib.hid hw0; have HW1 := Lib.hid hw1
  obtain ⟨w0a, w0b, w0c⟩ := hW0b
  obtain ⟨w1a, w1b, w1c⟩ := hW1b
  have HPW := Lib.hid hpw
  have HT0 := Lib.hid w0c; have HT1 := Lib.hid w1c
  obtain ⟨t0, t1⟩ := g3
  clear hcn hlen hwl hln hln2 hlnth hslot hhold hfree hhead hstack hfit hw0 hw1 hpw f0 f1 f2 f3 hW0 hW1 w0c w1c hLI
  go_enter Try.func6, Try.ntmps6
  go_wp2_with fail
  refine (shown_any _).mono ?_
  rintro e w1 ⟨rfl, hb⟩
  have H1 := Lib.hid ((Hold.empty w).on hb)
  clear hb
  go_wp2_with fail
  refine (HCF.out _).mono ?_
  rintro e w2 ⟨rfl, hb⟩
  have h2 := (H1.out.on hb).newBlk (Obj.cells #[.int .i64 n, .int .i64 s, .int .i64 h, .int .u32 t] 24)
  obtain ⟨Bc, hBc⟩ : ∃ B, w2.heap.size = B := ⟨_, rfl⟩
  rw [hBc] at h2
  have H2 := Lib.hid h2
  obtain ⟨c0, c1, c2, c3⟩ := cells4 H2.out
  clear hb h2
  go_wp2_with fail
  refine (HFR.out _).mono ?_
  rintro e w3 ⟨wv, rfl, hwv, hb⟩
  have H3 := Lib.hid (H2.out.on hb)
  have HWS := Lib.hid hwv.ints
  obtain ⟨aw, cw, rfl, hfw⟩ := form hwv.ints
  obtain ⟨_, _, g, o, rfl, hg, hcell⟩ := hfw hwl6
  have HG := Lib.hid hg
  have HCL := Lib.hid hcell
  clear hb hwv hfw hg hcell c0 c1 c2 c3 hBc
  obtain ⟨c0, c1, c2, c3⟩ := cells4 H3.out
  go_wp2_with fail
  refine (cells_p n s h t _).mono ?_
  rintro e w4 ⟨rfl, hb⟩
  rw [HCN.out]
  have H4 := Lib.hid (H3.out.on hb).drew
  have HB4 : Hid (Below w3.heap.size w3 w4.drew) := below_trans hb (Below.refl _ _).drew
  have e1 : w4.drew.cell? ⟨g, o + 1, none⟩ = some (.int .u64 W1) := by
    rw [HB4.out.cell (p := ⟨g, o + 1, none⟩) HG.out, HCL.out 1 hwl5, HW1.out]
  clear hb c0 c1 c2 c3
  obtain ⟨c0, c1, c2, c3⟩ := cells4 H4.out
  go_wp2_with fail
  go_region_held3 (fun w' => w'.cell? ⟨Bc, 0, none⟩ = some (.int .i64 n) ∧ w'.cell? ⟨Bc, 1, none⟩ = some (.int .i64 s) ∧ w'.cell? ⟨Bc, 2, none⟩ = some (.int .i64 h) ∧ w'.cell? ⟨Bc, 3, none⟩ = some (.int .u32 t) ∧ w'.cell? ⟨g, o + 1, none⟩ = some (.int .u64 W1)) (go_keep) ((go_at_call 27; (refine (chain_any ⟨n, s, h, t⟩ (HWS.out.below HB4.out) HFIT.out (by omega) W1 w1a w1b).mono ?_); rintro e w5 ⟨lv, rfl, hlv, hb⟩; rw [HFREE.out] at hlv ⊢; (have H5 := Lib.hid (H4.out.on hb)); (have HB5 := Lib.hid (below_trans HB4.out hb)); (have HLV := Lib.hid hlv); (have e1 := (hb.cell (p := ⟨g, o + 1, none⟩) (Nat.lt_of_lt_of_le HG.out HB4.out.size)).trans e1); clear hb hlv; (obtain ⟨c0, c1, c2, c3⟩ := cells4 H5.out)))
  have HL5 : Hid (Ints w5 .u32 lv L) := HLV.out
  have H6 := Lib.hid H5.out.drew
  have HB6 : Hid (Below w3.heap.size w3 w5.drew) := below_trans HB5.out (Below.refl _ _).drew
  have HL6 : Hid (Ints w5.drew .u32 lv L) := HL5.out.below (Below.refl _ _).drew
  have e0 : w5.drew.cell? ⟨g, o, none⟩ = some (.int .u64 W0) := by
    have := HB6.out.cell (p := ⟨g, o, none⟩) HG.out
    rw [this]
    have := HCL.out 0 hwl6
    rw [Nat.add_zero, HW0.out] at this
    exact this
  clear c0 c1 c2 c3 e1
  obtain ⟨c0, c1, c2, c3⟩ := cells4 H6.out
  try dsimp only [Option.isSome]
  go_wp2_with fail
  go_region_held3 (fun w' => w'.cell? ⟨Bc, 0, none⟩ = some (.int .i64 n) ∧ w'.cell? ⟨Bc, 1, none⟩ = some (.int .i64 s) ∧ w'.cell? ⟨Bc, 2, none⟩ = some (.int .i64 h) ∧ w'.cell? ⟨Bc, 3, none⟩ = some (.int .u32 t) ∧ w'.cell? ⟨g, o, none⟩ = some (.int .u64 W0)) (go_keep) ((go_at_call 27; (refine (chain_any ⟨n, s, h, t⟩ (HWS.out.below HB6.out) HFIT.out (by omega) W0 w0a w0b).mono ?_); rintro e w7 ⟨mv, rfl, hmv, hb⟩; rw [HHEAD.out] at hmv ⊢; (have H7 := Lib.hid (H6.out.on hb)); (have HB7 := Lib.hid (below_trans HB6.out hb)); (have HL7 := Lib.hid (HL6.out.below hb)); (have HMV := Lib.hid hmv); (have e0 := (hb.cell (p := ⟨g, o, none⟩) (Nat.lt_of_lt_of_le HG.out HB6.out.size)).trans e0); clear hb hmv; (obtain ⟨c0, c1, c2, c3⟩ := cells4 H7.out)))
  try dsimp only [Option.isSome]
  have HM7 : Hid (Ints w7 .u32 mv []) := HMV.out
  obtain ⟨am, cm, rfl, _⟩ := form HM7.out
  go_wp2_with fail
  refine (stack_any ⟨n, s, h, t⟩ (HWS.out.below HB7.out) HFIT.out (by omega)).mono ?_
  rintro e w8 ⟨sv, rfl, hsv, hb⟩
  rw [HSTACK.out] at hsv ⊢
  have H8 := Lib.hid (H7.out.on hb)
  have HB8 := Lib.hid (below_trans HB7.out hb)
  have HL8 := Lib.hid (HL7.out.below hb)
  have hS8 : Ints w8 .u64 sv [] := hsv
  obtain ⟨as_, cs_, rfl, _⟩ := form hS8
  obtain ⟨al, cl, rfl, hfl⟩ := form HL8.out
  have HFL := Lib.hid hfl
  have f0 : w8.cell? ⟨g, o, none⟩ = some (.int .u64 W0) := (hb.cell (p := ⟨g, o, none⟩) (Nat.lt_of_lt_of_le HG.out HB7.out.size)).trans e0
  have f1 : w8.cell? ⟨g, o + 1, none⟩ = some (.int .u64 W1) := by
    rw [HB8.out.cell (p := ⟨g, o + 1, none⟩) HG.out, HCL.out 1 hwl5, HW1.out]
  clear hb hsv hS8 hfl c0 c1 c2 c3 e0
  obtain ⟨c0, c1, c2, c3⟩ := cells4 H8.out
  try dsimp only [Option.isSome, List.length_nil]
  go_wp2_with fail
  refine (pk.tag_any W0 w0a w0b _).mono ?_
  rintro e w9 ⟨rfl, hb⟩
  rw [HT0.out]
  have H9 := Lib.hid (H8.out.on hb)
  have HB9 := Lib.hid (below_trans HB8.out hb)
  have HK9 := Lib.hid hb
  have f1 : w9.cell? ⟨g, o + 1, none⟩ = some (.int .u64 W1) := by
    rw [HB9.out.cell (p := ⟨g, o + 1, none⟩) HG.out, HCL.out 1 hwl5, HW1.out]
  clear hb c0 c1 c2 c3 f0
  go_wp2_with fail
  refine (pk.tag_any W1 w1a w1b _).mono ?_
  rintro e w10 ⟨rfl, hb⟩
  rw [HT1.out]
  have H10 := Lib.hid (H9.out.on hb)
  have HB10 := Lib.hid (below_trans HB9.out hb)
  have HK10 := Lib.hid (below_trans HK9.out hb)
  clear hb f1
  go_wp2_with fail
  have HL10 := Lib.hid (HL8.out.below HK10.out)
  go_loopw [19] (fun iv wr => ∃ k : Nat, iv = .int .i64 k ∧ k ≤ n ∧ wr = w10) (fun iv _ => 70 - (intOf iv).toNat)
  case atStart => exact ⟨0, rfl, Nat.zero_le _, rfl⟩
  case round =>
    obtain ⟨k, rfl, hk, rfl⟩ := hrel
    by_cases hlt : k < n
    · have hltL : (k : Int) < (L.length : Int) := by have := HLN.out; omega
      obtain ⟨_, _, gl, ol, rfl, hgl, hcl⟩ := HFL.out (by have := HLN.out; omega)
      have e5 := (HK10.out.cell (p := ⟨gl, ol + k, none⟩) hgl).trans (hcl k (by have := HLN.out; omega))
      rw [HLTH.out k (by omega)] at e5
      have hk0 : (0 : Int) ≤ (k : Int) := by omega
      have hw5 : IntKind.i64.wrap ((k : Int) + 1) = (k : Int) + 1 := IntWalk.i64_in _ (by omega)
      have hw6 : IntKind.u32.wrap ((k : Int) + 1) = (k : Int) + 1 := by rw [IntKind.wrap_u32]; omega
      clear hcl hgl
      go_wp2_with fail
      go_roundw
      case rel => exact ⟨k + 1, by go_num, by omega, by first | rfl | trivial⟩
      case measure => simp [intOf]; omega
    · have hge : ¬ (k : Int) < (L.length : Int) := by have := HLN.out; omega
      go_wp2_with fail
      go_loopw [20] (fun iv wr => ∃ k : Nat, iv = .int .i64 k ∧ k ≤ s ∧ Hid (Hold (fun _ => False) w [blk Bc (Obj.cells #[.int .i64 n, .int .i64 s, .int .i64 h, .int .u32 t] 24)] wr) ∧ Hid (Below w3.heap.size w3 wr)) (fun iv _ => 70 - (intOf iv).toNat)
      case atStart => exact ⟨0, rfl, Nat.zero_le _, H10.out, HB10.out⟩
      case round =>
        clear hlt hge hk
        obtain ⟨k, rfl, hk, HX, HB⟩ := hrel
        obtain ⟨c0, c1, c2, c3⟩ := cells4 HX.out
        by_cases hlt : k < s
        · have hk1 : (k : Int) < (s : Int) := by omega
          have hk0 : (0 : Int) ≤ (k : Int) := by omega
          obtain ⟨hv1, hv2⟩ := HSL.out n k rfl hk1
          obtain ⟨m, hm⟩ : ∃ m, 2 + 2 * n + k = m := ⟨_, rfl⟩
          rw [hm] at hv1 hv2
          have hml : m < ws.length := by have := HWL.out; omega
          have hm0 : (0 : Int) ≤ (m : Int) := by omega
          have hm1 : (m : Int) < (ws.length : Int) := by omega
          have HV1 := Lib.hid hv1; have HV2 := Lib.hid hv2
          have HXd := Lib.hid HX.out.drew
          have HBd : Hid (Below w3.heap.size w3 wr.drew) := below_trans HB.out (Below.refl _ _).drew
          have e5 : wr.drew.cell? ⟨g, o + m, none⟩ = some (.int .u64 W0) := by
            rw [HBd.out.cell (p := ⟨g, o + m, none⟩) HG.out, HCL.out m hml, HV1.out]
          clear hv1 hv2 hm
          go_wp2_with fail
          clear c0 c1 c2 c3
          obtain ⟨c0, c1, c2, c3⟩ := cells4 HXd.out
          go_region_held3 (fun w' => w'.cell? ⟨Bc, 0, none⟩ = some (.int .i64 n) ∧ w'.cell? ⟨Bc, 1, none⟩ = some (.int .i64 s) ∧ w'.cell? ⟨Bc, 2, none⟩ = some (.int .i64 h) ∧ w'.cell? ⟨Bc, 3, none⟩ = some (.int .u32 t) ∧ w'.cell? ⟨g, o + m, none⟩ = some (.int .u64 W0)) (go_keep) (first
            | (go_at_call 20; (refine (slot_p n s h t k _).mono ?_); rintro e w12 ⟨rfl, hb⟩; rw [HV2.out]; (have HX2 := Lib.hid (HXd.out.on hb)); (have HB2 := Lib.hid (below_trans HBd.out hb)); (have e5 := (hb.cell (p := ⟨g, o + m, none⟩) (Nat.lt_of_lt_of_le HG.out HBd.out.size)).trans e5); (obtain ⟨c0, c1, c2, c3⟩ := cells4 HX2.out); clear hb)
            | (go_at_call 34; (refine (pk.word_any 0 t (by decide) (by decide) t0 t1 _).mono ?_); rintro e w13 ⟨rfl, rfl⟩; rw [HPW.out]))
          go_wp2_with fail
          go_roundw
          case rel => exact ⟨k + 1, by go_num, by omega, HX2.out, HB2.out⟩
          case measure => simp [intOf]; omega
        · have hge : ¬ (k : Int) < (s : Int) := by omega
          go_wp2_with fail
          go_loopw [21] (fun iv wr => ∃ k : Nat, iv = .int .i64 k ∧ k ≤ h ∧ Hid (Hold (fun _ => False) w [blk Bc (Obj.cells #[.int .i64 n, .int .i64 s, .int .i64 h, .int .u32 t] 24)] wr) ∧ Hid (Below w3.heap.size w3 wr)) (fun iv _ => 70 - (intOf iv).toNat)
          case atStart => exact ⟨0, rfl, Nat.zero_le _, HX.out, HB.out⟩
          case round =>
            clear hlt hge hk HX HB c0 c1 c2 c3
            obtain ⟨k, rfl, hk, HX, HB⟩ := hrel
            obtain ⟨c0, c1, c2, c3⟩ := cells4 HX.out
            by_cases hlt : k < h
            · have hk1 : (k : Int) < (h : Int) := by omega
              have hk0 : (0 : Int) ≤ (k : Int) := by omega
              obtain ⟨hv1, hv2⟩ := HHO.out n s k rfl rfl hk1
              obtain ⟨m, hm⟩ : ∃ m, 2 + 2 * n + s + k = m := ⟨_, rfl⟩
              rw [hm] at hv1 hv2
              have hml : m < ws.length := by have := HWL.out; omega
              have hm0 : (0 : Int) ≤ (m : Int) := by omega
              have hm1 : (m : Int) < (ws.length : Int) := by omega
              have HV1 := Lib.hid hv1; have HV2 := Lib.hid hv2
              clear hv1 hv2 hm
              go_wp2_with fail
              refine (holder_p n s h t k _).mono ?_
              rintro e w12 ⟨rfl, hb⟩
              rw [HV2.out]
              have HX2 := Lib.hid (HX.out.on hb)
              have HB2 := Lib.hid (below_trans HB.out hb)
              have e5 : w12.cell? ⟨g, o + m, none⟩ = some (.int .u64 0) := by
                rw [HB2.out.cell (p := ⟨g, o + m, none⟩) HG.out, HCL.out m hml, HV1.out]
              clear hb c0 c1 c2 c3
              go_wp2_with fail
              go_roundw
              case rel => exact ⟨k + 1, by go_num, by omega, HX2.out, HB2.out⟩
              case measure => simp [intOf]; omega
            · have hge : ¬ (k : Int) < (h : Int) := by omega
              go_wp2_with fail
              go_ret
              exact ⟨rfl, HX.out.below⟩
theorem own : ownKnob Try.prog.godebug = none := by kernel_rfl
theorem laidOut : laidOutB Try.prog = true := by kernel_rfl
set_option maxRecDepth 100000 in
theorem lifted (os : Os) (started : os.Started) (H : Type) (enc : TypeId × Value → H) :
    ReturnsInHanded {} Try.checked os 6 .any (Rows.layoutFreshSpec.pre6 enc Try.prog Try.f6 Rows.layoutFreshRow.domain false) (Rows.layoutFreshSpec.post enc Try.prog Try.f6 false true false false) := by
  refine returnsInHanded_of_change (C := Try.checked) own started (by kernel_rfl) Try.func6
    (ChangeSpec.witness6 (enc := enc) (C := Try.checked) false ⟨#[], #[.int .i64 0, .int .i64 0, .int .i64 0, .int .u32 0], []⟩ 8 (by kernel_rfl) (by kernel_rfl) (by kernel_rfl) (by kernel_rfl)) ?_
  intro W base args ds gs before hval0 hW hcnd _
  have hval : ∀ (j : Nat) t v, Try.f6.params[j]? = some t → args[j]? = some v → Value.okWide Try.prog W .any base t v := hval0
  have hW' := hW
  obtain ⟨p, q, hA0, hV, rfl, hfz, hnd⟩ := hW
  have hA : DataW.TrodAll enc Try.prog W 0 (fun _ => true) true Try.f6.params.toList args.toList ds p := hA0
  rw [Try.params6] at hA hval
  obtain ⟨v0, vs0, d0, ds0, p0, q0, hargs, rfl, rfl, h0, r0⟩ := trodAll_cons hA
  obtain ⟨v1, vs1, d1, ds1, p1, q1, rfl, rfl, rfl, h1, r1⟩ := trodAll_cons r0
  obtain ⟨v2, vs2, d2, ds2, p2, q2, rfl, rfl, rfl, h2, r2⟩ := trodAll_cons r1
  obtain ⟨v3, vs3, d3, ds3, p3, q3, rfl, rfl, rfl, h3, r3⟩ := trodAll_cons r2
  obtain ⟨rfl, rfl, rfl⟩ := trodAll_nil r3
  obtain rfl : args = #[v0, v1, v2, v3] := by cases args; simp_all
  obtain ⟨rfl, rfl⟩ := trodVars_none hV
  obtain ⟨a0, rfl, rfl, rfl, w0⟩ := open_int Try.underlying3 (hval 0 3 v0 rfl rfl) h0
  obtain ⟨a1, rfl, rfl, rfl, w1⟩ := open_int Try.underlying3 (hval 1 3 v1 rfl rfl) h1
  obtain ⟨a2, rfl, rfl, rfl, w2⟩ := open_int Try.underlying3 (hval 2 3 v2 rfl rfl) h2
  obtain ⟨a3, rfl, rfl, rfl, w3⟩ := open_int Try.underlying22 (hval 3 22 v3 rfl rfl) h3
  clear hA0 hval0
  refine (walk a0 a1 a2 a3 w0 w1 w2 w3 W).mono fun e W' ⟨he, hb⟩ => ?_
  subst he
  exact ⟨_, rfl, lift.post_law (tb := 4) laidOut (by rw [Try.params6]; exact fun t ht => (of_decide_eq_true (by kernel_rfl) : ∀ t ∈ [3, 3, 3, 22], Try.prog.readableRec t = true ∧ t < Try.prog.types.size) t ht) (by kernel_rfl) Try.underlying4 rfl hW' rfl hb⟩
theorem over : Rows.layoutFreshRow.holds Try.pinned (OpenSpec.ofChange Rows.layoutFreshSpec) :=
  OpenClaim.holds_of_wide 6 Try.f6 rfl rfl rfl rfl rfl rfl rfl ⟨rfl, rfl, rfl, rfl, rfl⟩ rfl rfl rfl rfl rfl (by kernel_rfl) Try.func6 (by kernel_rfl)
    (of_decide_eq_true (by kernel_rfl)) (by unfold Func.isWrapper; first | (rw [if_pos (by decide +kernel)]; kernel_rfl) | (rw [if_neg (by decide +kernel)]; exact ⟨rfl, rfl⟩))
    (fun os started H enc _ => lifted os started H enc)
theorem proved : Rows.LayoutFreshSaid :=
  over
end Go.Proofs.Ytcacahokdnpboaa.layoutFresh
