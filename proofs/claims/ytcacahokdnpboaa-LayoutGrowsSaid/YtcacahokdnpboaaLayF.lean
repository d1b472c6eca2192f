/- Package hatstandref6, on: the fresh words; over this seat's program. -/
import Derived.Test.YtcacahokdnpboaaLayS
namespace Go.Proofs.Ytcacahokdnpboaa.ly
open Go.ChangeShapes Go.WideShapes Go.ChangeAt Go.RowKit frame lift sep own join
set_option linter.unusedVariables false
theorem info64 : (Try.prog.info? 43).map (fun i => (i.zero, i.size, i.bytes)) = some (some (.int .u64 0), 1, 8) := by kernel_rfl
/-- The fresh words of the first p places. -/
def upto (c : Cf) (p : Nat) : List Int := (List.range p).map (freshF c)
theorem upto_len (c : Cf) (p : Nat) : (upto c p).length = p := by simp [upto]
theorem upto_succ (c : Cf) (p : Nat) : upto c (p + 1) = upto c p ++ [freshF c p] := by simp [upto, List.range_succ]
theorem upto_two (c : Cf) (p : Nat) : upto c (p + 2) = upto c p ++ [freshF c p, freshF c (p + 1)] := by
  rw [upto_succ c (p + 1), upto_succ c p, List.append_assoc]
  rfl
theorem fresh_node {c : Cf} (k : Nat) (hk : (k : Int) < c.nodes) : freshF c (2 + 2 * k) = (if (k : Int) + 1 = c.nodes then 0 else (k : Int) + 2) ∧ freshF c (2 + 2 * k + 1) = 0 := by
  unfold freshF
  constructor
  · rw [if_neg (by omega), if_neg (by omega), if_pos (by push_cast; omega), if_pos (by omega)]
    by_cases h : (k : Int) + 1 = c.nodes
    · rw [if_pos h, if_pos (by push_cast; omega)]
    · rw [if_neg h, if_neg (by push_cast; omega)]
      push_cast
      omega
  · rw [if_neg (by omega), if_neg (by omega), if_pos (by push_cast; omega), if_neg (by omega)]
theorem fresh_slot {c : Cf} (n k : Nat) (hn : (n : Int) = c.nodes) (hn1 : 1 ≤ n) (hk : (k : Int) < c.slots) : freshF c (2 + 2 * n + k) = wordP 0 c.tag := by
  unfold freshF
  rw [if_neg (by omega), if_neg (by omega), if_neg (by push_cast; omega), if_pos (by push_cast; omega)]
theorem fresh_holder {c : Cf} (n s k : Nat) (hn : (n : Int) = c.nodes) (hn1 : 1 ≤ n) (hs : (s : Int) = c.slots) : freshF c (2 + 2 * n + s + k) = 0 := by
  unfold freshF
  rw [if_neg (by omega), if_neg (by omega), if_neg (by push_cast; omega), if_neg (by push_cast; omega)]
theorem ints_two (w : World) (k : IntKind) (x y : Int) (t : TypeId) : Ints (w.alloc (.cells #[.int k x, .int k y] t (0, 0))) k (.slice (some ⟨w.heap.size, 0, none⟩) 2 2) [x, y] := by
  refine .inr ⟨Nat.succ_pos _, w.heap.size, 0, 2, rfl, Nat.le_refl _, by simp [maxLen], by simp, fun i hi => ?_⟩
  have := cell_of_row (w.alloc (.cells #[.int k x, .int k y] t (0, 0))) w.heap.size i _ _ _ (heap_alloc_new w _)
  rw [Nat.zero_add, this]
  match i, hi with
  | 0, _ => rfl
  | 1, _ => rfl
theorem own_two {w : World} {B : Nat} (k : IntKind) (x y : Int) (t : TypeId) (hB : B ≤ w.heap.size) : Own (w.alloc (.cells #[.int k x, .int k y] t (0, 0))) B t k (.slice (some ⟨w.heap.size, 0, none⟩) 2 2) [x, y] :=
  ⟨rfl, .inr ⟨w.heap.size, 2, #[.int k x, .int k y], rfl, hB, heap_alloc_new w _, Nat.le_refl _, by simp [maxLen], rfl, rfl⟩⟩
theorem ints_one (w : World) (k : IntKind) (x : Int) (t : TypeId) : Ints (w.alloc (.cells #[.int k x] t (0, 0))) k (.slice (some ⟨w.heap.size, 0, none⟩) 1 1) [x] := by
  refine .inr ⟨Nat.succ_pos _, w.heap.size, 0, 1, rfl, Nat.le_refl _, by simp [maxLen], by simp, fun i hi => ?_⟩
  have := cell_of_row (w.alloc (.cells #[.int k x] t (0, 0))) w.heap.size i _ _ _ (heap_alloc_new w _)
  rw [Nat.zero_add, this]
  match i, hi with
  | 0, _ => rfl
/-- Words that a call made anew. -/
def Made (w : World) (l : List Int) (e : Ending) (w' : World) (f : Value → Value) : Prop := ∃ t, e = .returned (f t) ∧ Own w' w.heap.size 43 .u64 t l ∧ Below w.heap.size w w'
def TagOk (c : Cf) : Prop := 0 ≤ c.tag ∧ c.tag ≤ 4294967295
set_option maxHeartbeats 8000000 in
theorem rfresh_any (c : Cf) (ht : TagOk c) (w : World) : Calls Try.prog 13 #[.agg #[.int .i64 c.nodes, .int .i64 c.slots, .int .i64 c.holders, .int .u32 c.tag]] w fun e w' => Made w (freshL c) e w' (fun t => .tuple #[t, .int .i64 (checkE c)]) := by
  have HC := fun w => rcheck_any c w
  have hcase := checkE_is c
  obtain ⟨t0, t1⟩ := ht
  have hfl : freshL c = upto c (cellsN c).toNat := rfl
  have hw0 : freshF c 0 = wordP 0 c.tag := rfl
  have hw1 : freshF c 1 = wordP 1 c.tag := rfl
  have hcn : Ok c → cellsN c = 2 + 2 * c.nodes + c.slots + c.holders := fun h => by simp [cellsN, h]
  have hcn0 : ¬ Ok c → cellsN c = 0 := fun h => by simp [cellsN, h]
  have hnode := fun k => fresh_node (c := c) k
  have hslot := fun n k => fresh_slot (c := c) n k
  have hhold := fun n s k => fresh_holder (c := c) n s k
  have hokn : Ok c → (1 ≤ c.nodes ∧ c.nodes ≤ 64 ∧ 0 ≤ c.slots ∧ c.slots ≤ 16 ∧ 0 ≤ c.holders ∧ c.holders ≤ 64) := id
  obtain ⟨P, hP⟩ : ∃ P : Nat → List Int, upto c = P := ⟨_, rfl⟩
  have hP1 := upto_succ c; have hP2 := upto_two c; have hPl := upto_len c
  have hP0 : upto c 2 = [wordP 0 c.tag, wordP 1 c.tag] := rfl
  obtain ⟨Fr, hFr⟩ : ∃ Fr : Nat → Int, freshF c = Fr := ⟨_, rfl⟩
  rw [hP] at hfl hP1 hP2 hPl hP0
  rw [hFr] at hw0 hw1 hP1 hP2
  simp only [hFr] at hnode hslot hhold
  rcases hcase with ⟨hok, hE⟩ | ⟨hok, hE⟩
  · have hcn := hcn hok
    obtain ⟨b1, b2, b3, b4, b5, b6⟩ := hokn hok
    rw [hfl, hcn]
    clear hcn0 hok hokn hP hFr hfl
    obtain ⟨n, s, h, t⟩ := c
    dsimp only at HC hE b1 b2 b3 b4 b5 b6 t0 t1 hw0 hw1 hP0 hnode hslot hhold ⊢
    obtain ⟨n, rfl⟩ : ∃ n' : Nat, n = n' := ⟨n.toNat, by omega⟩
    obtain ⟨s, rfl⟩ : ∃ n' : Nat, s = n' := ⟨s.toNat, by omega⟩
    obtain ⟨h, rfl⟩ : ∃ n' : Nat, h = n' := ⟨h.toNat, by omega⟩
    have hn : (2 + 2 * (n : Int) + (s : Int) + (h : Int)).toNat = 2 + 2 * n + s + h := by omega
    rw [hn]
    have HE := Lib.hid hE
    have HP0 := Lib.hid hP0; have HP1 := Lib.hid hP1; have HP2 := Lib.hid hP2; have HPL := Lib.hid hPl; have HND := Lib.hid hnode; have HSL := Lib.hid hslot; have HHO := Lib.hid hhold
    obtain ⟨W0, hW0⟩ : ∃ W0, wordP 0 t = W0 := ⟨_, rfl⟩
    obtain ⟨W1, hW1⟩ : ∃ W1, wordP 1 t = W1 := ⟨_, rfl⟩
    rw [hW0, hW1] at HP0
    have HW0 := Lib.hid hW0; have HW1 := Lib.hid hW1
    clear hE hP0 hP1 hP2 hPl hnode hslot hhold hw0 hw1 hcn hn hW0 hW1
    go_enter Try.func13, Try.ntmps13
    go_wp2_with fail
    refine (HC _).mono ?_
    rintro e w1 ⟨rfl, hb⟩
    rw [HE.out]
    obtain ⟨hb1, c0, c1, c2, c3⟩ := boxed hb
    have HB := Lib.hid hb1
    have hlt : w.heap.size < w1.heap.size := Nat.lt_of_lt_of_le (by simp) hb.size
    have HLT := Lib.hid hlt
    have HC0 := Lib.hid c0; have HC1 := Lib.hid c1; have HC2 := Lib.hid c2; have HC3 := Lib.hid c3
    clear hb hb1 hlt HC
    go_wp2_with fail
    go_region_held3 (fun w' => w'.cell? ⟨w.heap.size, 3, none⟩ = some (.int .u32 t)) (go_keep) ((go_at_call 36; (refine (rword_any _ t ?_ ?_ t0 t1 _).mono ?_); (focus decide); (focus decide); rintro e w5 ⟨rfl, rfl⟩; first | rw [HW0.out] | rw [HW1.out]))
    have HO2 : Hid (Own (w1.drew.alloc (.cells #[.int .u64 W0, .int .u64 W1] 43 (0, 0))) w1.heap.size 43 .u64 (.slice (some ⟨w1.heap.size, 0, none⟩) 2 2) (P 2)) := by
      rw [HP0.out]
      exact own_two .u64 W0 W1 43 (Nat.le_refl _)
    have HB2 : Hid (Below w.heap.size w (w1.drew.alloc (.cells #[.int .u64 W0, .int .u64 W1] 43 (0, 0)))) := HB.out.drew.alloc HB.out.size _
    have HK2 : Hid (Below w1.heap.size w1 (w1.drew.alloc (.cells #[.int .u64 W0, .int .u64 W1] 43 (0, 0)))) := (Below.refl _ _).drew.alloc (Nat.le_refl _) _
    go_wp2_with fail
    go_loopw [5, 6] (fun nv i wr => ∃ (k : Nat) (vv : Value), nv = vv ∧ i = .int .i64 ((k + 1 : Nat) : Int) ∧ k ≤ n ∧ Hid (Own wr w1.heap.size 43 .u64 vv (P (2 + 2 * k))) ∧ Hid (Below w1.heap.size w1 wr)) (fun _ i _ => n + 1 - (intOf i).toNat)
    case atStart => exact ⟨0, _, rfl, rfl, Nat.zero_le _, HO2.out, HK2.out⟩
    case round =>
      obtain ⟨k, vv, hvv, rfl, hk, HO, HK⟩ := hrel
      have hv2 := hvv.symm
      clear hvv
      subst hv2
      have d0 := (HK.out.cell (p := ⟨w.heap.size, 0, none⟩) HLT.out).trans HC0.out
      have d1 := (HK.out.cell (p := ⟨w.heap.size, 1, none⟩) HLT.out).trans HC1.out
      have d2 := (HK.out.cell (p := ⟨w.heap.size, 2, none⟩) HLT.out).trans HC2.out
      have d3 := (HK.out.cell (p := ⟨w.heap.size, 3, none⟩) HLT.out).trans HC3.out
      have HBW := Lib.hid (below_trans HB.out HK.out)
      by_cases hlt : k < n
      · have hle : (k : Int) + 1 ≤ (n : Int) := by omega
        have hw1 : IntKind.i64.wrap ((k : Int) + 1 + 1) = (k : Int) + 1 + 1 := IntWalk.i64_in _ (by omega)
        have hw2 : IntKind.u64.wrap ((k : Int) + 1 + 1) = (k : Int) + 1 + 1 := by rw [IntKind.wrap_u64]; omega
        obtain ⟨hn1, hn2⟩ := HND.out k (by omega)
        have hpp := HP2.out (2 + 2 * k)
        rw [hn1, hn2] at hpp
        by_cases hlast : (k : Int) + 1 = (n : Int)
        · rw [if_pos hlast] at hpp
          have HE2 : Hid (P (2 + 2 * (k + 1)) = P (2 + 2 * k) ++ [0, 0]) := hpp
          have hl1 : ((k : Int) + 1 == (n : Int)) = true := by simpa using hlast
          clear hpp hn1 hn2
          go_wp2_with (at_builtin; refine wpList_cat _ rfl _ _ 28 rfl w1.heap.size 43 .u64 (.int .u64 0) 8 Try.underlying28 info64 rfl _ (P (2 + 2 * k)) rfl (HO.out.alloc _) _ [0, 0] rfl (ints_two _ .u64 _ _ _) ?a1 (by decide) ?a2 ?_)
          case a1 => rw [HPL.out]; simp; omega
          case a2 => exact (HK.out.alloc HK.out.size _).size
          intro v6 w6 hown hgrow
          have HK6 := Lib.hid (below_grown (HK.out.alloc HK.out.size _) hgrow (HO.out.alloc _) (Nat.le_refl _))
          have HO6 : Hid (Own w6 w1.heap.size 43 .u64 v6 (P (2 + 2 * (k + 1)))) := by
            rw [HE2.out]
            exact hown
          clear hown hgrow
          go_wp2_with fail
          go_roundw
          case rel => exact ⟨k + 1, v6, rfl, by go_num, by omega, HO6.out, HK6.out⟩
          case measure => simp [intOf]; omega
        · rw [if_neg hlast] at hpp
          have HE2 : Hid (P (2 + 2 * (k + 1)) = P (2 + 2 * k) ++ [(k : Int) + 1 + 1, 0]) := by
            have e : (k : Int) + 1 + 1 = (k : Int) + 2 := by omega
            rw [e]
            exact hpp
          have hl1 : ((k : Int) + 1 == (n : Int)) = false := by simpa using hlast
          clear hpp hn1 hn2
          go_wp2_with (at_builtin; refine wpList_cat _ rfl _ _ 28 rfl w1.heap.size 43 .u64 (.int .u64 0) 8 Try.underlying28 info64 rfl _ (P (2 + 2 * k)) rfl (HO.out.alloc _) _ [(k : Int) + 1 + 1, 0] rfl (ints_two _ .u64 _ _ _) ?b1 (by decide) ?b2 ?_)
          case b1 => rw [HPL.out]; simp; omega
          case b2 => exact (HK.out.alloc HK.out.size _).size
          intro v6 w6 hown hgrow
          have HK6 := Lib.hid (below_grown (HK.out.alloc HK.out.size _) hgrow (HO.out.alloc _) (Nat.le_refl _))
          have HO6 : Hid (Own w6 w1.heap.size 43 .u64 v6 (P (2 + 2 * (k + 1)))) := by
            rw [HE2.out]
            exact hown
          clear hown hgrow
          go_wp2_with fail
          go_roundw
          case rel => exact ⟨k + 1, v6, rfl, by go_num, by omega, HO6.out, HK6.out⟩
          case measure => simp [intOf]; omega
      · have hgt : ¬ (k : Int) + 1 ≤ (n : Int) := by omega
        have HO0 : Hid (Own wr w1.heap.size 43 .u64 vv (P (2 + 2 * n + 0))) := by
          have : k = n := by omega
          rw [← this]
          exact HO.out
        go_wp2_with fail
        go_loopw [5, 8] (fun nv i wv => ∃ (k : Nat) (vv : Value), nv = vv ∧ i = .int .i64 k ∧ k ≤ s ∧ Hid (Own wv w1.heap.size 43 .u64 vv (P (2 + 2 * n + k))) ∧ Hid (Below w1.heap.size w1 wv)) (fun _ i _ => s - (intOf i).toNat)
        case atStart => exact ⟨0, _, rfl, rfl, Nat.zero_le _, HO0.out, HK.out⟩
        case round =>
          clear HK HO HO0 HBW d0 d1 d2 d3 hlt hgt hk
          obtain ⟨k, vv, hvv, rfl, hk, HO, HK⟩ := hrel
          have hv2 := hvv.symm
          clear hvv
          subst hv2
          have d0 := (HK.out.cell (p := ⟨w.heap.size, 0, none⟩) HLT.out).trans HC0.out
          have d1 := (HK.out.cell (p := ⟨w.heap.size, 1, none⟩) HLT.out).trans HC1.out
          have d2 := (HK.out.cell (p := ⟨w.heap.size, 2, none⟩) HLT.out).trans HC2.out
          have d3 := (HK.out.cell (p := ⟨w.heap.size, 3, none⟩) HLT.out).trans HC3.out
          by_cases hlt : k < s
          · have hi1 : (0 : Int) ≤ (k : Int) := by omega
            have hi2 : (k : Int) < (s : Int) := by omega
            have HE2 : Hid (P (2 + 2 * n + (k + 1)) = P (2 + 2 * n + k) ++ [W0]) := by
              have := HP1.out (2 + 2 * n + k)
              rw [HSL.out n k rfl (by omega) (by omega), HW0.out] at this
              exact this
            go_wp2_with fail
            refine (rword_any 0 t (by decide) (by decide) t0 t1 _).mono ?_
            rintro e w5 ⟨rfl, rfl⟩
            rw [HW0.out]
            go_wp2_with (at_builtin; refine wpList_push _ rfl _ _ 28 rfl w1.heap.size 43 .u64 (.int .u64 0) 8 Try.underlying28 info64 rfl _ (P (2 + 2 * n + k)) W0 rfl (HO.out.alloc _) ⟨wr.heap.size, 0, none⟩ 1 rfl ?e1 ?e2 (by decide) ?e4 ?_)
            case e1 => exact cell_new _ _ _
            case e2 => rw [HPL.out]; omega
            case e4 => have := HK.out.size; simp; omega
            intro v6 w6 hown hgrow
            have HK6 := Lib.hid (below_grown (HK.out.alloc HK.out.size _) hgrow (HO.out.alloc _) (Nat.le_refl _))
            have HO6 : Hid (Own w6 w1.heap.size 43 .u64 v6 (P (2 + 2 * n + (k + 1)))) := by
              rw [HE2.out]
              exact hown
            clear hown hgrow
            go_wp2_with fail
            go_roundw
            case rel => exact ⟨k + 1, v6, rfl, by go_num, by omega, HO6.out, HK6.out⟩
            case measure => simp [intOf]; omega
          · have hgt : ¬ (k : Int) < (s : Int) := by omega
            have HO0 : Hid (Own wr w1.heap.size 43 .u64 vv (P (2 + 2 * n + s + 0))) := by
              have : k = s := by omega
              rw [← this]
              exact HO.out
            go_wp2_with fail
            go_loopw [5, 9] (fun nv i wv => ∃ (k : Nat) (vv : Value), nv = vv ∧ i = .int .i64 k ∧ k ≤ h ∧ Hid (Own wv w1.heap.size 43 .u64 vv (P (2 + 2 * n + s + k))) ∧ Hid (Below w1.heap.size w1 wv)) (fun _ i _ => h - (intOf i).toNat)
            case atStart => exact ⟨0, _, rfl, rfl, Nat.zero_le _, HO0.out, HK.out⟩
            case round =>
              clear HK HO HO0 d0 d1 d2 d3 hlt hgt hk
              obtain ⟨k, vv, hvv, rfl, hk, HO, HK⟩ := hrel
              have hv2 := hvv.symm
              clear hvv
              subst hv2
              have d0 := (HK.out.cell (p := ⟨w.heap.size, 0, none⟩) HLT.out).trans HC0.out
              have d1 := (HK.out.cell (p := ⟨w.heap.size, 1, none⟩) HLT.out).trans HC1.out
              have d2 := (HK.out.cell (p := ⟨w.heap.size, 2, none⟩) HLT.out).trans HC2.out
              have d3 := (HK.out.cell (p := ⟨w.heap.size, 3, none⟩) HLT.out).trans HC3.out
              by_cases hlt : k < h
              · have hi1 : (0 : Int) ≤ (k : Int) := by omega
                have hi2 : (k : Int) < (h : Int) := by omega
                have HE2 : Hid (P (2 + 2 * n + s + (k + 1)) = P (2 + 2 * n + s + k) ++ [0]) := by
                  have := HP1.out (2 + 2 * n + s + k)
                  rw [HHO.out n s k rfl (by omega) rfl] at this
                  exact this
                go_wp2_with (at_builtin; refine wpList_push _ rfl _ _ 28 rfl w1.heap.size 43 .u64 (.int .u64 0) 8 Try.underlying28 info64 rfl _ (P (2 + 2 * n + s + k)) 0 rfl (HO.out.alloc _) ⟨wr.heap.size, 0, none⟩ 1 rfl ?f1 ?f2 (by decide) ?f4 ?_)
                case f1 => exact cell_new _ _ _
                case f2 => rw [HPL.out]; omega
                case f4 => have := HK.out.size; simp; omega
                intro v6 w6 hown hgrow
                have HK6 := Lib.hid (below_grown (HK.out.alloc HK.out.size _) hgrow (HO.out.alloc _) (Nat.le_refl _))
                have HO6 : Hid (Own w6 w1.heap.size 43 .u64 v6 (P (2 + 2 * n + s + (k + 1)))) := by
                  rw [HE2.out]
                  exact hown
                clear hown hgrow
                go_wp2_with fail
                go_roundw
                case rel => exact ⟨k + 1, v6, rfl, by go_num, by omega, HO6.out, HK6.out⟩
                case measure => simp [intOf]; omega
              · have hgt : ¬ (k : Int) < (h : Int) := by omega
                have hkh : k = h := by omega
                go_wp2_with fail
                go_ret2
                rw [HE.out]
                refine ⟨_, rfl, ?_, below_trans HB.out HK.out⟩
                have := HO.out
                rw [hkh] at this
                exact this.start HB.out.size
  · have hcn := hcn0 hok
    rw [hfl, hcn]
    have HPn : Hid (P 0 = []) := by rw [← hP]; rfl
    clear hcn0 hok hokn hP hFr hfl hnode hslot hhold
    obtain ⟨n, s, h, t⟩ := c
    dsimp only at HC hE ⊢
    have HE := Lib.hid hE
    go_enter Try.func13, Try.ntmps13
    go_wp2_with fail
    refine (HC _).mono ?_
    rintro e w1 ⟨rfl, hb⟩
    rw [hE]
    have HB := Lib.hid (boxed hb).1
    clear hb
    go_wp2_with fail
    go_ret2
    rw [HE.out]
    refine ⟨_, rfl, ?_, HB.out⟩
    show Own _ _ _ _ _ (P 0)
    rw [HPn.out]
    exact ⟨rfl, .inl ⟨rfl, rfl⟩⟩
end Go.Proofs.Ytcacahokdnpboaa.ly
