/- LayoutApart: each place is one thing's, and each thing has one: together they are all from 0 on: no condition. -/
import Derived.Test.YtcacahokdnpboaaLayG
import Derived.Test.YtcacahokdnpboaaLayO
import Derived.Test.YtcacahokdnpboaaHoldR
import Derived.OwnWalk
namespace Go.Proofs.Ytcacahokdnpboaa.layoutApart
open Go.ChangeShapes Go.WideShapes Go.ChangeAt Go.RowKit frame lift sep own join ly
set_option linter.unusedVariables false
theorem infoI : (Try.prog.info? 3).map (fun i => (i.zero, i.size, i.bytes)) = some (some (.int .i64 0), 1, 8) := by kernel_rfl
def iota (p : Nat) : List Int := (List.range p).map fun j : Nat => (j : Int)
def seenL (N k : Nat) : List Int := (List.range N).map fun j : Nat => if j < k then 1 else 0
theorem iota_len (p : Nat) : (iota p).length = p := by simp [iota]
theorem seen_len (N k : Nat) : (seenL N k).length = N := by simp [seenL]
theorem iota_succ (p : Nat) : iota (p + 1) = iota p ++ [(p : Int)] := by simp [iota, List.range_succ]
theorem iota_two (p : Nat) : iota (p + 2) = iota p ++ [(p : Int), (p : Int) + 1] := by
  rw [iota_succ (p + 1), iota_succ p, List.append_assoc]
  rfl
theorem iota_at {p j : Nat} (h : j < p) : ((iota p).map (Value.int .i64))[j]? = some (.int .i64 (j : Int)) := by simp [iota, h]
theorem seen_at {N k j : Nat} (h : j < N) : ((seenL N k).map (Value.int .i64))[j]? = some (.int .i64 (if j < k then 1 else 0)) := by simp [seenL, h]
theorem seen_zero (N : Nat) : seenL N 0 = List.replicate N 0 := by
  apply List.ext_getElem
  · simp [seenL]
  · intro i h1 h2
    simp [seenL]
theorem seen_set {N k : Nat} : (seenL N k).set k 1 = seenL N (k + 1) := by
  apply List.ext_getElem
  · simp [seenL]
  · intro i h1 h2
    rw [List.getElem_set]
    simp [seenL]
    by_cases h : k = i
    · subst h
      simp
    · rw [if_neg h]
      by_cases h3 : i < k
      · rw [if_pos h3, if_pos (by omega)]
      · rw [if_neg h3, if_neg (by omega)]
theorem news1 (w : World) (x : Int) (t : TypeId) : ∀ j u, [Value.int .i64 x][j]? = some u → (w.alloc (.cells #[.int .i64 x] t (0, 0))).cell? ((⟨w.heap.size, 0, none⟩ : Addr).add j) = some u := fun j u hj => by
  rw [add_plain, Nat.zero_add, cell_of_row _ _ j _ _ _ (heap_alloc_new w _)]
  simpa using hj
theorem news2 (w : World) (x y : Int) (t : TypeId) : ∀ j u, [Value.int .i64 x, Value.int .i64 y][j]? = some u → (w.alloc (.cells #[.int .i64 x, .int .i64 y] t (0, 0))).cell? ((⟨w.heap.size, 0, none⟩ : Addr).add j) = some u := fun j u hj => by
  rw [add_plain, Nat.zero_add, cell_of_row _ _ j _ _ _ (heap_alloc_new w _)]
  simpa using hj
theorem one2 (x y : Int) : ∀ u ∈ [Value.int .i64 x, Value.int .i64 y], u.oneCell' = true := fun u hu => by
  simp at hu
  rcases hu with rfl | rfl <;> rfl
set_option maxRecDepth 100000 in
set_option maxHeartbeats 16000000 in
theorem walk (a0 a1 a2 : Int) (f0 : (Lit.int .i64 a0).wf = true) (f1 : (Lit.int .i64 a1).wf = true) (f2 : (Lit.int .i64 a2).wf = true) (w : World) :
    Calls Try.prog 5 #[.int .i64 a0, .int .i64 a1, .int .i64 a2] w fun e w' => e = .returned (.bool true) ∧ Below w.heap.size w w' := by
  have g0 := bd_i64 f0; have g1 := bd_i64 f1; have g2 := bd_i64 f2
  have HCF := Lib.hid (fun w => config_any a0 a1 a2 0 g0 g1 g2 w)
  have hok := cfgOf_ok a0 a1 a2 0
  have htag : (cfgOf a0 a1 a2 0).tag = 0 := rfl
  obtain ⟨c, hc⟩ : ∃ c, cfgOf a0 a1 a2 0 = c := ⟨_, rfl⟩
  rw [hc] at HCF hok htag
  have hcn := cells_ok hok
  obtain ⟨n, s, h, t⟩ := c
  dsimp only at htag HCF hcn
  subst htag
  have HOK := Lib.hid hok
  obtain ⟨b1, b2, b3, b4, b5, b6⟩ := hok
  dsimp only at b1 b2 b3 b4 b5 b6
  clear hc f0 f1 f2
  obtain ⟨n, rfl⟩ : ∃ n' : Nat, n = n' := ⟨n.toNat, by omega⟩
  obtain ⟨s, rfl⟩ : ∃ n' : Nat, s = n' := ⟨s.toNat, by omega⟩
  obtain ⟨h, rfl⟩ : ∃ n' : Nat, h = n' := ⟨h.toNat, by omega⟩
  obtain ⟨N, hN⟩ : ∃ N : Nat, 2 + 2 * n + s + h = N := ⟨_, rfl⟩
  have HN := Lib.hid hN
  have HCN : Hid (cellsN ⟨n, s, h, 0⟩ = (N : Int)) := by unfold Hid; omega
  have hw1 : IntKind.i64.wrap (2 * (n : Int)) = 2 * (n : Int) := IntWalk.i64_in _ (by omega)
  have hw2 : IntKind.i64.wrap (2 + 2 * (n : Int)) = 2 + 2 * (n : Int) := IntWalk.i64_in _ (by omega)
  have hw3 : IntKind.i64.wrap (2 + 2 * (n : Int) + (s : Int)) = 2 + 2 * (n : Int) + (s : Int) := IntWalk.i64_in _ (by omega)
  have hw4 : IntKind.i64.wrap (2 + 2 * (n : Int) + (s : Int) + (h : Int)) = (N : Int) := by rw [IntWalk.i64_in _ (by omega)]; omega
  have hN0 : ¬ (N : Int) < 0 := by omega
  have hN1 : (0 : Int) ≤ (N : Int) := by omega
  have hN2 : N ≤ 300 := by omega
  have hN3 : ¬ (1024 : Int) < (N : Int) := by omega
  have hwn : IntKind.u32.wrap (n : Int) = (n : Int) := by rw [IntKind.wrap_u32]; omega
  have hwn1 : IntKind.u32.wrap ((n : Int) + 1) = (n : Int) + 1 := by rw [IntKind.wrap_u32]; omega
  obtain ⟨ii, hi, hz0, hz1, hz2⟩ := info_parts infoI
  have J1 := Lib.hid hi; have J2 := Lib.hid hz0; have J3 := Lib.hid hz1; have J4 := Lib.hid hz2; clear hi hz0 hz1 hz2 hcn hN
  go_enter Try.func5, Try.ntmps5
  go_wp2_with fail
  refine (shown_any _).mono ?_
  rintro e w1 ⟨rfl, hb⟩
  have H1 := Lib.hid ((Hold.empty w).on hb)
  clear hb
  go_wp2_with fail
  refine (HCF.out _).mono ?_
  rintro e w2 ⟨rfl, hb⟩
  have h2 := (H1.out.on hb).newBlk (Obj.cells #[.int .i64 n, .int .i64 s, .int .i64 h, .int .u32 0] 24)
  obtain ⟨Bc, hBc⟩ : ∃ B, w2.heap.size = B := ⟨_, rfl⟩
  rw [hBc] at h2
  have H2 := Lib.hid h2
  obtain ⟨c0, c1, c2, c3⟩ := cfAt H2.out (b := Bc) (n := n) (s := s) (h := h) (t := 0) (e := 24) (by simp)
  clear hb h2
  go_wp2_with (at_make; refine wpList_make_full _ rfl _ _ 54 rfl _ 3 ii (.int .i64 0) 1 Try.underlying54 J1.out J2.out J3.out _ _ _ _ N rfl rfl rfl rfl ?m1 ?m2 (Nat.le_refl _) ?_)
  case m1 => rw [J4.out]; omega
  case m2 => simp only [maxLen]; omega
  intro w3 hown hgrow
  have hb3 : Below (w2.alloc (Obj.cells #[.int .i64 n, .int .i64 s, .int .i64 h, .int .u32 0] 24)).heap.size (w2.alloc (Obj.cells #[.int .i64 n, .int .i64 s, .int .i64 h, .int .u32 0] 24)) w3 := ⟨hgrow.os, hgrow.tape, hgrow.output, hgrow.size, fun k hk => hgrow.block k hk (by simp)⟩
  have hsz : (w2.alloc (Obj.cells #[.int .i64 n, .int .i64 s, .int .i64 h, .int .u32 0] 24)).heap.size = Bc + 1 := by simp [hBc]
  have hown2 : Own w3 (w2.alloc (Obj.cells #[.int .i64 n, .int .i64 s, .int .i64 h, .int .u32 0] 24)).heap.size 3 .i64 (.slice (some ⟨(w2.alloc (Obj.cells #[.int .i64 n, .int .i64 s, .int .i64 h, .int .u32 0] 24)).heap.size, 0, none⟩) N N) (seenL N 0) := by
    unfold Own
    rw [hsz, seen_len, seen_zero]
    rw [toList_madeCells_one] at hown
    simpa using hown
  have h3 := H2.out.made hb3 hown2
  rw [hsz, seen_len] at h3
  have H3 := Lib.hid h3
  clear hown hgrow hb3 hown2 h3 hsz c0 c1 c2 c3
  obtain ⟨c0, c1, c2, c3⟩ := cfAt H3.out (b := Bc) (n := n) (s := s) (h := h) (t := 0) (e := 24) (by simp)
  have h4 := (H3.out.newBlk (Obj.cells #[.int .i64 0, .int .i64 1] 3)).blkRow (n := 2) (size := 1) rfl (by simp [maxLen])
  obtain ⟨ga0, hga⟩ : ∃ ga, w3.heap.size = ga := ⟨_, rfl⟩
  rw [hga] at h4
  have H4 : Hid (Hold (fun _ => False) w [row 3 1 (.slice (some ⟨ga0, 0, none⟩) 2 2) 2 ((iota 2).map (Value.int .i64)), row 3 1 (.slice (some ⟨Bc + 1, 0, none⟩) N N) N ((seenL N 0).map (Value.int .i64)), blk Bc (Obj.cells #[.int .i64 n, .int .i64 s, .int .i64 h, .int .u32 0] 24)] (w3.alloc (Obj.cells #[.int .i64 0, .int .i64 1] 3))) := h4
  clear h4
  go_wp2_with fail
  clear hBc hga c0 c1 c2 c3
  go_loopw [10, 11] (fun nv iv wr => ∃ (k P ga ca : Nat), nv = .slice (some ⟨ga, 0, none⟩) P ca ∧ iv = .int .u32 ((k : Int) + 1) ∧ k ≤ n ∧ Hid (P = 2 + 2 * k) ∧ Hid (Hold (fun _ => False) w [row 3 1 (.slice (some ⟨ga, 0, none⟩) P ca) P ((iota P).map (Value.int .i64)), row 3 1 (.slice (some ⟨Bc + 1, 0, none⟩) N N) N ((seenL N 0).map (Value.int .i64)), blk Bc (Obj.cells #[.int .i64 n, .int .i64 s, .int .i64 h, .int .u32 0] 24)] wr)) (fun _ iv _ => 70 - (intOf iv).toNat)
  case atStart => exact ⟨0, 2, ga0, 2, rfl, rfl, Nat.zero_le _, rfl, H4.out⟩
  case round =>
    obtain ⟨k, P, ga, ca, rfl, rfl, hk, HP, HX⟩ := hrel
    obtain ⟨c0, c1, c2, c3⟩ := cfAt HX.out (b := Bc) (n := n) (s := s) (h := h) (t := 0) (e := 24) (by simp)
    by_cases hlt : (k : Int) + 1 ≤ (n : Int)
    · have hj0 : 0 ≤ (k : Int) + 1 := by omega
      have hj1 : (k : Int) + 1 ≤ 4294967295 := by omega
      have hwj : IntKind.u32.wrap ((k : Int) + 1 + 1) = (k : Int) + 1 + 1 := by rw [IntKind.wrap_u32]; omega
      have X1 : Hid (nextP ⟨n, s, h, 0⟩ ((k : Int) + 1) = (P : Int)) := by rw [HP.out]; simp [Hid, nextP, HOK.out]; omega
      have X2 : Hid (valueP ⟨n, s, h, 0⟩ ((k : Int) + 1) = (P : Int) + 1) := by rw [HP.out]; simp [Hid, valueP, HOK.out]; omega
      have hq1 : P + 2 ≤ maxLen := by have := HP.out; simp only [maxLen]; omega
      have hq2 : (P + 2) * 8 ≤ 140737488355328 := by have := HP.out; omega
      have HQ1 := Lib.hid hq1; have HQ2 := Lib.hid hq2
      have HP2 : Hid (P + 2 = 2 + 2 * (k + 1)) := by have := HP.out; unfold Hid; omega
      have HI2 := Lib.hid (iota_two P)
      have HXd := Lib.hid HX.out.drew
      clear hq1 hq2
      go_wp2_with fail
      clear c0 c1 c2 c3
      obtain ⟨c0, c1, c2, c3⟩ := cfAt HXd.out (b := Bc) (n := n) (s := s) (h := h) (t := 0) (e := 24) (by simp)
      go_region_held3 (fun w' => w'.cell? ⟨Bc, 0, none⟩ = some (.int .i64 n) ∧ w'.cell? ⟨Bc, 1, none⟩ = some (.int .i64 s) ∧ w'.cell? ⟨Bc, 2, none⟩ = some (.int .i64 h) ∧ w'.cell? ⟨Bc, 3, none⟩ = some (.int .u32 0)) (go_keep) (first
        | (go_at_call 16; (refine (next_p n s h 0 _ hj0 hj1 _).mono ?_); rintro e w12 ⟨rfl, hb⟩; rw [X1.out]; (have HX2 := Lib.hid (HXd.out.on hb)); (obtain ⟨c0, c1, c2, c3⟩ := cfAt HX2.out (b := Bc) (n := n) (s := s) (h := h) (t := 0) (e := 24) (by simp)); clear hb)
        | (go_at_call 18; (refine (value_p n s h 0 _ hj0 hj1 _).mono ?_); rintro e w13 ⟨rfl, hb⟩; rw [X2.out]; (have HX3 := Lib.hid (HX2.out.on hb)); (obtain ⟨c0, c1, c2, c3⟩ := cfAt HX3.out (b := Bc) (n := n) (s := s) (h := h) (t := 0) (e := 24) (by simp)); (have HX3a := Lib.hid (HX3.out.alloc (Obj.cells #[.int .i64 P, .int .i64 ((P : Int) + 1)] 3))); (have HR3 := Lib.hid (HX3a.out.rowIs (e := 3) (size := 1) (List.mem_cons_self ..))); clear hb)
        | ((refine step_append_lies _ rfl _ _ 54 rfl 0 3 ii (.int .i64 0) 1 8 Try.underlying54 J1.out J2.out J3.out J4.out rfl (by decide) (.slice (some ⟨ga, 0, none⟩) P ca) P _ rfl HR3.out ⟨w13.heap.size, 0, none⟩ 2 2 [.int .i64 P, .int .i64 ((P : Int) + 1)] rfl rfl (news2 w13 _ _ _) (one2 _ _) (by decide) HQ1.out HQ2.out (Nat.zero_le _) (w13.heap.size + 1) (by simp) ?_); intro g6 c6 w14 hown hgrow hat hlt6; (have HX4 := Lib.hid (HX3a.out.appended (n' := P + 2) (xs' := (iota P).map (Value.int .i64) ++ [.int .i64 P, .int .i64 ((P : Int) + 1)]) hown hgrow (by simpa using hat) hlt6)); (obtain ⟨c0, c1, c2, c3⟩ := cfAt HX4.out (b := Bc) (n := n) (s := s) (h := h) (t := 0) (e := 24) (by simp)); clear hown hgrow hat))
      have HX5 : Hid (Hold (fun _ => False) w [row 3 1 (.slice (some ⟨g6, 0, none⟩) (P + 2) c6) (P + 2) ((iota (P + 2)).map (Value.int .i64)), row 3 1 (.slice (some ⟨Bc + 1, 0, none⟩) N N) N ((seenL N 0).map (Value.int .i64)), blk Bc (Obj.cells #[.int .i64 n, .int .i64 s, .int .i64 h, .int .u32 0] 24)] w14) := by
        rw [HI2.out, List.map_append]
        exact HX4.out
      go_wp2_with fail
      go_roundw
      case rel => exact ⟨k + 1, P + 2, g6, c6, rfl, by go_num, by omega, HP2.out, HX5.out⟩
      case measure => simp [intOf]; omega
    · have hkn : k = n := by omega
      have HPn : Hid (P = 2 + 2 * n + 0) := by have := HP.out; unfold Hid; omega
      go_wp2_with fail
      clear hkn
      have hkn : k = n := by omega
      go_loopw [10, 12] (fun nv iv wr => ∃ (k P ga ca : Nat), nv = .slice (some ⟨ga, 0, none⟩) P ca ∧ iv = .int .i64 k ∧ k ≤ s ∧ Hid (P = 2 + 2 * n + k) ∧ Hid (Hold (fun _ => False) w [row 3 1 (.slice (some ⟨ga, 0, none⟩) P ca) P ((iota P).map (Value.int .i64)), row 3 1 (.slice (some ⟨Bc + 1, 0, none⟩) N N) N ((seenL N 0).map (Value.int .i64)), blk Bc (Obj.cells #[.int .i64 n, .int .i64 s, .int .i64 h, .int .u32 0] 24)] wr)) (fun _ iv _ => 70 - (intOf iv).toNat)
      case atStart => exact ⟨0, P, ga, ca, rfl, rfl, Nat.zero_le _, HPn.out, HX.out⟩
      case round =>
        clear HX HP HPn hlt hk hkn c0 c1 c2 c3
        obtain ⟨k, P, ga, ca, rfl, rfl, hk, HP, HX⟩ := hrel
        obtain ⟨c0, c1, c2, c3⟩ := cfAt HX.out (b := Bc) (n := n) (s := s) (h := h) (t := 0) (e := 24) (by simp)
        by_cases hlt : (k : Int) < (s : Int)
        · have hk0 : (0 : Int) ≤ (k : Int) := by omega
          have X1 : Hid (slotP ⟨n, s, h, 0⟩ k = (P : Int)) := by rw [HP.out]; simp [Hid, slotP, HOK.out]; omega
          have HP2 : Hid (P + 1 = 2 + 2 * n + (k + 1)) := by have := HP.out; unfold Hid; omega
          have HI2 := Lib.hid (iota_succ P)
          go_wp2_with fail
          refine (slot_p n s h 0 k _).mono ?_
          rintro e w12 ⟨rfl, hb⟩
          rw [X1.out]
          have HX2 := Lib.hid (HX.out.on hb)
          have HR := Lib.hid (HX2.out.rowIs (e := 3) (size := 1) (List.mem_cons_self ..))
          clear hb c0 c1 c2 c3
          go_wp2_with ((at_builtin; (refine wpList_append_lies _ rfl _ _ 54 rfl 0 3 ii (.int .i64 0) 1 8 Try.underlying54 J1.out J2.out J3.out J4.out rfl (by decide) (.slice (some ⟨ga, 0, none⟩) P ca) P _ rfl (HR.out.alloc _) ⟨w12.heap.size, 0, none⟩ 1 1 [.int .i64 P] rfl rfl (news1 w12 _ _) ?e2 (by decide) ?e3 ?e4 (Nat.zero_le _) (w12.heap.size + 1) (by simp) ?_)))
          case e2 => intro u hu; simp at hu; subst hu; rfl
          case e3 => have := HP.out; simp only [maxLen]; omega
          case e4 => have := HP.out; omega
          intro g6 c6 w14 hown hgrow hat hlt6
          have hx4 := (HX2.out.alloc (Obj.cells #[.int .i64 P] 3)).appended (n' := P + 1) (xs' := (iota P).map (Value.int .i64) ++ [.int .i64 P]) hown hgrow (by simpa using hat) hlt6
          have HX5 : Hid (Hold (fun _ => False) w [row 3 1 (.slice (some ⟨g6, 0, none⟩) (P + 1) c6) (P + 1) ((iota (P + 1)).map (Value.int .i64)), row 3 1 (.slice (some ⟨Bc + 1, 0, none⟩) N N) N ((seenL N 0).map (Value.int .i64)), blk Bc (Obj.cells #[.int .i64 n, .int .i64 s, .int .i64 h, .int .u32 0] 24)] w14) := by
            rw [HI2.out, List.map_append]
            exact hx4
          clear hown hgrow hat hx4
          go_wp2_with fail
          go_roundw
          case rel => exact ⟨k + 1, P + 1, g6, c6, rfl, by go_num, by omega, HP2.out, HX5.out⟩
          case measure => simp [intOf]; omega
        · have hkn : k = s := by omega
          have hge : ¬ (k : Int) < (s : Int) := hlt
          have HPn : Hid (P = 2 + 2 * n + s + 0) := by have := HP.out; unfold Hid; omega
          go_wp2_with fail
          clear hge
          go_loopw [10, 13] (fun nv iv wr => ∃ (k P ga ca : Nat), nv = .slice (some ⟨ga, 0, none⟩) P ca ∧ iv = .int .i64 k ∧ k ≤ h ∧ Hid (P = 2 + 2 * n + s + k) ∧ Hid (Hold (fun _ => False) w [row 3 1 (.slice (some ⟨ga, 0, none⟩) P ca) P ((iota P).map (Value.int .i64)), row 3 1 (.slice (some ⟨Bc + 1, 0, none⟩) N N) N ((seenL N 0).map (Value.int .i64)), blk Bc (Obj.cells #[.int .i64 n, .int .i64 s, .int .i64 h, .int .u32 0] 24)] wr)) (fun _ iv _ => 70 - (intOf iv).toNat)
          case atStart => exact ⟨0, P, ga, ca, rfl, rfl, Nat.zero_le _, HPn.out, HX.out⟩
          case round =>
            clear HX HP HPn hlt hk hkn c0 c1 c2 c3
            obtain ⟨k, P, ga, ca, rfl, rfl, hk, HP, HX⟩ := hrel
            obtain ⟨c0, c1, c2, c3⟩ := cfAt HX.out (b := Bc) (n := n) (s := s) (h := h) (t := 0) (e := 24) (by simp)
            by_cases hlt : (k : Int) < (h : Int)
            · have hk0 : (0 : Int) ≤ (k : Int) := by omega
              have X1 : Hid (holderP ⟨n, s, h, 0⟩ k = (P : Int)) := by rw [HP.out]; simp [Hid, holderP, HOK.out]; omega
              have HP2 : Hid (P + 1 = 2 + 2 * n + s + (k + 1)) := by have := HP.out; unfold Hid; omega
              have HI2 := Lib.hid (iota_succ P)
              go_wp2_with fail
              refine (holder_p n s h 0 k _).mono ?_
              rintro e w12 ⟨rfl, hb⟩
              rw [X1.out]
              have HX2 := Lib.hid (HX.out.on hb)
              have HR := Lib.hid (HX2.out.rowIs (e := 3) (size := 1) (List.mem_cons_self ..))
              clear hb c0 c1 c2 c3
              go_wp2_with ((at_builtin; (refine wpList_append_lies _ rfl _ _ 54 rfl 0 3 ii (.int .i64 0) 1 8 Try.underlying54 J1.out J2.out J3.out J4.out rfl (by decide) (.slice (some ⟨ga, 0, none⟩) P ca) P _ rfl (HR.out.alloc _) ⟨w12.heap.size, 0, none⟩ 1 1 [.int .i64 P] rfl rfl (news1 w12 _ _) ?f2 (by decide) ?f3 ?f4 (Nat.zero_le _) (w12.heap.size + 1) (by simp) ?_)))
              case f2 => intro u hu; simp at hu; subst hu; rfl
              case f3 => have := HP.out; simp only [maxLen]; omega
              case f4 => have := HP.out; omega
              intro g6 c6 w14 hown hgrow hat hlt6
              have hx4 := (HX2.out.alloc (Obj.cells #[.int .i64 P] 3)).appended (n' := P + 1) (xs' := (iota P).map (Value.int .i64) ++ [.int .i64 P]) hown hgrow (by simpa using hat) hlt6
              have HX5 : Hid (Hold (fun _ => False) w [row 3 1 (.slice (some ⟨g6, 0, none⟩) (P + 1) c6) (P + 1) ((iota (P + 1)).map (Value.int .i64)), row 3 1 (.slice (some ⟨Bc + 1, 0, none⟩) N N) N ((seenL N 0).map (Value.int .i64)), blk Bc (Obj.cells #[.int .i64 n, .int .i64 s, .int .i64 h, .int .u32 0] 24)] w14) := by
                rw [HI2.out, List.map_append]
                exact hx4
              clear hown hgrow hat hx4
              go_wp2_with fail
              go_roundw
              case rel => exact ⟨k + 1, P + 1, g6, c6, rfl, by go_num, by omega, HP2.out, HX5.out⟩
              case measure => simp [intOf]; omega
            · have hkn : k = h := by omega
              have hge : ¬ (k : Int) < (h : Int) := hlt
              have HPN : Hid (P = N) := by have h1 := HP.out; have h2 := HN.out; unfold Hid; omega
              have hPN : P = N := HPN.out
              subst hPN
              clear HPN
              go_wp2_with fail
              refine (cells_p n s h 0 _).mono ?_
              rintro e w20 ⟨rfl, hb⟩
              rw [HCN.out]
              have HX20 := Lib.hid (HX.out.on hb)
              clear hb c0 c1 c2 c3
              obtain ⟨c0, c1, c2, c3⟩ := cfAt HX20.out (b := Bc) (n := n) (s := s) (h := h) (t := 0) (e := 24) (by simp)
              go_wp2_with fail
              refine (cells_p n s h 0 _).mono ?_
              rintro e w21 ⟨rfl, hb⟩
              rw [HCN.out]
              have HX21 := Lib.hid (HX20.out.on hb)
              clear hb c0 c1 c2 c3 HP HX
              go_wp2_with fail
              go_loopw [14] (fun iv wr => ∃ k : Nat, iv = .int .i64 k ∧ k ≤ P ∧ Hid (Hold (fun _ => False) w [row 3 1 (.slice (some ⟨ga, 0, none⟩) P ca) P ((iota P).map (Value.int .i64)), row 3 1 (.slice (some ⟨Bc + 1, 0, none⟩) P P) P ((seenL P k).map (Value.int .i64)), blk Bc (Obj.cells #[.int .i64 n, .int .i64 s, .int .i64 h, .int .u32 0] 24)] wr)) (fun iv _ => 400 - (intOf iv).toNat)
              case atStart => exact ⟨0, rfl, Nat.zero_le _, HX21.out⟩
              case round =>
                clear hlt hk hkn
                obtain ⟨k, rfl, hk, HX⟩ := hrel
                by_cases hlt : k < P
                · have hk0 : (0 : Int) ≤ (k : Int) := by omega
                  have hk1 : (k : Int) < (P : Int) := by omega
                  have hk2 : ¬ (k : Int) < 0 := by omega
                  obtain ⟨gA, cA, hvA, _, _, hcA, hfA, _, _⟩ := HX.out.rowAt (by omega)
                  simp only [Value.slice.injEq, Option.some.injEq, Addr.mk.injEq, and_true, true_and] at hvA
                  obtain ⟨rfl, rfl⟩ := hvA
                  have zA := (hcA k hlt).trans (iota_at hlt)
                  obtain ⟨gB, cB, hvB, _, _, hcB, hfB, _, _⟩ := HX.out.swap.rowAt (by omega)
                  simp only [Value.slice.injEq, Option.some.injEq, Addr.mk.injEq, and_true, true_and] at hvB
                  obtain ⟨rfl, rfl⟩ := hvB
                  have zB := (hcB k hlt).trans (seen_at (k := k) hlt)
                  rw [if_neg (by omega)] at zB
                  have fB := hfB k
                  have HX2 : Hid (Hold (fun _ => False) w [row 3 1 (.slice (some ⟨ga, 0, none⟩) P ca) P ((iota P).map (Value.int .i64)), row 3 1 (.slice (some ⟨Bc + 1, 0, none⟩) P P) P ((seenL P (k + 1)).map (Value.int .i64)), blk Bc (Obj.cells #[.int .i64 n, .int .i64 s, .int .i64 h, .int .u32 0] 24)] (wr.setCell ⟨Bc + 1, k, none⟩ (.int .i64 1))) := by
                    have := (HX.out.swap.rowStore k (.int .i64 1)).swap
                    rw [← List.map_set, seen_set] at this
                    exact this
                  clear hcA hfA hcB hfB
                  go_wp2_with fail
                  go_roundw
                  case rel => exact ⟨k + 1, by go_num, by omega, HX2.out⟩
                  case measure => simp [intOf]; omega
                · have hkP : k = P := by omega
                  have hge : ¬ (k : Int) < (P : Int) := by omega
                  have HXP : Hid (Hold (fun _ => False) w [row 3 1 (.slice (some ⟨ga, 0, none⟩) P ca) P ((iota P).map (Value.int .i64)), row 3 1 (.slice (some ⟨Bc + 1, 0, none⟩) P P) P ((seenL P P).map (Value.int .i64)), blk Bc (Obj.cells #[.int .i64 n, .int .i64 s, .int .i64 h, .int .u32 0] 24)] wr) := by
                      have e := HX.out
                      rw [show seenL P k = seenL P P by rw [hkP]] at e
                      exact e
                  clear hkP
                  go_wp2_with fail
                  go_loopw [15] (fun iv wv => ∃ j : Nat, iv = .int .i64 j ∧ j ≤ P ∧ wv = wr) (fun iv _ => 400 - (intOf iv).toNat)
                  case atStart => exact ⟨0, rfl, Nat.zero_le _, rfl⟩
                  case round =>
                    clear hlt hge hk
                    obtain ⟨j, rfl, hj, rfl⟩ := hrel
                    by_cases hlt : j < P
                    · have hk0 : (0 : Int) ≤ (j : Int) := by omega
                      have hk1 : (j : Int) < (P : Int) := by omega
                      obtain ⟨gB, cB, hvB, _, _, hcB, hfB, _, _⟩ := HXP.out.swap.rowAt (by omega)
                      simp only [Value.slice.injEq, Option.some.injEq, Addr.mk.injEq, and_true, true_and] at hvB
                      obtain ⟨rfl, rfl⟩ := hvB
                      have zB := (hcB j hlt).trans (seen_at (k := P) hlt)
                      rw [if_pos hlt] at zB
                      clear hcB hfB
                      go_wp2_with fail
                      go_roundw
                      case rel => exact ⟨j + 1, by go_num, by omega, by first | rfl | trivial⟩
                      case measure => simp [intOf]; omega
                    · have hge : ¬ (j : Int) < (P : Int) := by omega
                      have HY := Lib.hid HXP.out
                      obtain ⟨c0, c1, c2, c3⟩ := cfAt HY.out (b := Bc) (n := n) (s := s) (h := h) (t := 0) (e := 24) (by simp)
                      have Y1 : Hid (nextP ⟨n, s, h, 0⟩ 0 = -1) := by simp [Hid, nextP]
                      have Y2 : Hid (valueP ⟨n, s, h, 0⟩ 0 = -1) := by simp [Hid, valueP]
                      have Y3 : Hid (nextP ⟨n, s, h, 0⟩ ((n : Int) + 1) = -1) := by simp [Hid, nextP]; omega
                      have Y4 : Hid (slotP ⟨n, s, h, 0⟩ s = -1) := by simp [Hid, slotP]
                      have Y5 : Hid (slotP ⟨n, s, h, 0⟩ (-1) = -1) := by simp [Hid, slotP]
                      have Y6 : Hid (holderP ⟨n, s, h, 0⟩ h = -1) := by simp [Hid, holderP]
                      have hn1 : (n : Int) + 1 ≤ 4294967295 := by omega
                      have hn0 : 0 ≤ (n : Int) + 1 := by omega
                      go_wp2_with fail
                      refine (next_p n s h 0 0 (by decide) (by decide) _).mono ?_
                      rintro e w40 ⟨rfl, hb⟩
                      rw [Y1.out]
                      have HY := Lib.hid (HY.out.on hb)
                      clear hb c0 c1 c2 c3
                      obtain ⟨c0, c1, c2, c3⟩ := cfAt HY.out (b := Bc) (n := n) (s := s) (h := h) (t := 0) (e := 24) (by simp)
                      go_wp2_with fail
                      refine (value_p n s h 0 0 (by decide) (by decide) _).mono ?_
                      rintro e w41 ⟨rfl, hb⟩
                      rw [Y2.out]
                      have HY := Lib.hid (HY.out.on hb)
                      clear hb c0 c1 c2 c3
                      obtain ⟨c0, c1, c2, c3⟩ := cfAt HY.out (b := Bc) (n := n) (s := s) (h := h) (t := 0) (e := 24) (by simp)
                      go_wp2_with fail
                      refine (next_p n s h 0 _ hn0 hn1 _).mono ?_
                      rintro e w42 ⟨rfl, hb⟩
                      rw [Y3.out]
                      have HY := Lib.hid (HY.out.on hb)
                      clear hb c0 c1 c2 c3
                      obtain ⟨c0, c1, c2, c3⟩ := cfAt HY.out (b := Bc) (n := n) (s := s) (h := h) (t := 0) (e := 24) (by simp)
                      go_wp2_with fail
                      refine (slot_p n s h 0 s _).mono ?_
                      rintro e w43 ⟨rfl, hb⟩
                      rw [Y4.out]
                      have HY := Lib.hid (HY.out.on hb)
                      clear hb c0 c1 c2 c3
                      obtain ⟨c0, c1, c2, c3⟩ := cfAt HY.out (b := Bc) (n := n) (s := s) (h := h) (t := 0) (e := 24) (by simp)
                      go_wp2_with fail
                      refine (slot_p n s h 0 (-1) _).mono ?_
                      rintro e w44 ⟨rfl, hb⟩
                      rw [Y5.out]
                      have HY := Lib.hid (HY.out.on hb)
                      clear hb c0 c1 c2 c3
                      obtain ⟨c0, c1, c2, c3⟩ := cfAt HY.out (b := Bc) (n := n) (s := s) (h := h) (t := 0) (e := 24) (by simp)
                      go_wp2_with fail
                      refine (holder_p n s h 0 h _).mono ?_
                      rintro e w45 ⟨rfl, hb⟩
                      rw [Y6.out]
                      have HY := Lib.hid (HY.out.on hb)
                      clear hb c0 c1 c2 c3
                      obtain ⟨c0, c1, c2, c3⟩ := cfAt HY.out (b := Bc) (n := n) (s := s) (h := h) (t := 0) (e := 24) (by simp)
                      go_wp2_with fail
                      go_ret
                      exact ⟨rfl, HY.out.below⟩
theorem own : ownKnob Try.prog.godebug = none := by kernel_rfl
theorem laidOut : laidOutB Try.prog = true := by kernel_rfl
set_option maxRecDepth 100000 in
theorem lifted (os : Os) (started : os.Started) (H : Type) (enc : TypeId × Value → H) :
    ReturnsInHanded {} Try.checked os 5 .any (Rows.layoutApartSpec.pre6 enc Try.prog Try.f5 Rows.layoutApartRow.domain false) (Rows.layoutApartSpec.post enc Try.prog Try.f5 false true false false) := by
  refine returnsInHanded_of_change (C := Try.checked) own started (by kernel_rfl) Try.func5
    (ChangeSpec.witness6 (enc := enc) (C := Try.checked) false ⟨#[], #[.int .i64 0, .int .i64 0, .int .i64 0], []⟩ 8 (by kernel_rfl) (by kernel_rfl) (by kernel_rfl) (by kernel_rfl)) ?_
  intro W base args ds gs before hval0 hW hcnd _
  have hval : ∀ (j : Nat) t v, Try.f5.params[j]? = some t → args[j]? = some v → Value.okWide Try.prog W .any base t v := hval0
  have hW' := hW
  obtain ⟨p, q, hA0, hV, rfl, hfz, hnd⟩ := hW
  have hA : DataW.TrodAll enc Try.prog W 0 (fun _ => true) true Try.f5.params.toList args.toList ds p := hA0
  rw [Try.params5] at hA hval
  obtain ⟨v0, vs0, d0, ds0, p0, q0, hargs, rfl, rfl, h0, r0⟩ := trodAll_cons hA
  obtain ⟨v1, vs1, d1, ds1, p1, q1, rfl, rfl, rfl, h1, r1⟩ := trodAll_cons r0
  obtain ⟨v2, vs2, d2, ds2, p2, q2, rfl, rfl, rfl, h2, r2⟩ := trodAll_cons r1
  obtain ⟨rfl, rfl, rfl⟩ := trodAll_nil r2
  obtain rfl : args = #[v0, v1, v2] := by cases args; simp_all
  obtain ⟨rfl, rfl⟩ := trodVars_none hV
  obtain ⟨a0, rfl, rfl, rfl, w0⟩ := open_int Try.underlying3 (hval 0 3 v0 rfl rfl) h0
  obtain ⟨a1, rfl, rfl, rfl, w1⟩ := open_int Try.underlying3 (hval 1 3 v1 rfl rfl) h1
  obtain ⟨a2, rfl, rfl, rfl, w2⟩ := open_int Try.underlying3 (hval 2 3 v2 rfl rfl) h2
  clear hA0 hval0
  refine (walk a0 a1 a2 w0 w1 w2 W).mono fun e W' ⟨he, hb⟩ => ?_
  subst he
  exact ⟨_, rfl, lift.post_law (tb := 4) laidOut (by rw [Try.params5]; exact fun t ht => (of_decide_eq_true (by kernel_rfl) : ∀ t ∈ [3, 3, 3], Try.prog.readableRec t = true ∧ t < Try.prog.types.size) t ht) (by kernel_rfl) Try.underlying4 rfl hW' rfl hb⟩
theorem over : Rows.layoutApartRow.holds Try.pinned (OpenSpec.ofChange Rows.layoutApartSpec) :=
  OpenClaim.holds_of_wide 5 Try.f5 rfl rfl rfl rfl rfl rfl rfl ⟨rfl, rfl, rfl, rfl, rfl⟩ rfl rfl rfl rfl rfl (by kernel_rfl) Try.func5 (by kernel_rfl)
    (of_decide_eq_true (by kernel_rfl)) (by unfold Func.isWrapper; first | (rw [if_pos (by decide +kernel)]; kernel_rfl) | (rw [if_neg (by decide +kernel)]; exact ⟨rfl, rfl⟩))
    (fun os started H enc _ => lifted os started H enc)
theorem proved : Rows.LayoutApartSaid :=
  over
end Go.Proofs.Ytcacahokdnpboaa.layoutApart
