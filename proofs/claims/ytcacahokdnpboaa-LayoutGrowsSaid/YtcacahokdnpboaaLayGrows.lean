/- LayoutGrows: each thing more is a place more, or two of a node, and all that stand ahead of it stay where they are: no condition. -/
import Derived.Test.YtcacahokdnpboaaLayO
namespace Go.Proofs.Ytcacahokdnpboaa.layoutGrows
open Go.ChangeShapes Go.WideShapes Go.ChangeAt Go.RowKit frame lift sep own join ly
set_option linter.unusedVariables false
set_option maxRecDepth 100000 in
set_option maxHeartbeats 16000000 in
theorem walk (a0 a1 a2 : Int) (f0 : (Lit.int .i64 a0).wf = true) (f1 : (Lit.int .i64 a1).wf = true) (f2 : (Lit.int .i64 a2).wf = true) (w : World) :
    Calls Try.prog 9 #[.int .i64 a0, .int .i64 a1, .int .i64 a2] w fun e w' => e = .returned (.bool true) ∧ Below w.heap.size w w' := by
  obtain ⟨x0, x1⟩ := bd_i64 f0
  obtain ⟨y0, y1⟩ := bd_i64 f1
  obtain ⟨z0, z1⟩ := bd_i64 f2
  obtain ⟨u, hu⟩ : ∃ u, pickI a0 63 = u := ⟨_, rfl⟩
  obtain ⟨s, hs⟩ : ∃ s, pickI a1 16 = s := ⟨_, rfl⟩
  obtain ⟨h, hh⟩ : ∃ h, pickI a2 64 = h := ⟨_, rfl⟩
  have hub := pickI_bd a0 63 (by decide)
  have hsb := pickI_bd a1 16 (by decide)
  have hhb := pickI_bd a2 64 (by decide)
  rw [hu] at hub
  rw [hs] at hsb
  rw [hh] at hhb
  have HU := Lib.hid hu; have HS := Lib.hid hs; have HH := Lib.hid hh
  obtain ⟨n, hn⟩ : ∃ n, 1 + u = n := ⟨_, rfl⟩
  have hw1 : IntKind.i64.wrap (1 + u) = n := by rw [IntWalk.i64_in _ (by omega), hn]
  obtain ⟨s0, s1⟩ := hsb
  obtain ⟨h0, h1⟩ := hhb
  have n0 : 1 ≤ n := by omega
  have n1 : n ≤ 63 := by omega
  have hw2 : IntKind.i64.wrap (n + 1) = n + 1 := IntWalk.i64_in _ (by omega)
  have hw3 : IntKind.i64.wrap (s + 1) = s + 1 := IntWalk.i64_in _ (by omega)
  have hw4 : IntKind.i64.wrap (h + 1) = h + 1 := IntWalk.i64_in _ (by omega)
  have ok0 : Ok ⟨n, s, h, 0⟩ := by show _ ∧ _; dsimp only; omega
  have ok1 : Ok ⟨n + 1, s, h, 0⟩ := by show _ ∧ _; dsimp only; omega
  have ok2 : Ok ⟨n, s + 1, h, 0⟩ := by show _ ∧ _; dsimp only; omega
  have ok3 : Ok ⟨n, s, h + 1, 0⟩ := by show _ ∧ _; dsimp only; omega
  have O0 := Lib.hid ok0; have O1 := Lib.hid ok1; have O2 := Lib.hid ok2; have O3 := Lib.hid ok3
  obtain ⟨N, hN⟩ : ∃ N, 2 + 2 * n + s + h = N := ⟨_, rfl⟩
  have V1 : Hid (cellsN ⟨n, s, h, 0⟩ = N) := by rw [← hN]; simp [Hid, cellsN, ok0]
  have V2 : Hid (cellsN ⟨n + 1, s, h, 0⟩ = N + 2) := by rw [← hN]; simp [Hid, cellsN, ok1]; omega
  have V3 : Hid (cellsN ⟨n, s + 1, h, 0⟩ = N + 1) := by rw [← hN]; simp [Hid, cellsN, ok2]; omega
  have V4 : Hid (cellsN ⟨n, s, h + 1, 0⟩ = N + 1) := by rw [← hN]; simp [Hid, cellsN, ok3]; omega
  have hw5 : IntKind.i64.wrap (N + 2) = N + 2 := IntWalk.i64_in _ (by omega)
  have hw6 : IntKind.i64.wrap (N + 1) = N + 1 := IntWalk.i64_in _ (by omega)
  have hwn : IntKind.u32.wrap n = n := by rw [IntKind.wrap_u32]; omega
  clear f0 f1 f2 hu hs hh hub ok0 ok1 ok2 ok3 hN
  go_enter Try.func9, Try.ntmps9
  go_wp2_with fail
  refine (shown_any _).mono ?_
  rintro e w1 ⟨rfl, hb⟩
  have HX := Lib.hid ((Hold.empty w).on hb)
  clear hb
  go_wp2_with fail
  refine (pick_any a0 63 x0 x1 (by decide) (by decide) _).mono ?_
  rintro e w2 ⟨rfl, rfl⟩
  rw [HU.out]
  go_wp2_with fail
  refine (pick_any a1 16 y0 y1 (by decide) (by decide) _).mono ?_
  rintro e w2 ⟨rfl, rfl⟩
  rw [HS.out]
  go_wp2_with fail
  refine (pick_any a2 64 z0 z1 (by decide) (by decide) _).mono ?_
  rintro e w2 ⟨rfl, rfl⟩
  rw [HH.out]
  clear hn hw1
  go_wp2_with fail
  obtain ⟨Bc, hBc⟩ : ∃ B, w1.heap.size = B := ⟨_, rfl⟩
  obtain ⟨Ba, hBa⟩ : ∃ B, Bc + 1 = B := ⟨_, rfl⟩
  obtain ⟨Bb, hBb⟩ : ∃ B, Ba + 1 = B := ⟨_, rfl⟩
  obtain ⟨Bd, hBd⟩ : ∃ B, Bb + 1 = B := ⟨_, rfl⟩
  have e1 : ∀ (w : World) (o : Obj), (w.alloc o).heap.size = w.heap.size + 1 := fun _ _ => by simp
  have hx := (((HX.out.newBlk (Obj.cells #[.int .i64 (n), .int .i64 (s), .int .i64 (h), .int .u32 0] 24)).newBlk (Obj.cells #[.int .i64 (n + 1), .int .i64 (s), .int .i64 (h), .int .u32 0] 24)).newBlk (Obj.cells #[.int .i64 (n), .int .i64 (s + 1), .int .i64 (h), .int .u32 0] 24)).newBlk (Obj.cells #[.int .i64 (n), .int .i64 (s), .int .i64 (h + 1), .int .u32 0] 24)
  simp only [e1, hBc, hBa, hBb, hBd] at hx
  have HX := Lib.hid hx.drew
  clear hx e1
  obtain ⟨c0, c1, c2, c3⟩ := cfAt HX.out (b := Bc) (n := n) (s := s) (h := h) (t := 0) (e := 24) (by simp)
  obtain ⟨p0, p1, p2, p3⟩ := cfAt HX.out (b := Ba) (n := n + 1) (s := s) (h := h) (t := 0) (e := 24) (by simp)
  obtain ⟨b0, b1, b2, b3⟩ := cfAt HX.out (b := Bb) (n := n) (s := s + 1) (h := h) (t := 0) (e := 24) (by simp)
  obtain ⟨d0, d1, d2, d3⟩ := cfAt HX.out (b := Bd) (n := n) (s := s) (h := h + 1) (t := 0) (e := 24) (by simp)
  go_region_held3 (fun w' => w'.cell? ⟨Bc, 0, none⟩ = some (.int .i64 (n)) ∧ w'.cell? ⟨Bc, 1, none⟩ = some (.int .i64 (s)) ∧ w'.cell? ⟨Bc, 2, none⟩ = some (.int .i64 (h)) ∧ w'.cell? ⟨Bc, 3, none⟩ = some (.int .u32 0) ∧ w'.cell? ⟨Ba, 0, none⟩ = some (.int .i64 (n + 1)) ∧ w'.cell? ⟨Ba, 1, none⟩ = some (.int .i64 (s)) ∧ w'.cell? ⟨Ba, 2, none⟩ = some (.int .i64 (h)) ∧ w'.cell? ⟨Ba, 3, none⟩ = some (.int .u32 0) ∧ w'.cell? ⟨Bb, 0, none⟩ = some (.int .i64 (n)) ∧ w'.cell? ⟨Bb, 1, none⟩ = some (.int .i64 (s + 1)) ∧ w'.cell? ⟨Bb, 2, none⟩ = some (.int .i64 (h)) ∧ w'.cell? ⟨Bb, 3, none⟩ = some (.int .u32 0) ∧ w'.cell? ⟨Bd, 0, none⟩ = some (.int .i64 (n)) ∧ w'.cell? ⟨Bd, 1, none⟩ = some (.int .i64 (s)) ∧ w'.cell? ⟨Bd, 2, none⟩ = some (.int .i64 (h + 1)) ∧ w'.cell? ⟨Bd, 3, none⟩ = some (.int .u32 0)) (go_keep) ((go_at_call 24; (refine (cells_p _ _ _ _ _).mono ?_); rintro e w7 ⟨rfl, hb⟩; (first | rw [V1.out] | rw [V2.out] | rw [V3.out] | rw [V4.out]); (have HX := Lib.hid (HX.out.on hb)); clear hb; (obtain ⟨c0, c1, c2, c3⟩ := cfAt HX.out (b := Bc) (n := n) (s := s) (h := h) (t := 0) (e := 24) (by simp)); (obtain ⟨p0, p1, p2, p3⟩ := cfAt HX.out (b := Ba) (n := n + 1) (s := s) (h := h) (t := 0) (e := 24) (by simp)); (obtain ⟨b0, b1, b2, b3⟩ := cfAt HX.out (b := Bb) (n := n) (s := s + 1) (h := h) (t := 0) (e := 24) (by simp)); (obtain ⟨d0, d1, d2, d3⟩ := cfAt HX.out (b := Bd) (n := n) (s := s) (h := h + 1) (t := 0) (e := 24) (by simp))))
  clear hBc hBa hBb hBd
  go_wp2_with fail
  clear c0 c1 c2 c3 p0 p1 p2 p3 b0 b1 b2 b3 d0 d1 d2 d3
  go_loopw [12] (fun iv wr => ∃ k : Nat, iv = .int .u32 ((k : Int) + 1) ∧ (k : Int) ≤ n ∧ Hid (Hold (fun _ => False) w [blk Bd (Obj.cells #[.int .i64 (n), .int .i64 (s), .int .i64 (h + 1), .int .u32 0] 24), blk Bb (Obj.cells #[.int .i64 (n), .int .i64 (s + 1), .int .i64 (h), .int .u32 0] 24), blk Ba (Obj.cells #[.int .i64 (n + 1), .int .i64 (s), .int .i64 (h), .int .u32 0] 24), blk Bc (Obj.cells #[.int .i64 (n), .int .i64 (s), .int .i64 (h), .int .u32 0] 24)] wr)) (fun iv _ => 70 - (intOf iv).toNat)
  case atStart => exact ⟨0, rfl, by omega, HX.out⟩
  case round =>
    clear HX
    obtain ⟨k, rfl, hk, HX⟩ := hrel
    obtain ⟨c0, c1, c2, c3⟩ := cfAt HX.out (b := Bc) (n := n) (s := s) (h := h) (t := 0) (e := 24) (by simp)
    obtain ⟨p0, p1, p2, p3⟩ := cfAt HX.out (b := Ba) (n := n + 1) (s := s) (h := h) (t := 0) (e := 24) (by simp)
    obtain ⟨b0, b1, b2, b3⟩ := cfAt HX.out (b := Bb) (n := n) (s := s + 1) (h := h) (t := 0) (e := 24) (by simp)
    obtain ⟨d0, d1, d2, d3⟩ := cfAt HX.out (b := Bd) (n := n) (s := s) (h := h + 1) (t := 0) (e := 24) (by simp)
    by_cases hlt : (k : Int) + 1 ≤ n
    · have X1 : Hid (nextP ⟨n, s, h, 0⟩ ((k : Int) + 1) = 2 * ((k : Int) + 1)) := by simp [Hid, nextP, O0.out]; omega
      have X2 : Hid (nextP ⟨n + 1, s, h, 0⟩ ((k : Int) + 1) = 2 * ((k : Int) + 1)) := by simp [Hid, nextP, O1.out]; omega
      have X3 : Hid (nextP ⟨n, s, h + 1, 0⟩ ((k : Int) + 1) = 2 * ((k : Int) + 1)) := by simp [Hid, nextP, O3.out]; omega
      have X4 : Hid (valueP ⟨n, s, h, 0⟩ ((k : Int) + 1) = 2 * ((k : Int) + 1) + 1) := by simp [Hid, valueP, O0.out]; omega
      have X5 : Hid (valueP ⟨n, s + 1, h, 0⟩ ((k : Int) + 1) = 2 * ((k : Int) + 1) + 1) := by simp [Hid, valueP, O2.out]; omega
      have hj0 : 0 ≤ (k : Int) + 1 := by omega
      have hj1 : (k : Int) + 1 ≤ 4294967295 := by omega
      have hwj : IntKind.u32.wrap ((k : Int) + 1 + 1) = (k : Int) + 1 + 1 := by rw [IntKind.wrap_u32]; omega
      go_wp2_with fail
      have HX := Lib.hid HX.out.drew
      clear c0 c1 c2 c3 p0 p1 p2 p3 b0 b1 b2 b3 d0 d1 d2 d3
      obtain ⟨c0, c1, c2, c3⟩ := cfAt HX.out (b := Bc) (n := n) (s := s) (h := h) (t := 0) (e := 24) (by simp)
      obtain ⟨p0, p1, p2, p3⟩ := cfAt HX.out (b := Ba) (n := n + 1) (s := s) (h := h) (t := 0) (e := 24) (by simp)
      obtain ⟨b0, b1, b2, b3⟩ := cfAt HX.out (b := Bb) (n := n) (s := s + 1) (h := h) (t := 0) (e := 24) (by simp)
      obtain ⟨d0, d1, d2, d3⟩ := cfAt HX.out (b := Bd) (n := n) (s := s) (h := h + 1) (t := 0) (e := 24) (by simp)
      go_region_held3 (fun w' => w'.cell? ⟨Bc, 0, none⟩ = some (.int .i64 (n)) ∧ w'.cell? ⟨Bc, 1, none⟩ = some (.int .i64 (s)) ∧ w'.cell? ⟨Bc, 2, none⟩ = some (.int .i64 (h)) ∧ w'.cell? ⟨Bc, 3, none⟩ = some (.int .u32 0) ∧ w'.cell? ⟨Ba, 0, none⟩ = some (.int .i64 (n + 1)) ∧ w'.cell? ⟨Ba, 1, none⟩ = some (.int .i64 (s)) ∧ w'.cell? ⟨Ba, 2, none⟩ = some (.int .i64 (h)) ∧ w'.cell? ⟨Ba, 3, none⟩ = some (.int .u32 0) ∧ w'.cell? ⟨Bb, 0, none⟩ = some (.int .i64 (n)) ∧ w'.cell? ⟨Bb, 1, none⟩ = some (.int .i64 (s + 1)) ∧ w'.cell? ⟨Bb, 2, none⟩ = some (.int .i64 (h)) ∧ w'.cell? ⟨Bb, 3, none⟩ = some (.int .u32 0) ∧ w'.cell? ⟨Bd, 0, none⟩ = some (.int .i64 (n)) ∧ w'.cell? ⟨Bd, 1, none⟩ = some (.int .i64 (s)) ∧ w'.cell? ⟨Bd, 2, none⟩ = some (.int .i64 (h + 1)) ∧ w'.cell? ⟨Bd, 3, none⟩ = some (.int .u32 0)) (go_keep) (first
        | (go_at_call 16; (refine (next_p _ _ _ _ _ hj0 hj1 _).mono ?_); rintro e w7 ⟨rfl, hb⟩; (first | rw [X1.out] | rw [X2.out] | rw [X3.out]); (have HX := Lib.hid (HX.out.on hb)); clear hb; (obtain ⟨c0, c1, c2, c3⟩ := cfAt HX.out (b := Bc) (n := n) (s := s) (h := h) (t := 0) (e := 24) (by simp)); (obtain ⟨p0, p1, p2, p3⟩ := cfAt HX.out (b := Ba) (n := n + 1) (s := s) (h := h) (t := 0) (e := 24) (by simp)); (obtain ⟨b0, b1, b2, b3⟩ := cfAt HX.out (b := Bb) (n := n) (s := s + 1) (h := h) (t := 0) (e := 24) (by simp)); (obtain ⟨d0, d1, d2, d3⟩ := cfAt HX.out (b := Bd) (n := n) (s := s) (h := h + 1) (t := 0) (e := 24) (by simp)))
        | (go_at_call 18; (refine (value_p _ _ _ _ _ hj0 hj1 _).mono ?_); rintro e w7 ⟨rfl, hb⟩; (first | rw [X4.out] | rw [X5.out]); (have HX := Lib.hid (HX.out.on hb)); clear hb; (obtain ⟨c0, c1, c2, c3⟩ := cfAt HX.out (b := Bc) (n := n) (s := s) (h := h) (t := 0) (e := 24) (by simp)); (obtain ⟨p0, p1, p2, p3⟩ := cfAt HX.out (b := Ba) (n := n + 1) (s := s) (h := h) (t := 0) (e := 24) (by simp)); (obtain ⟨b0, b1, b2, b3⟩ := cfAt HX.out (b := Bb) (n := n) (s := s + 1) (h := h) (t := 0) (e := 24) (by simp)); (obtain ⟨d0, d1, d2, d3⟩ := cfAt HX.out (b := Bd) (n := n) (s := s) (h := h + 1) (t := 0) (e := 24) (by simp))))
      go_wp2_with fail
      go_roundw
      case rel => exact ⟨k + 1, by go_num, by omega, HX.out⟩
      case measure => simp [intOf]; omega
    · have hgt : ¬ (k : Int) + 1 ≤ n := hlt
      go_wp2_with fail
      go_loopw [13] (fun iv wr => ∃ k : Nat, iv = .int .i64 k ∧ (k : Int) ≤ s ∧ Hid (Hold (fun _ => False) w [blk Bd (Obj.cells #[.int .i64 (n), .int .i64 (s), .int .i64 (h + 1), .int .u32 0] 24), blk Bb (Obj.cells #[.int .i64 (n), .int .i64 (s + 1), .int .i64 (h), .int .u32 0] 24), blk Ba (Obj.cells #[.int .i64 (n + 1), .int .i64 (s), .int .i64 (h), .int .u32 0] 24), blk Bc (Obj.cells #[.int .i64 (n), .int .i64 (s), .int .i64 (h), .int .u32 0] 24)] wr)) (fun iv _ => 70 - (intOf iv).toNat)
      case atStart => exact ⟨0, rfl, by omega, HX.out⟩
      case round =>
        clear HX hlt hgt hk
        obtain ⟨k, rfl, hk, HX⟩ := hrel
        obtain ⟨c0, c1, c2, c3⟩ := cfAt HX.out (b := Bc) (n := n) (s := s) (h := h) (t := 0) (e := 24) (by simp)
        obtain ⟨p0, p1, p2, p3⟩ := cfAt HX.out (b := Ba) (n := n + 1) (s := s) (h := h) (t := 0) (e := 24) (by simp)
        obtain ⟨b0, b1, b2, b3⟩ := cfAt HX.out (b := Bb) (n := n) (s := s + 1) (h := h) (t := 0) (e := 24) (by simp)
        obtain ⟨d0, d1, d2, d3⟩ := cfAt HX.out (b := Bd) (n := n) (s := s) (h := h + 1) (t := 0) (e := 24) (by simp)
        by_cases hlt : (k : Int) < s
        · obtain ⟨q, hq⟩ : ∃ q, 2 + 2 * n + (k : Int) = q := ⟨_, rfl⟩
          have X1 : Hid (slotP ⟨n, s, h, 0⟩ k = q) := by rw [← hq]; simp [Hid, slotP, O0.out]; omega
          have X2 : Hid (slotP ⟨n + 1, s, h, 0⟩ k = q + 2) := by rw [← hq]; simp [Hid, slotP, O1.out]; omega
          have X3 : Hid (slotP ⟨n, s + 1, h, 0⟩ k = q) := by rw [← hq]; simp [Hid, slotP, O2.out]; omega
          have X4 : Hid (slotP ⟨n, s, h + 1, 0⟩ k = q) := by rw [← hq]; simp [Hid, slotP, O3.out]; omega
          have hwq : IntKind.i64.wrap (q + 2) = q + 2 := IntWalk.i64_in _ (by omega)
          clear hq
          have hk0 : (0 : Int) ≤ (k : Int) := by omega
          go_wp2_with fail
          have HX := Lib.hid HX.out.drew
          clear c0 c1 c2 c3 p0 p1 p2 p3 b0 b1 b2 b3 d0 d1 d2 d3
          obtain ⟨c0, c1, c2, c3⟩ := cfAt HX.out (b := Bc) (n := n) (s := s) (h := h) (t := 0) (e := 24) (by simp)
          obtain ⟨p0, p1, p2, p3⟩ := cfAt HX.out (b := Ba) (n := n + 1) (s := s) (h := h) (t := 0) (e := 24) (by simp)
          obtain ⟨b0, b1, b2, b3⟩ := cfAt HX.out (b := Bb) (n := n) (s := s + 1) (h := h) (t := 0) (e := 24) (by simp)
          obtain ⟨d0, d1, d2, d3⟩ := cfAt HX.out (b := Bd) (n := n) (s := s) (h := h + 1) (t := 0) (e := 24) (by simp)
          go_region_held3 (fun w' => w'.cell? ⟨Bc, 0, none⟩ = some (.int .i64 (n)) ∧ w'.cell? ⟨Bc, 1, none⟩ = some (.int .i64 (s)) ∧ w'.cell? ⟨Bc, 2, none⟩ = some (.int .i64 (h)) ∧ w'.cell? ⟨Bc, 3, none⟩ = some (.int .u32 0) ∧ w'.cell? ⟨Ba, 0, none⟩ = some (.int .i64 (n + 1)) ∧ w'.cell? ⟨Ba, 1, none⟩ = some (.int .i64 (s)) ∧ w'.cell? ⟨Ba, 2, none⟩ = some (.int .i64 (h)) ∧ w'.cell? ⟨Ba, 3, none⟩ = some (.int .u32 0) ∧ w'.cell? ⟨Bb, 0, none⟩ = some (.int .i64 (n)) ∧ w'.cell? ⟨Bb, 1, none⟩ = some (.int .i64 (s + 1)) ∧ w'.cell? ⟨Bb, 2, none⟩ = some (.int .i64 (h)) ∧ w'.cell? ⟨Bb, 3, none⟩ = some (.int .u32 0) ∧ w'.cell? ⟨Bd, 0, none⟩ = some (.int .i64 (n)) ∧ w'.cell? ⟨Bd, 1, none⟩ = some (.int .i64 (s)) ∧ w'.cell? ⟨Bd, 2, none⟩ = some (.int .i64 (h + 1)) ∧ w'.cell? ⟨Bd, 3, none⟩ = some (.int .u32 0)) (go_keep) ((go_at_call 20; (refine (slot_p _ _ _ _ _ _).mono ?_); rintro e w7 ⟨rfl, hb⟩; (first | rw [X1.out] | rw [X2.out] | rw [X3.out] | rw [X4.out]); (have HX := Lib.hid (HX.out.on hb)); clear hb; (obtain ⟨c0, c1, c2, c3⟩ := cfAt HX.out (b := Bc) (n := n) (s := s) (h := h) (t := 0) (e := 24) (by simp)); (obtain ⟨p0, p1, p2, p3⟩ := cfAt HX.out (b := Ba) (n := n + 1) (s := s) (h := h) (t := 0) (e := 24) (by simp)); (obtain ⟨b0, b1, b2, b3⟩ := cfAt HX.out (b := Bb) (n := n) (s := s + 1) (h := h) (t := 0) (e := 24) (by simp)); (obtain ⟨d0, d1, d2, d3⟩ := cfAt HX.out (b := Bd) (n := n) (s := s) (h := h + 1) (t := 0) (e := 24) (by simp))))
          go_wp2_with fail
          go_roundw
          case rel => exact ⟨k + 1, by go_num, by omega, HX.out⟩
          case measure => simp [intOf]; omega
        · have hgt : ¬ (k : Int) < s := hlt
          go_wp2_with fail
          go_loopw [14] (fun iv wr => ∃ k : Nat, iv = .int .i64 k ∧ (k : Int) ≤ h ∧ Hid (Hold (fun _ => False) w [blk Bd (Obj.cells #[.int .i64 (n), .int .i64 (s), .int .i64 (h + 1), .int .u32 0] 24), blk Bb (Obj.cells #[.int .i64 (n), .int .i64 (s + 1), .int .i64 (h), .int .u32 0] 24), blk Ba (Obj.cells #[.int .i64 (n + 1), .int .i64 (s), .int .i64 (h), .int .u32 0] 24), blk Bc (Obj.cells #[.int .i64 (n), .int .i64 (s), .int .i64 (h), .int .u32 0] 24)] wr)) (fun iv _ => 70 - (intOf iv).toNat)
          case atStart => exact ⟨0, rfl, by omega, HX.out⟩
          case round =>
            clear HX hlt hgt hk
            obtain ⟨k, rfl, hk, HX⟩ := hrel
            obtain ⟨c0, c1, c2, c3⟩ := cfAt HX.out (b := Bc) (n := n) (s := s) (h := h) (t := 0) (e := 24) (by simp)
            obtain ⟨p0, p1, p2, p3⟩ := cfAt HX.out (b := Ba) (n := n + 1) (s := s) (h := h) (t := 0) (e := 24) (by simp)
            obtain ⟨b0, b1, b2, b3⟩ := cfAt HX.out (b := Bb) (n := n) (s := s + 1) (h := h) (t := 0) (e := 24) (by simp)
            obtain ⟨d0, d1, d2, d3⟩ := cfAt HX.out (b := Bd) (n := n) (s := s) (h := h + 1) (t := 0) (e := 24) (by simp)
            by_cases hlt : (k : Int) < h
            · obtain ⟨q, hq⟩ : ∃ q, 2 + 2 * n + s + (k : Int) = q := ⟨_, rfl⟩
              have X1 : Hid (holderP ⟨n, s, h, 0⟩ k = q) := by rw [← hq]; simp [Hid, holderP, O0.out]; omega
              have X2 : Hid (holderP ⟨n + 1, s, h, 0⟩ k = q + 2) := by rw [← hq]; simp [Hid, holderP, O1.out]; omega
              have X3 : Hid (holderP ⟨n, s + 1, h, 0⟩ k = q + 1) := by rw [← hq]; simp [Hid, holderP, O2.out]; omega
              have X4 : Hid (holderP ⟨n, s, h + 1, 0⟩ k = q) := by rw [← hq]; simp [Hid, holderP, O3.out]; omega
              have hwq : IntKind.i64.wrap (q + 2) = q + 2 := IntWalk.i64_in _ (by omega)
              have hwq1 : IntKind.i64.wrap (q + 1) = q + 1 := IntWalk.i64_in _ (by omega)
              clear hq
              have hk0 : (0 : Int) ≤ (k : Int) := by omega
              go_wp2_with fail
              have HX := Lib.hid HX.out.drew
              clear c0 c1 c2 c3 p0 p1 p2 p3 b0 b1 b2 b3 d0 d1 d2 d3
              obtain ⟨c0, c1, c2, c3⟩ := cfAt HX.out (b := Bc) (n := n) (s := s) (h := h) (t := 0) (e := 24) (by simp)
              obtain ⟨p0, p1, p2, p3⟩ := cfAt HX.out (b := Ba) (n := n + 1) (s := s) (h := h) (t := 0) (e := 24) (by simp)
              obtain ⟨b0, b1, b2, b3⟩ := cfAt HX.out (b := Bb) (n := n) (s := s + 1) (h := h) (t := 0) (e := 24) (by simp)
              obtain ⟨d0, d1, d2, d3⟩ := cfAt HX.out (b := Bd) (n := n) (s := s) (h := h + 1) (t := 0) (e := 24) (by simp)
              go_region_held3 (fun w' => w'.cell? ⟨Bc, 0, none⟩ = some (.int .i64 (n)) ∧ w'.cell? ⟨Bc, 1, none⟩ = some (.int .i64 (s)) ∧ w'.cell? ⟨Bc, 2, none⟩ = some (.int .i64 (h)) ∧ w'.cell? ⟨Bc, 3, none⟩ = some (.int .u32 0) ∧ w'.cell? ⟨Ba, 0, none⟩ = some (.int .i64 (n + 1)) ∧ w'.cell? ⟨Ba, 1, none⟩ = some (.int .i64 (s)) ∧ w'.cell? ⟨Ba, 2, none⟩ = some (.int .i64 (h)) ∧ w'.cell? ⟨Ba, 3, none⟩ = some (.int .u32 0) ∧ w'.cell? ⟨Bb, 0, none⟩ = some (.int .i64 (n)) ∧ w'.cell? ⟨Bb, 1, none⟩ = some (.int .i64 (s + 1)) ∧ w'.cell? ⟨Bb, 2, none⟩ = some (.int .i64 (h)) ∧ w'.cell? ⟨Bb, 3, none⟩ = some (.int .u32 0) ∧ w'.cell? ⟨Bd, 0, none⟩ = some (.int .i64 (n)) ∧ w'.cell? ⟨Bd, 1, none⟩ = some (.int .i64 (s)) ∧ w'.cell? ⟨Bd, 2, none⟩ = some (.int .i64 (h + 1)) ∧ w'.cell? ⟨Bd, 3, none⟩ = some (.int .u32 0)) (go_keep) ((go_at_call 22; (refine (holder_p _ _ _ _ _ _).mono ?_); rintro e w7 ⟨rfl, hb⟩; (first | rw [X1.out] | rw [X2.out] | rw [X3.out] | rw [X4.out]); (have HX := Lib.hid (HX.out.on hb)); clear hb; (obtain ⟨c0, c1, c2, c3⟩ := cfAt HX.out (b := Bc) (n := n) (s := s) (h := h) (t := 0) (e := 24) (by simp)); (obtain ⟨p0, p1, p2, p3⟩ := cfAt HX.out (b := Ba) (n := n + 1) (s := s) (h := h) (t := 0) (e := 24) (by simp)); (obtain ⟨b0, b1, b2, b3⟩ := cfAt HX.out (b := Bb) (n := n) (s := s + 1) (h := h) (t := 0) (e := 24) (by simp)); (obtain ⟨d0, d1, d2, d3⟩ := cfAt HX.out (b := Bd) (n := n) (s := s) (h := h + 1) (t := 0) (e := 24) (by simp))))
              go_wp2_with fail
              go_roundw
              case rel => exact ⟨k + 1, by go_num, by omega, HX.out⟩
              case measure => simp [intOf]; omega
            · have hgt : ¬ (k : Int) < h := hlt
              go_wp2_with fail
              go_ret
              exact ⟨rfl, HX.out.below⟩
theorem own : ownKnob Try.prog.godebug = none := by kernel_rfl
theorem laidOut : laidOutB Try.prog = true := by kernel_rfl
set_option maxRecDepth 100000 in
theorem lifted (os : Os) (started : os.Started) (H : Type) (enc : TypeId × Value → H) :
    ReturnsInHanded {} Try.checked os 9 .any (Rows.layoutGrowsSpec.pre6 enc Try.prog Try.f9 Rows.layoutGrowsRow.domain false) (Rows.layoutGrowsSpec.post enc Try.prog Try.f9 false true false false) := by
  refine returnsInHanded_of_change (C := Try.checked) own started (by kernel_rfl) Try.func9
    (ChangeSpec.witness6 (enc := enc) (C := Try.checked) false ⟨#[], #[.int .i64 0, .int .i64 0, .int .i64 0], []⟩ 8 (by kernel_rfl) (by kernel_rfl) (by kernel_rfl) (by kernel_rfl)) ?_
  intro W base args ds gs before hval0 hW hcnd _
  have hval : ∀ (j : Nat) t v, Try.f9.params[j]? = some t → args[j]? = some v → Value.okWide Try.prog W .any base t v := hval0
  have hW' := hW
  obtain ⟨p, q, hA0, hV, rfl, hfz, hnd⟩ := hW
  have hA : DataW.TrodAll enc Try.prog W 0 (fun _ => true) true Try.f9.params.toList args.toList ds p := hA0
  rw [Try.params9] at hA hval
  obtain ⟨v0, vs0, d0, ds0, p0, q0, hargs, rfl, rfl, h0, r0⟩ := trodAll_cons hA
  obtain ⟨v1, vs1, d1, ds1, p1, q1, rfl, rfl, rfl, h1, r1⟩ := trodAll_cons r0
  obtain ⟨v2, vs2, d2, ds2, p2, q2, rfl, rfl, rfl, h2, r2⟩ := trodAll_cons r1
  obtain ⟨rfl, rfl, rfl⟩ := trodAll_nil r2
  obtain rfl : args = #[v0, v1, v2] := by cases args; simp_all
  obtain ⟨rfl, rfl⟩ := trodVars_none hV
  obtain ⟨a0, rfl, rfl, rfl, w0⟩ := open_int Try.underlying3 (hval 0 3 v0 rfl rfl) h0
  obtain ⟨a1, rfl, rfl, rfl, w1⟩ := open_int Try.underlying3 (hval 1 3 v1 rfl rfl) h1
  obtain ⟨a2, rfl, rfl, rfl, w2⟩ := open_int Try.underlying3 (hval 2 3 v2 rfl rfl) h2
  clear hA0 hval0
  refine (walk a0 a1 a2 w0 w1 w2 W).mono fun e W' ⟨he, hb⟩ => ?_
  subst he
  exact ⟨_, rfl, lift.post_law (tb := 4) laidOut (by rw [Try.params9]; exact fun t ht => (of_decide_eq_true (by kernel_rfl) : ∀ t ∈ [3, 3, 3], Try.prog.readableRec t = true ∧ t < Try.prog.types.size) t ht) (by kernel_rfl) Try.underlying4 rfl hW' rfl hb⟩
theorem over : Rows.layoutGrowsRow.holds Try.pinned (OpenSpec.ofChange Rows.layoutGrowsSpec) :=
  OpenClaim.holds_of_wide 9 Try.f9 rfl rfl rfl rfl rfl rfl rfl ⟨rfl, rfl, rfl, rfl, rfl⟩ rfl rfl rfl rfl rfl (by kernel_rfl) Try.func9 (by kernel_rfl)
    (of_decide_eq_true (by kernel_rfl)) (by unfold Func.isWrapper; first | (rw [if_pos (by decide +kernel)]; kernel_rfl) | (rw [if_neg (by decide +kernel)]; exact ⟨rfl, rfl⟩))
    (fun os started H enc _ => lifted os started H enc)
theorem proved : Rows.LayoutGrowsSaid :=
  over
end Go.Proofs.Ytcacahokdnpboaa.layoutGrows
