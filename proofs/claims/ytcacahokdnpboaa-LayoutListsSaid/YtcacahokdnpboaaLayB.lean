/- The example at the head of chapter 6's statements; numbers picked; configs made; over this seat's program. -/
import Derived.Test.YtcacahokdnpboaaLayA
namespace Go.Proofs.Ytcacahokdnpboaa.ly
open Go.ChangeShapes Go.WideShapes Go.ChangeAt Go.RowKit frame lift sep own join
set_option linter.unusedVariables false
def pickI (c n : Int) : Int := (if c < 0 then -(c + 1) else c) % n
theorem pickI_bd (c n : Int) (hn : 0 < n) : 0 ≤ pickI c n ∧ pickI c n < n := ⟨Int.emod_nonneg _ (by omega), Int.emod_lt_of_pos _ hn⟩
theorem pick_any (c n : Int) (h0 : -9223372036854775808 ≤ c) (h1 : c ≤ 9223372036854775807) (hn : 0 < n) (hn' : n ≤ 9223372036854775807) (w : World) :
    Calls Try.prog 35 #[.int .i64 c, .int .i64 n] w fun e w' => e = .returned (.int .i64 (pickI c n)) ∧ w = w' := by
  by_cases h : c < 0
  · have H1 : Hid (pickI c n = -((c + 1).tmod n)) := by
      unfold Hid pickI
      rw [if_pos h, ← Int.tmod_eq_emod_of_nonneg (by omega), Int.neg_tmod]
    go_enter Try.func35, Try.ntmps35
    go_wp2_with fail
    go_ret
    rw [H1.out]
    exact ⟨rfl, rfl⟩
  · have H1 : Hid (pickI c n = c % n) := by simp [Hid, pickI, h]
    go_enter Try.func35, Try.ntmps35
    go_wp2_with fail
    go_ret
    rw [H1.out]
    exact ⟨rfl, rfl⟩
def I64 (x : Int) : Prop := -9223372036854775808 ≤ x ∧ x ≤ 9223372036854775807
def cfgOf (n s h t : Int) : Cf := ⟨1 + pickI n 64, pickI s 17, pickI h 65, t⟩
theorem cfgOf_ok (n s h t : Int) : Ok (cfgOf n s h t) := by
  have h1 := pickI_bd n 64 (by decide)
  have h2 := pickI_bd s 17 (by decide)
  have h3 := pickI_bd h 65 (by decide)
  show 1 ≤ 1 + pickI n 64 ∧ 1 + pickI n 64 ≤ 64 ∧ 0 ≤ pickI s 17 ∧ pickI s 17 ≤ 16 ∧ 0 ≤ pickI h 65 ∧ pickI h 65 ≤ 64
  omega
theorem config_any (n s h t : Int) (hn : I64 n) (hs : I64 s) (hh : I64 h) (w : World) :
    Calls Try.prog 32 #[.int .i64 n, .int .i64 s, .int .i64 h, .int .u32 t] w fun e w' => e = .returned (.agg #[.int .i64 (cfgOf n s h t).nodes, .int .i64 (cfgOf n s h t).slots, .int .i64 (cfgOf n s h t).holders, .int .u32 (cfgOf n s h t).tag]) ∧ Below w.heap.size w w' := by
  unfold cfgOf
  dsimp only
  have h1 := pickI_bd n 64 (by decide)
  obtain ⟨x, hx⟩ : ∃ x, pickI n 64 = x := ⟨_, rfl⟩
  rw [hx] at h1 ⊢
  have HX := Lib.hid hx
  have hw : IntKind.i64.wrap (1 + x) = 1 + x := IntWalk.i64_in _ (by omega)
  clear hx
  go_enter Try.func32, Try.ntmps32
  go_wp2_with fail
  refine (pick_any n 64 hn.1 hn.2 (by decide) (by decide) _).mono ?_
  rintro e w1 ⟨rfl, rfl⟩
  rw [HX.out]
  go_wp2_with fail
  refine (pick_any s 17 hs.1 hs.2 (by decide) (by decide) _).mono ?_
  rintro e w1 ⟨rfl, rfl⟩
  go_wp2_with fail
  refine (pick_any h 65 hh.1 hh.2 (by decide) (by decide) _).mono ?_
  rintro e w1 ⟨rfl, rfl⟩
  go_wp2_with fail
  simp [bodyPost, results, Try.results32, go_sem]
  exact (Below.refl _ _).alloc (Nat.le_refl _) _
theorem as_any (c : Cf) (w : World) : Calls Try.prog 11 #[.agg #[.int .i64 c.nodes, .int .i64 c.slots, .int .i64 c.holders, .int .u32 c.tag]] w fun e w' => e = .returned (.agg #[.int .i64 c.nodes, .int .i64 c.slots, .int .i64 c.holders, .int .u32 c.tag]) ∧ Below w.heap.size w w' := by
  obtain ⟨n, s, h, t⟩ := c
  dsimp only
  go_enter Try.func11, Try.ntmps11
  go_wp2_with fail
  simp [bodyPost, results, Try.results11, go_sem]
  exact ((Below.refl _ _).alloc (Nat.le_refl _) _).alloc (by simp) _
theorem cells4 {F : Nat → Prop} {W w : World} {b : Nat} {x0 x1 x2 x3 : Value} {t : TypeId} {L : List Thing} (h : Hold F W (blk b (.cells #[x0, x1, x2, x3] t (0, 0)) :: L) w) :
    w.cell? ⟨b, 0, none⟩ = some x0 ∧ w.cell? ⟨b, 1, none⟩ = some x1 ∧ w.cell? ⟨b, 2, none⟩ = some x2 ∧ w.cell? ⟨b, 3, none⟩ = some x3 :=
  ⟨h.cell (List.mem_cons_self ..) 0, h.cell (List.mem_cons_self ..) 1, h.cell (List.mem_cons_self ..) 2, h.cell (List.mem_cons_self ..) 3⟩
set_option maxHeartbeats 1000000 in
theorem shown_any (w : World) : Calls Try.prog 10 #[] w fun e w' => e = .returned (.bool true) ∧ Below w.heap.size w w' := by
  have HN := Lib.hid (fun w => next_any ⟨2, 1, 0, 0⟩ 2 (by decide) (by decide) w)
  have HV := Lib.hid (fun w => value_any ⟨2, 1, 0, 0⟩ 2 (by decide) (by decide) w)
  have HS := Lib.hid (fun w => slot_any ⟨2, 1, 0, 0⟩ 0 w)
  have HCE := Lib.hid (fun w => cells_any ⟨2, 1, 0, 0⟩ w)
  have HC := Lib.hid (fun w => check_any ⟨0, 0, 0, 0⟩ w)
  have v1 : nextP ⟨2, 1, 0, 0⟩ 2 = 4 := by decide
  have v2 : valueP ⟨2, 1, 0, 0⟩ 2 = 5 := by decide
  have v3 : slotP ⟨2, 1, 0, 0⟩ 0 = 6 := by decide
  have v4 : cellsN ⟨2, 1, 0, 0⟩ = 7 := by decide
  have v5 : checkE ⟨0, 0, 0, 0⟩ = 1 := by decide
  have V1 := Lib.hid v1; have V2 := Lib.hid v2; have V3 := Lib.hid v3; have V4 := Lib.hid v4; have V5 := Lib.hid v5
  clear v1 v2 v3 v4 v5
  go_enter Try.func10, Try.ntmps10
  go_wp2_with fail
  have H0 := Lib.hid ((Hold.empty w).newBlk (Obj.cells #[.int .i64 2, .int .i64 1, .int .i64 0, .int .u32 0] 24))
  refine (HN.out _).mono ?_
  rintro e w1 ⟨rfl, hb⟩
  rw [V1.out]
  have H1 := Lib.hid (H0.out.on hb)
  obtain ⟨c0, c1, c2, c3⟩ := cells4 H1.out
  clear hb
  go_wp2_with fail
  clear c0 c1 c2 c3
  refine (HV.out _).mono ?_
  rintro e w2 ⟨rfl, hb⟩
  rw [V2.out]
  have H2 := Lib.hid (H1.out.on hb)
  obtain ⟨c0, c1, c2, c3⟩ := cells4 H2.out
  clear hb
  go_wp2_with fail
  clear c0 c1 c2 c3
  refine (HS.out _).mono ?_
  rintro e w3 ⟨rfl, hb⟩
  rw [V3.out]
  have H3 := Lib.hid (H2.out.on hb)
  obtain ⟨c0, c1, c2, c3⟩ := cells4 H3.out
  clear hb
  go_wp2_with fail
  clear c0 c1 c2 c3
  refine (HCE.out _).mono ?_
  rintro e w4 ⟨rfl, hb⟩
  rw [V4.out]
  have H4 := Lib.hid (H3.out.on hb)
  obtain ⟨c0, c1, c2, c3⟩ := cells4 H4.out
  clear hb
  go_wp2_with fail
  clear c0 c1 c2 c3
  refine (HC.out _).mono ?_
  rintro e w5 ⟨rfl, hb⟩
  rw [V5.out]
  have H5 := Lib.hid (H4.out.on hb)
  obtain ⟨c0, c1, c2, c3⟩ := cells4 H5.out
  clear hb
  go_wp2_with fail
  clear c0 c1 c2 c3
  go_ret
  exact ⟨rfl, H5.out.below⟩
end Go.Proofs.Ytcacahokdnpboaa.ly
