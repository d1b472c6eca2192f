/- Package layout: what each call answers; over this seat's program. -/
import Derived.Test.YtcacahokdnpboaaLayE
import Derived.OpenShut
namespace Go.Proofs.Ytcacahokdnpboaa.ly
open Go.ChangeShapes Go.WideShapes Go.ChangeAt Go.RowKit frame lift sep own join
set_option linter.unusedVariables false
theorem check_w (n s h t : Int) (w : World) : Calls Try.prog 14 #[.agg #[.int .i64 n, .int .i64 s, .int .i64 h, .int .u32 t]] w fun e w' => e = .returned (.int .i64 (checkE ⟨n, s, h, t⟩)) ∧ w' = w.alloc (.cells #[.int .i64 n, .int .i64 s, .int .i64 h, .int .u32 t] 24 (0, 0)) := by
  have HN : ∀ P : Prop, (Ok ⟨n, s, h, t⟩ → P) → ¬ P → Hid (checkE ⟨n, s, h, t⟩ = 1) := fun P h1 h2 => by
    have : ¬ Ok ⟨n, s, h, t⟩ := fun h => h2 (h1 h)
    simp [Hid, checkE, this]
  by_cases h1 : 1 ≤ n
  · by_cases h2 : n ≤ 64
    · by_cases h3 : 0 ≤ s
      · by_cases h4 : s ≤ 16
        · by_cases h5 : 0 ≤ h
          · by_cases h6 : h ≤ 64
            · have HE : Hid (checkE ⟨n, s, h, t⟩ = 0) := by
                have : Ok ⟨n, s, h, t⟩ := ⟨h1, h2, h3, h4, h5, h6⟩
                simp [Hid, checkE, this]
              clear HN
              go_enter Try.func14, Try.ntmps14
              go_wp2_with fail
              go_ret
              rw [HE.out]
              exact ⟨rfl, rfl⟩
            · have HE := HN (h ≤ 64) (fun h => h.2.2.2.2.2) h6
              clear HN
              go_enter Try.func14, Try.ntmps14
              go_wp2_with fail
              go_ret
              rw [HE.out]
              exact ⟨rfl, rfl⟩
          · have HE := HN (0 ≤ h) (fun h => h.2.2.2.2.1) h5
            clear HN
            go_enter Try.func14, Try.ntmps14
            go_wp2_with fail
            go_ret
            rw [HE.out]
            exact ⟨rfl, rfl⟩
        · have HE := HN (s ≤ 16) (fun h => h.2.2.2.1) h4
          clear HN
          go_enter Try.func14, Try.ntmps14
          go_wp2_with fail
          go_ret
          rw [HE.out]
          exact ⟨rfl, rfl⟩
      · have HE := HN (0 ≤ s) (fun h => h.2.2.1) h3
        clear HN
        go_enter Try.func14, Try.ntmps14
        go_wp2_with fail
        go_ret
        rw [HE.out]
        exact ⟨rfl, rfl⟩
    · have HE := HN (n ≤ 64) (fun h => h.2.1) h2
      clear HN
      go_enter Try.func14, Try.ntmps14
      go_wp2_with fail
      go_ret
      rw [HE.out]
      exact ⟨rfl, rfl⟩
  · have HE := HN (1 ≤ n) (fun h => h.1) h1
    clear HN
    go_enter Try.func14, Try.ntmps14
    go_wp2_with fail
    go_ret
    rw [HE.out]
    exact ⟨rfl, rfl⟩
theorem check_any (c : Cf) (w : World) : Calls Try.prog 14 #[.agg #[.int .i64 c.nodes, .int .i64 c.slots, .int .i64 c.holders, .int .u32 c.tag]] w fun e w' => e = .returned (.int .i64 (checkE c)) ∧ Below w.heap.size w w' := by
  obtain ⟨n, s, h, t⟩ := c
  refine (check_w n s h t w).mono ?_
  rintro e w' ⟨rfl, rfl⟩
  exact ⟨rfl, (Below.refl _ _).alloc (Nat.le_refl _) _⟩
theorem ix4_0 (x0 x1 x2 x3 : Value) (w : World) : (Instr.index 72 (.agg #[x0, x1, x2, x3]) (.int .i64 0)).run Try.prog w = .ok x0 w := by kernel_rfl
theorem ix4_1 (x0 x1 x2 x3 : Value) (w : World) : (Instr.index 72 (.agg #[x0, x1, x2, x3]) (.int .i64 1)).run Try.prog w = .ok x1 w := by kernel_rfl
theorem ix4_2 (x0 x1 x2 x3 : Value) (w : World) : (Instr.index 72 (.agg #[x0, x1, x2, x3]) (.int .i64 2)).run Try.prog w = .ok x2 w := by kernel_rfl
theorem ix4_3 (x0 x1 x2 x3 : Value) (w : World) : (Instr.index 72 (.agg #[x0, x1, x2, x3]) (.int .i64 3)).run Try.prog w = .ok x3 w := by kernel_rfl
theorem ix5_4 (x0 x1 x2 x3 x4 : Value) (w : World) : (Instr.index 62 (.agg #[x0, x1, x2, x3, x4]) (.int .i64 4)).run Try.prog w = .ok x4 w := by kernel_rfl
/-- Where each kind of things begins. -/
def atsV (c : Cf) : Value := if Ok c then .agg #[.int .i64 0, .int .i64 2, .int .i64 (2 + 2 * c.nodes), .int .i64 (2 + 2 * c.nodes + c.slots), .int .i64 (2 + 2 * c.nodes + c.slots + c.holders)] else .agg #[.int .i64 0, .int .i64 0, .int .i64 0, .int .i64 0, .int .i64 0]
theorem begins_any (c : Cf) (w : World) : Calls Try.prog 39 #[.agg #[.int .i64 c.nodes, .int .i64 c.slots, .int .i64 c.holders, .int .u32 c.tag]] w fun e w' => e = .returned (atsV c) ∧ Below w.heap.size w w' := by
  obtain ⟨n, s, h, t⟩ := c
  have HC := Lib.hid (fun w => check_w n s h t w)
  have hcase := checkE_is ⟨n, s, h, t⟩
  rcases hcase with ⟨hok, hE⟩ | ⟨hok, hE⟩
  · have HV : Hid (atsV ⟨n, s, h, t⟩ = .agg #[.int .i64 0, .int .i64 2, .int .i64 (2 + 2 * n), .int .i64 (2 + 2 * n + s), .int .i64 (2 + 2 * n + s + h)]) := by simp [Hid, atsV, hok]
    obtain ⟨n1, n2, n3, n4, n5, n6⟩ := id hok
    dsimp only at n1 n2 n3 n4 n5 n6
    have HE := Lib.hid hE
    clear hok hE
    have hw1 : IntKind.i64.wrap (2 * n) = 2 * n := IntWalk.i64_in _ (by omega)
    have hw2 : IntKind.i64.wrap (2 + 2 * n) = 2 + 2 * n := IntWalk.i64_in _ (by omega)
    have hw3 : IntKind.i64.wrap (2 + 2 * n + s) = 2 + 2 * n + s := IntWalk.i64_in _ (by omega)
    have hw4 : IntKind.i64.wrap (2 + 2 * n + s + h) = 2 + 2 * n + s + h := IntWalk.i64_in _ (by omega)
    have i0 := ix4_0; have i1 := ix4_1; have i2 := ix4_2; have i3 := ix4_3
    go_enter Try.func39, Try.ntmps39
    go_wp2_with fail
    refine (HC.out _).mono ?_
    rintro e w1 ⟨rfl, rfl⟩
    rw [HE.out]
    go_wp2_with fail
    refine wp_loop_rounds 5 ?_
    rw [rounds_succ]; go_wp2_with fail
    rw [rounds_succ]; go_wp2_with fail
    rw [rounds_succ]; go_wp2_with fail
    rw [rounds_succ]; go_wp2_with fail
    rw [rounds_succ]; go_wp2_with fail
    refine bodyPost_ret (v := .agg #[.int .i64 0, .int .i64 2, .int .i64 (2 + 2 * n), .int .i64 (2 + 2 * n + s), .int .i64 (2 + 2 * n + s + h)]) (by simp [results, Try.results39, go_sem]; try rfl) rfl ?_
    rw [HV.out]
    exact ⟨rfl, by go_grown⟩
  · have HV : Hid (atsV ⟨n, s, h, t⟩ = .agg #[.int .i64 0, .int .i64 0, .int .i64 0, .int .i64 0, .int .i64 0]) := by simp [Hid, atsV, hok]
    have HE := Lib.hid hE
    clear hok hE
    go_enter Try.func39, Try.ntmps39
    go_wp2_with fail
    refine (HC.out _).mono ?_
    rintro e w1 ⟨rfl, rfl⟩
    rw [HE.out]
    go_wp2_with fail
    refine bodyPost_ret (v := .agg #[.int .i64 0, .int .i64 0, .int .i64 0, .int .i64 0, .int .i64 0]) (by simp [results, Try.results39, go_sem]; try rfl) rfl ?_
    rw [HV.out]
    exact ⟨rfl, by go_grown⟩
theorem cells_any (c : Cf) (w : World) : Calls Try.prog 24 #[.agg #[.int .i64 c.nodes, .int .i64 c.slots, .int .i64 c.holders, .int .u32 c.tag]] w fun e w' => e = .returned (.int .i64 (cellsN c)) ∧ Below w.heap.size w w' := by
  have HC := Lib.hid (fun w => begins_any c w)
  have hcase : (atsV c = .agg #[.int .i64 0, .int .i64 2, .int .i64 (2 + 2 * c.nodes), .int .i64 (2 + 2 * c.nodes + c.slots), .int .i64 (cellsN c)]) ∨ (atsV c = .agg #[.int .i64 0, .int .i64 0, .int .i64 0, .int .i64 0, .int .i64 (cellsN c)]) := by
    unfold atsV cellsN
    by_cases h : Ok c <;> simp [h]
  obtain ⟨n, s, h, t⟩ := c
  obtain ⟨N, hN⟩ : ∃ N, cellsN ⟨n, s, h, t⟩ = N := ⟨_, rfl⟩
  rw [hN] at hcase ⊢
  dsimp only at HC hcase ⊢
  have i4 := ix5_4
  rcases hcase with hv | hv <;>
  · have HV := Lib.hid hv
    clear hv
    go_enter Try.func24, Try.ntmps24
    go_wp2_with fail
    refine (HC.out _).mono ?_
    rintro e w1 ⟨rfl, hb⟩
    rw [HV.out]
    have HB := Lib.hid (boxed hb).1
    clear hb
    go_wp2_with fail
    go_ret
    exact ⟨rfl, HB.out⟩
theorem place1 (c : Cf) (k : Int) (x0 x1 x2 x3 x4 r : Int) (hv : atsV c = .agg #[.int .i64 x0, .int .i64 x1, .int .i64 x2, .int .i64 x3, .int .i64 x4]) (b0 : 0 ≤ x1) (b1 : x1 ≤ x2) (b2 : x2 ≤ 1000) (hr : r = if 0 ≤ k ∧ k < x2 - x1 then x1 + k else -1) (w : World) : Calls Try.prog 37 #[.agg #[.int .i64 c.nodes, .int .i64 c.slots, .int .i64 c.holders, .int .u32 c.tag], .int .i64 1, .int .i64 k] w fun e w' => e = .returned (.int .i64 r) ∧ Below w.heap.size w w' := by
  have HC := Lib.hid (fun w => begins_any c w)
  have HV := Lib.hid hv
  clear hv
  obtain ⟨n, s, h, t⟩ := c
  dsimp only at HC HV ⊢
  have hw1 : IntKind.i64.wrap (x2 - x1) = x2 - x1 := IntWalk.i64_in _ (by omega)
  by_cases h0 : k < 0
  · have HR : Hid (r = -1) := by unfold Hid; rw [hr, if_neg (by omega)]
    have hd : decide (k < 0) = true := by simpa using h0
    clear hr
    go_enter Try.func37, Try.ntmps37
    go_wp2_with fail
    refine (HC.out _).mono ?_
    rintro e w1 ⟨rfl, hb⟩
    rw [HV.out]
    have HB := Lib.hid (boxed hb).1
    clear hb
    go_wp2_with fail
    go_quiet (fail)
    go_wp2_with fail
    go_ret
    rw [HR.out]
    exact ⟨rfl, below_drewN (HB.out.alloc HB.out.size _) _⟩
  · by_cases h1 : k < x2 - x1
    · have HR : Hid (r = x1 + k) := by unfold Hid; rw [hr, if_pos (by omega)]
      have hd : decide (k < 0) = false := by simpa using h0
      have hd1 : decide (k < x2 - x1) = true := by simpa using h1
      have hw2 : IntKind.i64.wrap (x1 + k) = x1 + k := IntWalk.i64_in _ (by omega)
      have h2 : ¬ x2 - x1 ≤ k := by omega
      clear hr
      go_enter Try.func37, Try.ntmps37
      go_wp2_with fail
      refine (HC.out _).mono ?_
      rintro e w1 ⟨rfl, hb⟩
      rw [HV.out]
      have HB := Lib.hid (boxed hb).1
      clear hb
      go_wp2_with fail
      go_quiet (fail)
      go_wp2_with fail
      go_ret
      rw [HR.out]
      exact ⟨rfl, below_drewN (HB.out.alloc HB.out.size _) _⟩
    · have HR : Hid (r = -1) := by unfold Hid; rw [hr, if_neg (by omega)]
      have hd : decide (k < 0) = false := by simpa using h0
      have hd1 : decide (k < x2 - x1) = false := by simpa using h1
      have h2 : x2 - x1 ≤ k := by omega
      clear hr
      go_enter Try.func37, Try.ntmps37
      go_wp2_with fail
      refine (HC.out _).mono ?_
      rintro e w1 ⟨rfl, hb⟩
      rw [HV.out]
      have HB := Lib.hid (boxed hb).1
      clear hb
      go_wp2_with fail
      go_quiet (fail)
      go_wp2_with fail
      go_ret
      rw [HR.out]
      exact ⟨rfl, below_drewN (HB.out.alloc HB.out.size _) _⟩
theorem place2 (c : Cf) (k : Int) (x0 x1 x2 x3 x4 r : Int) (hv : atsV c = .agg #[.int .i64 x0, .int .i64 x1, .int .i64 x2, .int .i64 x3, .int .i64 x4]) (b0 : 0 ≤ x2) (b1 : x2 ≤ x3) (b2 : x3 ≤ 1000) (hr : r = if 0 ≤ k ∧ k < x3 - x2 then x2 + k else -1) (w : World) : Calls Try.prog 37 #[.agg #[.int .i64 c.nodes, .int .i64 c.slots, .int .i64 c.holders, .int .u32 c.tag], .int .i64 2, .int .i64 k] w fun e w' => e = .returned (.int .i64 r) ∧ Below w.heap.size w w' := by
  have HC := Lib.hid (fun w => begins_any c w)
  have HV := Lib.hid hv
  clear hv
  obtain ⟨n, s, h, t⟩ := c
  dsimp only at HC HV ⊢
  have hw1 : IntKind.i64.wrap (x3 - x2) = x3 - x2 := IntWalk.i64_in _ (by omega)
  by_cases h0 : k < 0
  · have HR : Hid (r = -1) := by unfold Hid; rw [hr, if_neg (by omega)]
    have hd : decide (k < 0) = true := by simpa using h0
    clear hr
    go_enter Try.func37, Try.ntmps37
    go_wp2_with fail
    refine (HC.out _).mono ?_
    rintro e w1 ⟨rfl, hb⟩
    rw [HV.out]
    have HB := Lib.hid (boxed hb).1
    clear hb
    go_wp2_with fail
    go_quiet (fail)
    go_wp2_with fail
    go_ret
    rw [HR.out]
    exact ⟨rfl, below_drewN (HB.out.alloc HB.out.size _) _⟩
  · by_cases h1 : k < x3 - x2
    · have HR : Hid (r = x2 + k) := by unfold Hid; rw [hr, if_pos (by omega)]
      have hd : decide (k < 0) = false := by simpa using h0
      have hd1 : decide (k < x3 - x2) = true := by simpa using h1
      have hw2 : IntKind.i64.wrap (x2 + k) = x2 + k := IntWalk.i64_in _ (by omega)
      have h2 : ¬ x3 - x2 ≤ k := by omega
      clear hr
      go_enter Try.func37, Try.ntmps37
      go_wp2_with fail
      refine (HC.out _).mono ?_
      rintro e w1 ⟨rfl, hb⟩
      rw [HV.out]
      have HB := Lib.hid (boxed hb).1
      clear hb
      go_wp2_with fail
      go_quiet (fail)
      go_wp2_with fail
      go_ret
      rw [HR.out]
      exact ⟨rfl, below_drewN (HB.out.alloc HB.out.size _) _⟩
    · have HR : Hid (r = -1) := by unfold Hid; rw [hr, if_neg (by omega)]
      have hd : decide (k < 0) = false := by simpa using h0
      have hd1 : decide (k < x3 - x2) = false := by simpa using h1
      have h2 : x3 - x2 ≤ k := by omega
      clear hr
      go_enter Try.func37, Try.ntmps37
      go_wp2_with fail
      refine (HC.out _).mono ?_
      rintro e w1 ⟨rfl, hb⟩
      rw [HV.out]
      have HB := Lib.hid (boxed hb).1
      clear hb
      go_wp2_with fail
      go_quiet (fail)
      go_wp2_with fail
      go_ret
      rw [HR.out]
      exact ⟨rfl, below_drewN (HB.out.alloc HB.out.size _) _⟩
theorem place3 (c : Cf) (k : Int) (x0 x1 x2 x3 x4 r : Int) (hv : atsV c = .agg #[.int .i64 x0, .int .i64 x1, .int .i64 x2, .int .i64 x3, .int .i64 x4]) (b0 : 0 ≤ x3) (b1 : x3 ≤ x4) (b2 : x4 ≤ 1000) (hr : r = if 0 ≤ k ∧ k < x4 - x3 then x3 + k else -1) (w : World) : Calls Try.prog 37 #[.agg #[.int .i64 c.nodes, .int .i64 c.slots, .int .i64 c.holders, .int .u32 c.tag], .int .i64 3, .int .i64 k] w fun e w' => e = .returned (.int .i64 r) ∧ Below w.heap.size w w' := by
  have HC := Lib.hid (fun w => begins_any c w)
  have HV := Lib.hid hv
  clear hv
  obtain ⟨n, s, h, t⟩ := c
  dsimp only at HC HV ⊢
  have hw1 : IntKind.i64.wrap (x4 - x3) = x4 - x3 := IntWalk.i64_in _ (by omega)
  by_cases h0 : k < 0
  · have HR : Hid (r = -1) := by unfold Hid; rw [hr, if_neg (by omega)]
    have hd : decide (k < 0) = true := by simpa using h0
    clear hr
    go_enter Try.func37, Try.ntmps37
    go_wp2_with fail
    refine (HC.out _).mono ?_
    rintro e w1 ⟨rfl, hb⟩
    rw [HV.out]
    have HB := Lib.hid (boxed hb).1
    clear hb
    go_wp2_with fail
    go_quiet (fail)
    go_wp2_with fail
    go_ret
    rw [HR.out]
    exact ⟨rfl, below_drewN (HB.out.alloc HB.out.size _) _⟩
  · by_cases h1 : k < x4 - x3
    · have HR : Hid (r = x3 + k) := by unfold Hid; rw [hr, if_pos (by omega)]
      have hd : decide (k < 0) = false := by simpa using h0
      have hd1 : decide (k < x4 - x3) = true := by simpa using h1
      have hw2 : IntKind.i64.wrap (x3 + k) = x3 + k := IntWalk.i64_in _ (by omega)
      have h2 : ¬ x4 - x3 ≤ k := by omega
      clear hr
      go_enter Try.func37, Try.ntmps37
      go_wp2_with fail
      refine (HC.out _).mono ?_
      rintro e w1 ⟨rfl, hb⟩
      rw [HV.out]
      have HB := Lib.hid (boxed hb).1
      clear hb
      go_wp2_with fail
      go_quiet (fail)
      go_wp2_with fail
      go_ret
      rw [HR.out]
      exact ⟨rfl, below_drewN (HB.out.alloc HB.out.size _) _⟩
    · have HR : Hid (r = -1) := by unfold Hid; rw [hr, if_neg (by omega)]
      have hd : decide (k < 0) = false := by simpa using h0
      have hd1 : decide (k < x4 - x3) = false := by simpa using h1
      have h2 : x4 - x3 ≤ k := by omega
      clear hr
      go_enter Try.func37, Try.ntmps37
      go_wp2_with fail
      refine (HC.out _).mono ?_
      rintro e w1 ⟨rfl, hb⟩
      rw [HV.out]
      have HB := Lib.hid (boxed hb).1
      clear hb
      go_wp2_with fail
      go_quiet (fail)
      go_wp2_with fail
      go_ret
      rw [HR.out]
      exact ⟨rfl, below_drewN (HB.out.alloc HB.out.size _) _⟩
theorem next_place (c : Cf) (i : Int) (w : World) : Calls Try.prog 37 #[.agg #[.int .i64 c.nodes, .int .i64 c.slots, .int .i64 c.holders, .int .u32 c.tag], .int .i64 1, .int .i64 (2 * (i - 1))] w fun e w' => e = .returned (.int .i64 (nextP c i)) ∧ Below w.heap.size w w' := by
  by_cases hok : Ok c
  · refine place1 c _ 0 2 (2 + 2 * c.nodes) (2 + 2 * c.nodes + c.slots) (2 + 2 * c.nodes + c.slots + c.holders) _ (by simp [atsV, hok]) ?_ ?_ ?_ ?_ w
    all_goals (try unfold Ok at hok; try omega)
    unfold nextP Ok
    split <;> split <;> omega
  · refine place1 c _ 0 0 0 0 0 _ (by simp [atsV, hok]) (by omega) (by omega) (by omega) ?_ w
    have : nextP c i = -1 := by simp [nextP, hok]
    rw [this, if_neg (by omega)]
theorem value_place (c : Cf) (i : Int) (w : World) : Calls Try.prog 37 #[.agg #[.int .i64 c.nodes, .int .i64 c.slots, .int .i64 c.holders, .int .u32 c.tag], .int .i64 1, .int .i64 (2 * (i - 1) + 1)] w fun e w' => e = .returned (.int .i64 (valueP c i)) ∧ Below w.heap.size w w' := by
  by_cases hok : Ok c
  · refine place1 c _ 0 2 (2 + 2 * c.nodes) (2 + 2 * c.nodes + c.slots) (2 + 2 * c.nodes + c.slots + c.holders) _ (by simp [atsV, hok]) ?_ ?_ ?_ ?_ w
    all_goals (try unfold Ok at hok; try omega)
    unfold valueP Ok
    split <;> split <;> omega
  · refine place1 c _ 0 0 0 0 0 _ (by simp [atsV, hok]) (by omega) (by omega) (by omega) ?_ w
    have : valueP c i = -1 := by simp [valueP, hok]
    rw [this, if_neg (by omega)]
theorem slot_place (c : Cf) (k : Int) (w : World) : Calls Try.prog 37 #[.agg #[.int .i64 c.nodes, .int .i64 c.slots, .int .i64 c.holders, .int .u32 c.tag], .int .i64 2, .int .i64 (k)] w fun e w' => e = .returned (.int .i64 (slotP c k)) ∧ Below w.heap.size w w' := by
  by_cases hok : Ok c
  · refine place2 c _ 0 2 (2 + 2 * c.nodes) (2 + 2 * c.nodes + c.slots) (2 + 2 * c.nodes + c.slots + c.holders) _ (by simp [atsV, hok]) ?_ ?_ ?_ ?_ w
    all_goals (try unfold Ok at hok; try omega)
    unfold slotP Ok
    split <;> split <;> omega
  · refine place2 c _ 0 0 0 0 0 _ (by simp [atsV, hok]) (by omega) (by omega) (by omega) ?_ w
    have : slotP c k = -1 := by simp [slotP, hok]
    rw [this, if_neg (by omega)]
theorem holder_place (c : Cf) (k : Int) (w : World) : Calls Try.prog 37 #[.agg #[.int .i64 c.nodes, .int .i64 c.slots, .int .i64 c.holders, .int .u32 c.tag], .int .i64 3, .int .i64 (k)] w fun e w' => e = .returned (.int .i64 (holderP c k)) ∧ Below w.heap.size w w' := by
  by_cases hok : Ok c
  · refine place3 c _ 0 2 (2 + 2 * c.nodes) (2 + 2 * c.nodes + c.slots) (2 + 2 * c.nodes + c.slots + c.holders) _ (by simp [atsV, hok]) ?_ ?_ ?_ ?_ w
    all_goals (try unfold Ok at hok; try omega)
    unfold holderP Ok
    split <;> split <;> omega
  · refine place3 c _ 0 0 0 0 0 _ (by simp [atsV, hok]) (by omega) (by omega) (by omega) ?_ w
    have : holderP c k = -1 := by simp [holderP, hok]
    rw [this, if_neg (by omega)]
theorem of_any (i : Int) (h0 : 0 ≤ i) (h1 : i ≤ 4294967295) (w : World) : Calls Try.prog 38 #[.int .u32 i] w fun e w' => e = .returned (.int .i64 (2 * (i - 1))) ∧ w' = w := by
  have hw1 : IntKind.i64.wrap i = i := IntWalk.i64_in _ (by omega)
  have hw2 : IntKind.i64.wrap (i - 1) = i - 1 := IntWalk.i64_in _ (by omega)
  have hw3 : IntKind.i64.wrap (2 * (i - 1)) = 2 * (i - 1) := IntWalk.i64_in _ (by omega)
  go_enter Try.func38, Try.ntmps38
  go_wp2_with fail
  go_ret
  exact ⟨rfl, rfl⟩
theorem slot_any (c : Cf) (k : Int) (w : World) : Calls Try.prog 20 #[.agg #[.int .i64 c.nodes, .int .i64 c.slots, .int .i64 c.holders, .int .u32 c.tag], .int .i64 k] w fun e w' => e = .returned (.int .i64 (slotP c k)) ∧ Below w.heap.size w w' := by
  have HC := Lib.hid (fun w => slot_place c k w)
  obtain ⟨n, s, h, t⟩ := c
  dsimp only at HC ⊢
  obtain ⟨r, hr⟩ : ∃ r, slotP ⟨n, s, h, t⟩ k = r := ⟨_, rfl⟩
  rw [hr] at HC ⊢
  clear hr
  go_enter Try.func20, Try.ntmps20
  go_wp2_with fail
  refine (HC.out _).mono ?_
  rintro e w1 ⟨rfl, hb⟩
  have HB := Lib.hid (boxed hb).1
  clear hb
  go_wp2_with fail
  go_ret
  exact ⟨rfl, HB.out⟩
theorem holder_any (c : Cf) (k : Int) (w : World) : Calls Try.prog 22 #[.agg #[.int .i64 c.nodes, .int .i64 c.slots, .int .i64 c.holders, .int .u32 c.tag], .int .i64 k] w fun e w' => e = .returned (.int .i64 (holderP c k)) ∧ Below w.heap.size w w' := by
  have HC := Lib.hid (fun w => holder_place c k w)
  obtain ⟨n, s, h, t⟩ := c
  dsimp only at HC ⊢
  obtain ⟨r, hr⟩ : ∃ r, holderP ⟨n, s, h, t⟩ k = r := ⟨_, rfl⟩
  rw [hr] at HC ⊢
  clear hr
  go_enter Try.func22, Try.ntmps22
  go_wp2_with fail
  refine (HC.out _).mono ?_
  rintro e w1 ⟨rfl, hb⟩
  have HB := Lib.hid (boxed hb).1
  clear hb
  go_wp2_with fail
  go_ret
  exact ⟨rfl, HB.out⟩
theorem next_any (c : Cf) (i : Int) (h0 : 0 ≤ i) (h1 : i ≤ 4294967295) (w : World) : Calls Try.prog 16 #[.agg #[.int .i64 c.nodes, .int .i64 c.slots, .int .i64 c.holders, .int .u32 c.tag], .int .u32 i] w fun e w' => e = .returned (.int .i64 (nextP c i)) ∧ Below w.heap.size w w' := by
  have HC := Lib.hid (fun w => next_place c i w)
  have HO := Lib.hid (fun w => of_any i h0 h1 w)
  have hw1 : IntKind.i64.wrap (2 * (i - 1)) = 2 * (i - 1) := IntWalk.i64_in _ (by omega)
  have hw2 : IntKind.i64.wrap (2 * (i - 1) + 1) = 2 * (i - 1) + 1 := IntWalk.i64_in _ (by omega)
  obtain ⟨n, s, h, t⟩ := c
  dsimp only at HC ⊢
  obtain ⟨r, hr⟩ : ∃ r, nextP ⟨n, s, h, t⟩ i = r := ⟨_, rfl⟩
  rw [hr] at HC ⊢
  clear hr
  go_enter Try.func16, Try.ntmps16
  go_wp2_with fail
  go_region_held3 (fun w' => w'.cell? ⟨w.heap.size, 0, none⟩ = some (.int .i64 n) ∧ w'.cell? ⟨w.heap.size, 1, none⟩ = some (.int .i64 s) ∧ w'.cell? ⟨w.heap.size, 2, none⟩ = some (.int .i64 h) ∧ w'.cell? ⟨w.heap.size, 3, none⟩ = some (.int .u32 t)) (go_keep) (first
    | (go_at_call 37; (refine (HC.out _).mono ?_); rintro e w2 ⟨rfl, hb⟩; (obtain ⟨hb1, d0, d1, d2, d3⟩ := boxed (below_trans ((Below.refl _ _).drew) hb)); (have HB := Lib.hid hb1); clear hb hb1)
    | (go_at_call 38; (refine (HO.out _).mono ?_); rintro e w1 ⟨rfl, rfl⟩))
  go_wp2_with fail
  go_ret
  exact ⟨rfl, HB.out⟩
theorem value_any (c : Cf) (i : Int) (h0 : 0 ≤ i) (h1 : i ≤ 4294967295) (w : World) : Calls Try.prog 18 #[.agg #[.int .i64 c.nodes, .int .i64 c.slots, .int .i64 c.holders, .int .u32 c.tag], .int .u32 i] w fun e w' => e = .returned (.int .i64 (valueP c i)) ∧ Below w.heap.size w w' := by
  have HC := Lib.hid (fun w => value_place c i w)
  have HO := Lib.hid (fun w => of_any i h0 h1 w)
  have hw1 : IntKind.i64.wrap (2 * (i - 1)) = 2 * (i - 1) := IntWalk.i64_in _ (by omega)
  have hw2 : IntKind.i64.wrap (2 * (i - 1) + 1) = 2 * (i - 1) + 1 := IntWalk.i64_in _ (by omega)
  obtain ⟨n, s, h, t⟩ := c
  dsimp only at HC ⊢
  obtain ⟨r, hr⟩ : ∃ r, valueP ⟨n, s, h, t⟩ i = r := ⟨_, rfl⟩
  rw [hr] at HC ⊢
  clear hr
  go_enter Try.func18, Try.ntmps18
  go_wp2_with fail
  go_region_held3 (fun w' => w'.cell? ⟨w.heap.size, 0, none⟩ = some (.int .i64 n) ∧ w'.cell? ⟨w.heap.size, 1, none⟩ = some (.int .i64 s) ∧ w'.cell? ⟨w.heap.size, 2, none⟩ = some (.int .i64 h) ∧ w'.cell? ⟨w.heap.size, 3, none⟩ = some (.int .u32 t)) (go_keep) (first
    | (go_at_call 37; (refine (HC.out _).mono ?_); rintro e w2 ⟨rfl, hb⟩; (obtain ⟨hb1, d0, d1, d2, d3⟩ := boxed (below_trans ((Below.refl _ _).drew) hb)); (have HB := Lib.hid hb1); clear hb hb1)
    | (go_at_call 38; (refine (HO.out _).mono ?_); rintro e w1 ⟨rfl, rfl⟩))
  go_wp2_with fail
  go_ret
  exact ⟨rfl, HB.out⟩
end Go.Proofs.Ytcacahokdnpboaa.ly
