/- Package hatstandref6: configs and places: what each call answers, over this seat's program. -/
import Derived.Test.YtcacahokdnpboaaLay
import Derived.Test.YtcacahokdnpboaaJoin
import Derived.Handy
import Derived.Deep.RegionHeld3
import Derived.Deep.RegionLaw
import Derived.Deep.QuietTactic
import Derived.BigQuiet
namespace Go.Proofs.Ytcacahokdnpboaa.ly
open Go.ChangeShapes Go.WideShapes Go.ChangeAt Go.RowKit frame lift sep own join
set_option linter.unusedVariables false
theorem checkE_is (c : Cf) : (Ok c ∧ checkE c = 0) ∨ (¬ Ok c ∧ checkE c = 1) := by
  unfold checkE
  by_cases h : Ok c <;> simp [h]
theorem rcheck_any (c : Cf) (w : World) : Calls Try.prog 15 #[.agg #[.int .i64 c.nodes, .int .i64 c.slots, .int .i64 c.holders, .int .u32 c.tag]] w fun e w' => e = .returned (.int .i64 (checkE c)) ∧ Below w.heap.size w w' := by
  obtain ⟨n, s, h, t⟩ := c
  have HB : Hid (Below w.heap.size w (w.alloc (.cells #[.int .i64 n, .int .i64 s, .int .i64 h, .int .u32 t] 26 (0, 0)))) := (Below.refl _ _).alloc (Nat.le_refl _) _
  have HN : ∀ P : Prop, (Ok ⟨n, s, h, t⟩ → P) → ¬ P → Hid (checkE ⟨n, s, h, t⟩ = 1) := fun P h1 h2 => by
    have : ¬ Ok ⟨n, s, h, t⟩ := fun h => h2 (h1 h)
    simp [Hid, checkE, this]
  by_cases h1 : 1 ≤ n
  · by_cases h2 : n ≤ 64
    · by_cases h3 : 0 ≤ s
      · by_cases h4 : s ≤ 16
        · by_cases h5 : 0 ≤ h
          · by_cases h6 : h ≤ 64
            · have HE : Hid (checkE ⟨n, s, h, t⟩ = 0) := by
                have : Ok ⟨n, s, h, t⟩ := ⟨h1, h2, h3, h4, h5, h6⟩
                simp [Hid, checkE, this]
              clear HN
              go_enter Try.func15, Try.ntmps15
              go_wp2_with fail
              go_ret
              rw [HE.out]
              exact ⟨rfl, HB.out⟩
            · have HE := HN (h ≤ 64) (fun h => h.2.2.2.2.2) h6
              clear HN
              go_enter Try.func15, Try.ntmps15
              go_wp2_with fail
              go_ret
              rw [HE.out]
              exact ⟨rfl, HB.out⟩
          · have HE := HN (0 ≤ h) (fun h => h.2.2.2.2.1) h5
            clear HN
            go_enter Try.func15, Try.ntmps15
            go_wp2_with fail
            go_ret
            rw [HE.out]
            exact ⟨rfl, HB.out⟩
        · have HE := HN (s ≤ 16) (fun h => h.2.2.2.1) h4
          clear HN
          go_enter Try.func15, Try.ntmps15
          go_wp2_with fail
          go_ret
          rw [HE.out]
          exact ⟨rfl, HB.out⟩
      · have HE := HN (0 ≤ s) (fun h => h.2.2.1) h3
        clear HN
        go_enter Try.func15, Try.ntmps15
        go_wp2_with fail
        go_ret
        rw [HE.out]
        exact ⟨rfl, HB.out⟩
    · have HE := HN (n ≤ 64) (fun h => h.2.1) h2
      clear HN
      go_enter Try.func15, Try.ntmps15
      go_wp2_with fail
      go_ret
      rw [HE.out]
      exact ⟨rfl, HB.out⟩
  · have HE := HN (1 ≤ n) (fun h => h.1) h1
    clear HN
    go_enter Try.func15, Try.ntmps15
    go_wp2_with fail
    go_ret
    rw [HE.out]
    exact ⟨rfl, HB.out⟩
/-- The config's own copy in a call, behind another call. -/
theorem boxed {w w' : World} {x0 x1 x2 x3 : Value} {t : TypeId} (hb : Below (w.alloc (.cells #[x0, x1, x2, x3] t (0, 0))).heap.size (w.alloc (.cells #[x0, x1, x2, x3] t (0, 0))) w') :
    Below w.heap.size w w' ∧ w'.cell? ⟨w.heap.size, 0, none⟩ = some x0 ∧ w'.cell? ⟨w.heap.size, 1, none⟩ = some x1 ∧ w'.cell? ⟨w.heap.size, 2, none⟩ = some x2 ∧ w'.cell? ⟨w.heap.size, 3, none⟩ = some x3 := by
  have hs : w.heap.size < (w.alloc (.cells #[x0, x1, x2, x3] t (0, 0))).heap.size := by simp
  have hc : ∀ j, w'.cell? ⟨w.heap.size, j, none⟩ = (#[x0, x1, x2, x3])[j]? := fun j => (hb.cell (p := ⟨w.heap.size, j, none⟩) hs).trans (cell_of_row _ _ j _ _ _ (heap_alloc_new w _))
  exact ⟨below_trans ((Below.refl _ _).alloc (Nat.le_refl _) _) hb, hc 0, hc 1, hc 2, hc 3⟩
theorem rnext_any (c : Cf) (i : Int) (h0 : 0 ≤ i) (h1 : i ≤ 4294967295) (w : World) : Calls Try.prog 17 #[.agg #[.int .i64 c.nodes, .int .i64 c.slots, .int .i64 c.holders, .int .u32 c.tag], .int .u32 i] w fun e w' => e = .returned (.int .i64 (nextP c i)) ∧ Below w.heap.size w w' := by
  have HC := fun w => rcheck_any c w
  have hcase := checkE_is c
  obtain ⟨n, s, h, t⟩ := c
  dsimp only at HC ⊢
  rcases hcase with ⟨hok, hE⟩ | ⟨hok, hE⟩
  · obtain ⟨n1, n2, _⟩ := id hok
    dsimp only at n1 n2
    have hw : IntKind.u32.wrap n = n := by rw [IntKind.wrap_u32]; omega
    have hw2 : IntKind.i64.wrap i = i := IntWalk.i64_in _ (by omega)
    by_cases hi : 1 ≤ i
    · by_cases hi2 : i ≤ n
      · have hlt : ¬ i < 1 := by omega
        have hgt : ¬ n < i := by omega
        have hw3 : IntKind.i64.wrap (i - 1) = i - 1 := IntWalk.i64_in _ (by omega)
        have hw4 : IntKind.i64.wrap (2 * (i - 1)) = 2 * (i - 1) := IntWalk.i64_in _ (by omega)
        have hw5 : IntKind.i64.wrap (2 + 2 * (i - 1)) = 2 * i := by rw [IntWalk.i64_in _ (by omega)]; omega
        have HP : Hid (nextP ⟨n, s, h, t⟩ i = 2 * i) := by simp [Hid, nextP, hok, hi, hi2]
        clear hi hi2 hok
        go_enter Try.func17, Try.ntmps17
        go_wp2_with fail
        refine (HC _).mono ?_
        rintro e w1 ⟨rfl, hb⟩
        rw [hE]
        obtain ⟨hb1, c0, _⟩ := boxed hb
        have HB := Lib.hid hb1
        clear hb hb1
        go_wp2_with fail
        go_ret
        rw [HP.out]
        exact ⟨rfl, HB.out⟩
      · have hlt : ¬ i < 1 := by omega
        have hgt : n < i := by omega
        have HP : Hid (nextP ⟨n, s, h, t⟩ i = -1) := by simp [Hid, nextP, hi2]
        clear hi hi2 hok
        go_enter Try.func17, Try.ntmps17
        go_wp2_with fail
        refine (HC _).mono ?_
        rintro e w1 ⟨rfl, hb⟩
        rw [hE]
        obtain ⟨hb1, c0, _⟩ := boxed hb
        have HB := Lib.hid hb1
        clear hb hb1
        go_wp2_with fail
        go_ret
        rw [HP.out]
        exact ⟨rfl, HB.out⟩
    · have hlt : i < 1 := by omega
      have HP : Hid (nextP ⟨n, s, h, t⟩ i = -1) := by simp [Hid, nextP, hi]
      clear hi hok
      go_enter Try.func17, Try.ntmps17
      go_wp2_with fail
      refine (HC _).mono ?_
      rintro e w1 ⟨rfl, hb⟩
      rw [hE]
      obtain ⟨hb1, c0, _⟩ := boxed hb
      have HB := Lib.hid hb1
      clear hb hb1
      go_wp2_with fail
      go_ret
      rw [HP.out]
      exact ⟨rfl, HB.out⟩
  · have HP : Hid (nextP ⟨n, s, h, t⟩ i = -1) := by simp [Hid, nextP, hok]
    clear hok
    go_enter Try.func17, Try.ntmps17
    go_wp2_with fail
    refine (HC _).mono ?_
    rintro e w1 ⟨rfl, hb⟩
    rw [hE]
    obtain ⟨hb1, c0, _⟩ := boxed hb
    have HB := Lib.hid hb1
    clear hb hb1
    go_wp2_with fail
    go_ret
    rw [HP.out]
    exact ⟨rfl, HB.out⟩
theorem nextP_is (c : Cf) (i : Int) : (nextP c i = -1 ∧ valueP c i = -1) ∨ (0 ≤ nextP c i ∧ nextP c i ≤ 128 ∧ valueP c i = nextP c i + 1) := by
  unfold nextP valueP
  by_cases h : Ok c ∧ 1 ≤ i ∧ i ≤ c.nodes
  · obtain ⟨h1, h2, h3⟩ := id h
    unfold Ok at h1
    rw [if_pos h, if_pos h]
    omega
  · rw [if_neg h, if_neg h]
    exact .inl ⟨rfl, rfl⟩
theorem rvalue_any (c : Cf) (i : Int) (h0 : 0 ≤ i) (h1 : i ≤ 4294967295) (w : World) : Calls Try.prog 19 #[.agg #[.int .i64 c.nodes, .int .i64 c.slots, .int .i64 c.holders, .int .u32 c.tag], .int .u32 i] w fun e w' => e = .returned (.int .i64 (valueP c i)) ∧ Below w.heap.size w w' := by
  have HC := fun w => rnext_any c i h0 h1 w
  have hcase := nextP_is c i
  obtain ⟨n, s, h, t⟩ := c
  dsimp only at HC ⊢
  rcases hcase with ⟨hn, hv⟩ | ⟨hn0, hn1, hv⟩
  · have HV := Lib.hid hv
    clear hv
    go_enter Try.func19, Try.ntmps19
    go_wp2_with fail
    refine (HC _).mono ?_
    rintro e w1 ⟨rfl, hb⟩
    rw [hn]
    have HB := Lib.hid (boxed hb).1
    clear hb
    go_wp2_with fail
    go_ret
    rw [HV.out]
    exact ⟨rfl, HB.out⟩
  · obtain ⟨p, hp⟩ : ∃ p, nextP ⟨n, s, h, t⟩ i = p := ⟨_, rfl⟩
    have HV := Lib.hid hv
    rw [hp] at hn0 hn1 HV
    have HP := Lib.hid hp
    have hlt : ¬ p < 0 := by omega
    have hw : IntKind.i64.wrap (p + 1) = p + 1 := IntWalk.i64_in _ (by omega)
    clear hv hp
    go_enter Try.func19, Try.ntmps19
    go_wp2_with fail
    refine (HC _).mono ?_
    rintro e w1 ⟨rfl, hb⟩
    rw [HP.out]
    have HB := Lib.hid (boxed hb).1
    clear hb
    go_wp2_with fail
    go_ret
    rw [HV.out]
    exact ⟨rfl, HB.out⟩
end Go.Proofs.Ytcacahokdnpboaa.ly
