/- Package hatstandref6, on: slots, holders, words, the fresh words; over this seat's program. -/
import Derived.Test.YtcacahokdnpboaaLayR
namespace Go.Proofs.Ytcacahokdnpboaa.ly
open Go.ChangeShapes Go.WideShapes Go.ChangeAt Go.RowKit frame lift sep own join
set_option linter.unusedVariables false
theorem rslot_any (c : Cf) (k : Int) (w : World) : Calls Try.prog 21 #[.agg #[.int .i64 c.nodes, .int .i64 c.slots, .int .i64 c.holders, .int .u32 c.tag], .int .i64 k] w fun e w' => e = .returned (.int .i64 (slotP c k)) ∧ Below w.heap.size w w' := by
  have HC := fun w => rcheck_any c w
  have hcase := checkE_is c
  obtain ⟨n, s, h, t⟩ := c
  dsimp only at HC ⊢
  rcases hcase with ⟨hok, hE⟩ | ⟨hok, hE⟩
  · obtain ⟨n1, n2, n3, n4, n5, n6⟩ := id hok
    dsimp only at n1 n2 n3 n4 n5 n6
    by_cases hi : 0 ≤ k
    · by_cases hi2 : k < s
      · have hlt : ¬ k < 0 := by omega
        have hgt : ¬ s ≤ k := by omega
        have hw1 : IntKind.i64.wrap (2 * n) = 2 * n := IntWalk.i64_in _ (by omega)
        have hw2 : IntKind.i64.wrap (2 + 2 * n) = 2 + 2 * n := IntWalk.i64_in _ (by omega)
        have hw3 : IntKind.i64.wrap (2 + 2 * n + k) = 2 + 2 * n + k := IntWalk.i64_in _ (by omega)
        have HP : Hid (slotP ⟨n, s, h, t⟩ k = 2 + 2 * n + k) := by simp [Hid, slotP, hok, hi, hi2]
        clear hi hi2 hok
        go_enter Try.func21, Try.ntmps21
        go_wp2_with fail
        refine (HC _).mono ?_
        rintro e w1 ⟨rfl, hb⟩
        rw [hE]
        obtain ⟨hb1, c0, c1, c2, c3⟩ := boxed hb
        have HB := Lib.hid hb1
        clear hb hb1
        go_wp2_with fail
        go_ret
        rw [HP.out]
        exact ⟨rfl, HB.out⟩
      · have hlt : ¬ k < 0 := by omega
        have hgt : s ≤ k := by omega
        have HP : Hid (slotP ⟨n, s, h, t⟩ k = -1) := by simp [Hid, slotP, hi2]
        clear hi hi2 hok
        go_enter Try.func21, Try.ntmps21
        go_wp2_with fail
        refine (HC _).mono ?_
        rintro e w1 ⟨rfl, hb⟩
        rw [hE]
        obtain ⟨hb1, c0, c1, c2, c3⟩ := boxed hb
        have HB := Lib.hid hb1
        clear hb hb1
        go_wp2_with fail
        go_ret
        rw [HP.out]
        exact ⟨rfl, HB.out⟩
    · have hlt : k < 0 := by omega
      have HP : Hid (slotP ⟨n, s, h, t⟩ k = -1) := by simp [Hid, slotP, hi]
      clear hi hok
      go_enter Try.func21, Try.ntmps21
      go_wp2_with fail
      refine (HC _).mono ?_
      rintro e w1 ⟨rfl, hb⟩
      rw [hE]
      obtain ⟨hb1, c0, c1, c2, c3⟩ := boxed hb
      have HB := Lib.hid hb1
      clear hb hb1
      go_wp2_with fail
      go_ret
      rw [HP.out]
      exact ⟨rfl, HB.out⟩
  · have HP : Hid (slotP ⟨n, s, h, t⟩ k = -1) := by simp [Hid, slotP, hok]
    clear hok
    go_enter Try.func21, Try.ntmps21
    go_wp2_with fail
    refine (HC _).mono ?_
    rintro e w1 ⟨rfl, hb⟩
    rw [hE]
    obtain ⟨hb1, c0, c1, c2, c3⟩ := boxed hb
    have HB := Lib.hid hb1
    clear hb hb1
    go_wp2_with fail
    go_ret
    rw [HP.out]
    exact ⟨rfl, HB.out⟩
theorem rholder_any (c : Cf) (k : Int) (w : World) : Calls Try.prog 23 #[.agg #[.int .i64 c.nodes, .int .i64 c.slots, .int .i64 c.holders, .int .u32 c.tag], .int .i64 k] w fun e w' => e = .returned (.int .i64 (holderP c k)) ∧ Below w.heap.size w w' := by
  have HC := fun w => rcheck_any c w
  have hcase := checkE_is c
  obtain ⟨n, s, h, t⟩ := c
  dsimp only at HC ⊢
  rcases hcase with ⟨hok, hE⟩ | ⟨hok, hE⟩
  · obtain ⟨n1, n2, n3, n4, n5, n6⟩ := id hok
    dsimp only at n1 n2 n3 n4 n5 n6
    by_cases hi : 0 ≤ k
    · by_cases hi2 : k < h
      · have hlt : ¬ k < 0 := by omega
        have hgt : ¬ h ≤ k := by omega
        have hw1 : IntKind.i64.wrap (2 * n) = 2 * n := IntWalk.i64_in _ (by omega)
        have hw2 : IntKind.i64.wrap (2 + 2 * n) = 2 + 2 * n := IntWalk.i64_in _ (by omega)
        have hw3 : IntKind.i64.wrap (2 + 2 * n + s) = 2 + 2 * n + s := IntWalk.i64_in _ (by omega)
        have hw4 : IntKind.i64.wrap (2 + 2 * n + s + k) = 2 + 2 * n + s + k := IntWalk.i64_in _ (by omega)
        have HP : Hid (holderP ⟨n, s, h, t⟩ k = 2 + 2 * n + s + k) := by simp [Hid, holderP, hok, hi, hi2]
        clear hi hi2 hok
        go_enter Try.func23, Try.ntmps23
        go_wp2_with fail
        refine (HC _).mono ?_
        rintro e w1 ⟨rfl, hb⟩
        rw [hE]
        obtain ⟨hb1, c0, c1, c2, c3⟩ := boxed hb
        have HB := Lib.hid hb1
        clear hb hb1
        go_wp2_with fail
        go_ret
        rw [HP.out]
        exact ⟨rfl, HB.out⟩
      · have hlt : ¬ k < 0 := by omega
        have hgt : h ≤ k := by omega
        have HP : Hid (holderP ⟨n, s, h, t⟩ k = -1) := by simp [Hid, holderP, hi2]
        clear hi hi2 hok
        go_enter Try.func23, Try.ntmps23
        go_wp2_with fail
        refine (HC _).mono ?_
        rintro e w1 ⟨rfl, hb⟩
        rw [hE]
        obtain ⟨hb1, c0, c1, c2, c3⟩ := boxed hb
        have HB := Lib.hid hb1
        clear hb hb1
        go_wp2_with fail
        go_ret
        rw [HP.out]
        exact ⟨rfl, HB.out⟩
    · have hlt : k < 0 := by omega
      have HP : Hid (holderP ⟨n, s, h, t⟩ k = -1) := by simp [Hid, holderP, hi]
      clear hi hok
      go_enter Try.func23, Try.ntmps23
      go_wp2_with fail
      refine (HC _).mono ?_
      rintro e w1 ⟨rfl, hb⟩
      rw [hE]
      obtain ⟨hb1, c0, c1, c2, c3⟩ := boxed hb
      have HB := Lib.hid hb1
      clear hb hb1
      go_wp2_with fail
      go_ret
      rw [HP.out]
      exact ⟨rfl, HB.out⟩
  · have HP : Hid (holderP ⟨n, s, h, t⟩ k = -1) := by simp [Hid, holderP, hok]
    clear hok
    go_enter Try.func23, Try.ntmps23
    go_wp2_with fail
    refine (HC _).mono ?_
    rintro e w1 ⟨rfl, hb⟩
    rw [hE]
    obtain ⟨hb1, c0, c1, c2, c3⟩ := boxed hb
    have HB := Lib.hid hb1
    clear hb hb1
    go_wp2_with fail
    go_ret
    rw [HP.out]
    exact ⟨rfl, HB.out⟩
theorem rcells_any (c : Cf) (w : World) : Calls Try.prog 25 #[.agg #[.int .i64 c.nodes, .int .i64 c.slots, .int .i64 c.holders, .int .u32 c.tag]] w fun e w' => e = .returned (.int .i64 (cellsN c)) ∧ Below w.heap.size w w' := by
  have HC := fun w => rcheck_any c w
  have hcase := checkE_is c
  obtain ⟨n, s, h, t⟩ := c
  dsimp only at HC ⊢
  rcases hcase with ⟨hok, hE⟩ | ⟨hok, hE⟩
  · obtain ⟨n1, n2, n3, n4, n5, n6⟩ := id hok
    dsimp only at n1 n2 n3 n4 n5 n6
    have hw1 : IntKind.i64.wrap (2 * n) = 2 * n := IntWalk.i64_in _ (by omega)
    have hw2 : IntKind.i64.wrap (2 + 2 * n) = 2 + 2 * n := IntWalk.i64_in _ (by omega)
    have hw3 : IntKind.i64.wrap (2 + 2 * n + s) = 2 + 2 * n + s := IntWalk.i64_in _ (by omega)
    have hw4 : IntKind.i64.wrap (2 + 2 * n + s + h) = 2 + 2 * n + s + h := IntWalk.i64_in _ (by omega)
    have HP : Hid (cellsN ⟨n, s, h, t⟩ = 2 + 2 * n + s + h) := by simp [Hid, cellsN, hok]
    clear hok
    go_enter Try.func25, Try.ntmps25
    go_wp2_with fail
    refine (HC _).mono ?_
    rintro e w1 ⟨rfl, hb⟩
    rw [hE]
    obtain ⟨hb1, c0, c1, c2, c3⟩ := boxed hb
    have HB := Lib.hid hb1
    clear hb hb1
    go_wp2_with fail
    go_ret
    rw [HP.out]
    exact ⟨rfl, HB.out⟩
  · have HP : Hid (cellsN ⟨n, s, h, t⟩ = 0) := by simp [Hid, cellsN, hok]
    clear hok
    go_enter Try.func25, Try.ntmps25
    go_wp2_with fail
    refine (HC _).mono ?_
    rintro e w1 ⟨rfl, hb⟩
    rw [hE]
    obtain ⟨hb1, c0, c1, c2, c3⟩ := boxed hb
    have HB := Lib.hid hb1
    clear hb hb1
    go_wp2_with fail
    go_ret
    rw [HP.out]
    exact ⟨rfl, HB.out⟩
theorem rword_any (i t : Int) (h0 : 0 ≤ i) (h1 : i ≤ 4294967295) (t0 : 0 ≤ t) (t1 : t ≤ 4294967295) (w : World) :
    Calls Try.prog 36 #[.int .u32 i, .int .u32 t] w fun e w' => e = .returned (.int .u64 (wordP i t)) ∧ w = w' := by
  have hw1 : IntKind.u64.wrap t = t := by rw [IntKind.wrap_u64]; omega
  have hw2 : IntKind.u64.wrap i = i := by rw [IntKind.wrap_u64]; omega
  have hw3 : IntKind.u64.wrap (4294967296 * t) = 4294967296 * t := by rw [IntKind.wrap_u64]; omega
  have hw4 : IntKind.u64.wrap (4294967296 * t + i) = 4294967296 * t + i := by rw [IntKind.wrap_u64]; omega
  go_enter Try.func36, Try.ntmps36
  go_wp2_with fail
  go_ret
  exact ⟨rfl, rfl⟩
end Go.Proofs.Ytcacahokdnpboaa.ly
