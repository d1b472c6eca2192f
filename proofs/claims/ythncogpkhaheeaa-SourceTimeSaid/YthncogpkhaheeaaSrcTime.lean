/- SourceTime: the time never goes back; ticks, one behind the other, are one tick of all together, as long as that is a number: no condition. -/
import Derived.Test.YthncogpkhaheeaaSrcB
namespace Go.Proofs.Ythncogpkhaheeaa.sourceTime
open Go.ChangeShapes Go.WideShapes Go.ChangeAt Go.RowKit frame lift sep src
set_option linter.unusedVariables false
theorem ok_dead {s : Int} (h : 0 ≤ s) : ScOk ⟨dead 0 s, []⟩ := by
  obtain ⟨h1, h2⟩ := dead_bd (Int.le_refl 0) h
  exact ⟨h1, h2, fun d hd => by simp at hd⟩
theorem wrap_bd (x : Int) : 0 ≤ IntKind.u64.wrap x ∧ IntKind.u64.wrap x ≤ 18446744073709551615 := by
  rw [IntKind.wrap_u64]
  omega
/-- What the law's own sum and flag are behind k ticks. -/
structure Sums (s u : Int) (ov : Bool) : Prop where
  s0 : 0 ≤ s
  u0 : 0 ≤ u
  u1 : u ≤ 18446744073709551615
  no : ov = false → u = s ∧ s ≤ 18446744073709551615
  yes : ov = true → 18446744073709551615 < s
set_option maxHeartbeats 16000000 in
theorem walk (v0 : Value) (l : List Int) (w : World) (f0 : Ints w .u64 v0 l) (z0 : Fit .u64 l) :
    Calls Try.prog 4 #[v0] w fun e w' => e = .returned (.bool true) ∧ Below w.heap.size w w' := by
  have HZ := Lib.hid z0; have HN := Lib.hid (fit_nonneg z0)
  obtain ⟨a0, c0, rfl, hf⟩ := u64_form f0
  have HF := Lib.hid hf
  clear f0 z0 hf
  by_cases hbig : 200 < l.length
  · have hbi : (200 : Int) < (l.length : Int) := by omega
    go_enter Try.func4, Try.ntmps4
    go_wp2_with fail
    refine (shown_in (Hold.empty w)).mono ?_
    rintro e w1 ⟨rfl, h1⟩
    have H1 := Lib.hid h1; clear h1
    go_wp2_with fail
    refine (new_in H1.out).mono ?_
    rintro e w2 ⟨a, rfl, h2⟩
    have H2 := Lib.hid h2; clear h2
    go_wp2_with fail
    go_ret
    exact ⟨rfl, H2.out.below⟩
  · have hbi : ¬ (200 : Int) < (l.length : Int) := by omega
    go_enter Try.func4, Try.ntmps4
    go_wp2_with fail
    refine (shown_in (Hold.empty w)).mono ?_
    rintro e w1 ⟨rfl, h1⟩
    have H1 := Lib.hid h1; clear h1
    go_wp2_with fail
    refine (new_in H1.out).mono ?_
    rintro e w2 ⟨a, rfl, h2⟩
    have H2 := Lib.hid h2; clear h2
    go_wp2_with fail
    go_loopw [5, 6, 7] (fun sm ov i wr => ∃ (k : Nat) (u : Int) (o : Bool), k ≤ l.length ∧ i = .int .i64 k ∧ sm = .int .u64 u ∧ ov = .bool o ∧ Hid (Sums (l.take k).sum u o) ∧ Hid (Hold (fun _ => False) w [src a ⟨dead 0 (l.take k).sum, []⟩] wr)) (fun _ _ i _ => l.length - (intOf i).toNat)
    case atStart => exact ⟨0, 0, false, Nat.zero_le _, rfl, rfl, rfl, ⟨by simp, by decide, by decide, fun _ => by simp, fun h => by simp at h⟩, by
      have h := H2.out
      have e2 : (l.take 0).sum = 0 := by simp
      have e3 : dead 0 0 = 0 := by decide
      unfold Hid
      rw [e2, e3]
      exact h⟩
    case round =>
      obtain ⟨k, u, o, hk, rfl, rfl, rfl, HS, HH⟩ := hrel
      by_cases hlt : k < l.length
      · obtain ⟨g, off, rfl, hg, hc⟩ := HF.out (by omega)
        have e0 := (HH.out.below.cell (p := ⟨g, off + k, none⟩) hg).trans (hc k hlt)
        have HCK := Lib.hid (hc k hlt)
        obtain ⟨n0, n1⟩ := nth_u64 HZ.out k
        have hst := sum_take hlt
        obtain ⟨s, hs⟩ : ∃ s, (l.take k).sum = s := ⟨_, rfl⟩
        obtain ⟨s2, hs2⟩ : ∃ s2, (l.take (k + 1)).sum = s2 := ⟨_, rfl⟩
        obtain ⟨x, hx⟩ : ∃ x, nth l k = x := ⟨_, rfl⟩
        have HS2 := Lib.hid hs2
        rw [hs] at HH HS hst
        rw [hs2, hx] at hst
        rw [hx] at e0 HCK n0 n1
        obtain ⟨s0, u0, u1, hno, hyes⟩ := HS.out
        have hi1 : (0 : Int) ≤ (k : Int) := by omega
        have hi2 : (k : Int) < (l.length : Int) := by omega
        have n1' := n1
        unfold top at n1'
        have t1 : tickS ⟨dead 0 s, []⟩ x = ⟨dead 0 s2, []⟩ := by
          unfold tickS
          rw [dead_add s0 n0, hst]
        have T1 := Lib.hid t1
        have K1 := Lib.hid (ok_dead s0)
        clear hc t1 hs hs2 hx HS
        have hcases : (o = true ∧ 18446744073709551615 < s) ∨ (o = false ∧ u = s ∧ s + x ≤ 18446744073709551615) ∨ (o = false ∧ u = s ∧ s ≤ 18446744073709551615 ∧ 18446744073709551615 < s + x) := by
          cases o with
          | true => exact .inl ⟨rfl, hyes rfl⟩
          | false =>
            obtain ⟨h1, h2⟩ := hno rfl
            by_cases h : s + x ≤ 18446744073709551615
            · exact .inr (.inl ⟨rfl, h1, h⟩)
            · exact .inr (.inr ⟨rfl, h1, h2, by omega⟩)
        clear hno hyes
        rcases hcases with ⟨rfl, hq⟩ | ⟨rfl, rfl, hq⟩ | ⟨rfl, rfl, hq0, hq⟩
        · have D1 : Hid (dead 0 s = 18446744073709551615) := by unfold Hid dead top; rw [if_neg (by omega)]
          have D2 : Hid (dead 0 s2 = 18446744073709551615) := by unfold Hid dead top; rw [if_neg (by omega)]
          have D3 : Hid (dead 18446744073709551615 x = 18446744073709551615) := by unfold Hid dead top; split <;> omega
          have WD : Hid ((0 : Int) ≤ 18446744073709551615 ∧ (18446744073709551615 : Int) ≤ top) := by unfold Hid top; omega
          rw [D1.out] at HH K1 T1
          go_wp2_with fail
          refine (now_in HH.out (List.mem_cons_self ..)).mono ?_
          rintro e w3 ⟨rfl, rfl⟩
          go_wp2_with fail
          refine (tick_in HH.out K1.out x n0 n1).mono ?_
          rintro e w4 ⟨rfl, h4⟩
          rw [T1.out, D2.out] at h4
          have e4 := (h4.below.cell (p := ⟨g, off + k, none⟩) hg).trans HCK.out
          have H4 := Lib.hid h4; clear h4
          go_wp2_with fail
          go_quiet (first | (go_at_call 19; refine Calls.quiet_of_same (now_q H4.out (List.mem_cons_self ..) rfl _)) | (go_at_call 21; refine Calls.quiet_of_same (dead_q _ x WD.out.1 WD.out.2 n0 n1 D3.out _ _)))
          go_wp2_with fail
          go_roundw
          case rel => exact ⟨k + 1, _, true, by omega, by go_num, rfl, rfl, by
            rw [HS2.out]
            exact ⟨by omega, (wrap_bd _).1, (wrap_bd _).2, fun h => by simp at h, fun _ => by omega⟩, by
            rw [HS2.out, D2.out]
            exact H4.out.drewN _⟩
          case measure => simp [intOf]; omega
        · have D1 : Hid (dead 0 u = u) := by unfold Hid dead top; rw [if_pos (by omega)]; omega
          have D2 : Hid (dead 0 s2 = u + x) := by unfold Hid dead top; rw [if_pos (by omega)]; omega
          have D3 : Hid (dead u x = u + x) := by unfold Hid dead top; rw [if_pos (by omega)]
          have WD : Hid ((0 : Int) ≤ u ∧ u ≤ top) := by unfold Hid top; omega
          have hnl : ¬ u + x < u := by omega
          have hnl3 : decide (u + x < u) = false := by simp; omega
          rw [D1.out] at HH K1 T1
          go_wp2_with fail
          refine (now_in HH.out (List.mem_cons_self ..)).mono ?_
          rintro e w3 ⟨rfl, rfl⟩
          go_wp2_with fail
          refine (tick_in HH.out K1.out x n0 n1).mono ?_
          rintro e w4 ⟨rfl, h4⟩
          rw [T1.out, D2.out] at h4
          have e4 := (h4.below.cell (p := ⟨g, off + k, none⟩) hg).trans HCK.out
          have H4 := Lib.hid h4; clear h4
          go_wp2_with fail
          go_quiet (first | (go_at_call 19; refine Calls.quiet_of_same (now_q H4.out (List.mem_cons_self ..) rfl _)) | (go_at_call 21; refine Calls.quiet_of_same (dead_q _ x WD.out.1 WD.out.2 n0 n1 D3.out _ _)))
          go_wp2_with fail
          go_roundw
          case rel => exact ⟨k + 1, u + x, false, by omega, by go_num, rfl, rfl, by
            rw [HS2.out]
            exact ⟨by omega, by omega, by omega, fun _ => by omega, fun h => by simp at h⟩, by
            rw [HS2.out, D2.out]
            exact H4.out.drewN _⟩
          case measure => simp [intOf]; omega
        · have D1 : Hid (dead 0 u = u) := by unfold Hid dead top; rw [if_pos (by omega)]; omega
          have D2 : Hid (dead 0 s2 = 18446744073709551615) := by unfold Hid dead top; rw [if_neg (by omega)]
          have D3 : Hid (dead u x = 18446744073709551615) := by unfold Hid dead top; rw [if_neg (by omega)]
          have WD : Hid ((0 : Int) ≤ u ∧ u ≤ top) := by unfold Hid top; omega
          have hw : IntKind.u64.wrap (u + x) = u + x - 18446744073709551616 := wrap_over u x (by omega) (by omega) (by omega) (by omega) hq
          have hnl : u + x - 18446744073709551616 < u := by omega
          have hnl2 : ¬ (18446744073709551615 : Int) < u := by omega
          rw [D1.out] at HH K1 T1
          go_wp2_with fail
          refine (now_in HH.out (List.mem_cons_self ..)).mono ?_
          rintro e w3 ⟨rfl, rfl⟩
          go_wp2_with fail
          refine (tick_in HH.out K1.out x n0 n1).mono ?_
          rintro e w4 ⟨rfl, h4⟩
          rw [T1.out, D2.out] at h4
          have e4 := (h4.below.cell (p := ⟨g, off + k, none⟩) hg).trans HCK.out
          have H4 := Lib.hid h4; clear h4
          go_wp2_with fail
          go_quiet (first | (go_at_call 19; refine Calls.quiet_of_same (now_q H4.out (List.mem_cons_self ..) rfl _)) | (go_at_call 21; refine Calls.quiet_of_same (dead_q _ x WD.out.1 WD.out.2 n0 n1 D3.out _ _)))
          go_wp2_with fail
          go_roundw
          case rel => exact ⟨k + 1, u + x - 18446744073709551616, true, by omega, by go_num, rfl, rfl, by
            rw [HS2.out]
            exact ⟨by omega, by omega, by omega, fun h => by simp at h, fun _ => by omega⟩, by
            rw [HS2.out, D2.out]
            exact H4.out.drewN _⟩
          case measure => simp [intOf]; omega
      · obtain rfl : k = l.length := by omega
        go_wp2_with fail
        go_ret
        exact ⟨rfl, HH.out.below⟩
theorem own : ownKnob Try.prog.godebug = none := by kernel_rfl
theorem laidOut : laidOutB Try.prog = true := by kernel_rfl
theorem cells_uint64 : Try.prog.cellsOf 23 = 1 := by kernel_rfl
set_option maxRecDepth 100000 in
theorem lifted (os : Os) (started : os.Started) (H : Type) (enc : TypeId × Value → H) :
    ReturnsInHanded {} Try.checked os 4 .any (Rows.sourceTimeSpec.pre6 enc Try.prog Try.f4 Rows.sourceTimeRow.domain false) (Rows.sourceTimeSpec.post enc Try.prog Try.f4 false true false false) := by
  refine returnsInHanded_of_change (C := Try.checked) own started (by kernel_rfl) Try.func4
    (ChangeSpec.witness6 (enc := enc) (C := Try.checked) false ⟨#[], #[.slice none 0 0], []⟩ 8 (by kernel_rfl) (by kernel_rfl) (by kernel_rfl) (by kernel_rfl)) ?_
  intro W base args ds gs before hval0 hW hcnd _
  have hval : ∀ (j : Nat) t v, Try.f4.params[j]? = some t → args[j]? = some v → Value.okWide Try.prog W .any base t v := hval0
  have hW' := hW
  obtain ⟨p, q, hA0, hV, rfl, hfz, hnd⟩ := hW
  have hA : DataW.TrodAll enc Try.prog W 0 (fun _ => true) true Try.f4.params.toList args.toList ds p := hA0
  rw [Try.params4] at hA hval
  obtain ⟨v0, vs0, d0, ds0, p0, q0, hargs, rfl, rfl, h0, r0⟩ := trodAll_cons hA
  obtain ⟨rfl, rfl, rfl⟩ := trodAll_nil r0
  obtain rfl : args = #[v0] := by cases args; simp_all
  obtain ⟨rfl, rfl⟩ := trodVars_none hV
  obtain ⟨a0, w0, z0⟩ := lift.open_row Try.underlying28 Try.underlying23 cells_uint64 (okWide_slice Try.underlying28 (hval 0 28 v0 rfl rfl)) h0
  clear hA0 hval0
  refine (walk v0 a0 W w0 z0).mono fun e W' ⟨he, hb⟩ => ?_
  subst he
  exact ⟨_, rfl, lift.post_law (tb := 4) laidOut (by rw [Try.params4]; exact fun t ht => (of_decide_eq_true (by kernel_rfl) : ∀ t ∈ [28], Try.prog.readableRec t = true ∧ t < Try.prog.types.size) t ht) (by kernel_rfl) Try.underlying4 rfl hW' rfl hb⟩
theorem over : Rows.sourceTimeRow.holds Try.pinned (OpenSpec.ofChange Rows.sourceTimeSpec) :=
  OpenClaim.holds_of_wide 4 Try.f4 rfl rfl rfl rfl rfl rfl rfl ⟨rfl, rfl, rfl, rfl, rfl⟩ rfl rfl rfl rfl rfl (by kernel_rfl) Try.func4 (by kernel_rfl)
    (of_decide_eq_true (by kernel_rfl)) (by unfold Func.isWrapper; first | (rw [if_pos (by decide +kernel)]; kernel_rfl) | (rw [if_neg (by decide +kernel)]; exact ⟨rfl, rfl⟩))
    (fun os started H enc _ => lifted os started H enc)
theorem proved : Rows.SourceTimeSaid :=
  over
end Go.Proofs.Ythncogpkhaheeaa.sourceTime
