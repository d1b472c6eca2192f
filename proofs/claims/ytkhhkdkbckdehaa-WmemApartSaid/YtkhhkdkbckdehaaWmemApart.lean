/- WmemApart: a place that is written changes no other one; a place that is none is refused, and nothing is noted: no condition. -/
import Derived.Test.YtkhhkdkbckdehaaLawKit
namespace Go.Proofs.Ytkhhkdkbckdehaa.wmemApart
open Go.ChangeShapes Go.WideShapes Go.ChangeAt Go.RowKit frame lift sep wm
set_option linter.unusedVariables false
set_option maxRecDepth 100000 in
set_option maxHeartbeats 2000000 in
theorem walk (v0 : Value) (l : List Int) (a1 a2 a3 : Int) (f1 : (Lit.int .i64 a1).wf = true) (f2 : (Lit.int .i64 a2).wf = true) (f3 : (Lit.int .u64 a3).wf = true) (w : World) (f0 : Ints w .u64 v0 l) (z0 : Fit .u64 l) :
    Calls Try.prog 6 #[v0, .int .i64 a1, .int .i64 a2, .int .u64 a3] w fun e w' => e = .returned (.bool true) ∧ Below w.heap.size w w' := by
  obtain ⟨h1, h1'⟩ := bd_i64 f1
  obtain ⟨h2, h2'⟩ := bd_i64 f2
  clear f1 f2 f3 z0
  have HS := Lib.hid f0
  by_cases hbig : 1024 < l.length
  · obtain ⟨a, cap, rfl⟩ : ∃ a cap, v0 = .slice a l.length cap := by
      rcases f0 with ⟨rfl, a, cap, rfl⟩ | ⟨h0, b, off, cap, rfl, _⟩
      · exact ⟨_, _, rfl⟩
      · exact ⟨_, _, rfl⟩
    clear f0
    go_enter Try.func6, Try.ntmps6
    go_wp2_with fail
    refine (shown_any _).mono ?_
    rintro e w1 ⟨rfl, hb⟩
    go_wp2_with fail
    refine (new_big (HS.out.below hb) hbig).mono ?_
    rintro e w2 ⟨rfl, rfl⟩
    go_wp2_with fail
    go_ret
    exact ⟨rfl, hb⟩
  by_cases h200 : 200 < l.length
  · obtain ⟨a, cap, rfl⟩ : ∃ a cap, v0 = .slice a l.length cap := by
      rcases f0 with ⟨rfl, a, cap, rfl⟩ | ⟨h0, b, off, cap, rfl, _⟩
      · exact ⟨_, _, rfl⟩
      · exact ⟨_, _, rfl⟩
    clear f0
    go_enter Try.func6, Try.ntmps6
    go_wp2_with fail
    refine (shown_any _).mono ?_
    rintro e w1 ⟨rfl, hb⟩
    go_wp2_with fail
    refine (new_in (Here.of_below hb) (HS.out.below hb) (by omega)).mono ?_
    rintro e w2 ⟨b, rfl, hh⟩
    go_wp2_with fail
    go_ret
    exact ⟨rfl, hh.below⟩
  rcases f0 with ⟨rfl, a, cap, rfl⟩ | ⟨h0, b, off, cap, rfl, hcap, hmax, hbl, hc⟩
  · go_enter Try.func6, Try.ntmps6
    go_wp2_with fail
    refine (shown_any _).mono ?_
    rintro e w1 ⟨rfl, hb⟩
    go_wp2_with fail
    refine (new_in (Here.of_below hb) (HS.out.below hb) (by simp)).mono ?_
    rintro e w2 ⟨b, rfl, hh⟩
    go_wp2_with fail
    go_ret
    exact ⟨rfl, hh.below⟩
  have hn : l.length ≤ 200 := by omega
  clear h200 hbig
  unfold maxLen at hmax
  have HC := Lib.hid hc; clear hc
  have hne : ((l.length : Int) == 0) = false := by rw [beq_eq_false_iff_ne]; omega
  obtain ⟨k, hk⟩ : ∃ k : Nat, pickI a1 l.length = k := ⟨(pickI a1 l.length).toNat, by have := pickI_bd a1 l.length (by omega); omega⟩
  have hkl : k < l.length := by have := pickI_bd a1 l.length (by omega); omega
  have HK := Lib.hid hk; clear hk
  go_enter Try.func6, Try.ntmps6
  go_wp2_with fail
  refine (shown_any _).mono ?_
  rintro e w1 ⟨rfl, hb⟩
  go_wp2_with fail
  refine (new_in (Here.of_below hb) (HS.out.below hb) (by omega)).mono ?_
  rintro e w2 ⟨m, rfl, hh⟩
  have HH := Lib.hid hh; clear hh hb
  go_wp2_with fail
  refine (pick_any a1 l.length h1 h1' (by omega) (by omega) _).mono ?_
  rintro e w3 ⟨he, rfl⟩
  rw [HK.out] at he
  subst he
  go_wp2_with fail
  refine (store_in HH.out (by simp) k a3).mono ?_
  rintro e w3 ⟨he, h3⟩
  rw [acE_of hkl] at he
  rw [stS_of hkl] at h3
  subst he
  obtain ⟨l2, hl2⟩ : ∃ l2, l2 = l.set k a3 := ⟨_, rfl⟩
  have hlen : l2.length = l.length := by rw [hl2, List.length_set]
  rw [← hl2] at h3
  have HL := Lib.hid hlen; have HL2 := Lib.hid hl2
  clear hlen hl2
  have H3 := Lib.hid h3; clear h3
  go_wp2_with fail
  refine (words_in H3.out (List.mem_cons_self ..) (by show l2.length ≤ 1000000; rw [HL.out]; omega)).mono ?_
  rintro e w4 ⟨v4, rfl, h4⟩
  have hi4 := ints_here h4 (List.mem_cons_self ..)
  have H4 := Lib.hid h4.swap
  clear h4
  rcases hi4 with ⟨e, _⟩ | ⟨h04, g, og, cap4, rfl, hcap4, hmax4, hbl4, hc4⟩
  · have e : l2 = [] := e
    have := HL.out
    rw [e] at this
    simp at this
    omega
  have hl4 : (St.ws ⟨l2, [] ++ [Acc.st (↑k) (nth l k) a3]⟩).length = l.length := HL.out
  rw [hl4] at hcap4 h04 hc4 H4 ⊢
  clear hl4
  have hbl4' : b < w4.heap.size := Nat.lt_of_lt_of_le hbl H4.out.below.size
  have HC4 := Lib.hid hc4; clear hc4
  unfold maxLen at hmax4
  go_wp2_with fail
  go_loopw [14] (fun i wr => ∃ k : Nat, k ≤ l.length ∧ i = .int .i64 k ∧ Below w4.heap.size w4 wr) (fun i _ => l.length - (intOf i).toNat)
  case atStart => exact ⟨0, Nat.zero_le _, rfl, Below.refl _ _⟩
  case round =>
    obtain ⟨j, hj, rfl, hbr⟩ := hrel
    by_cases hlt : j < l.length
    · have hx := (hbr.cell (p := ⟨b, off + j, none⟩) hbl4').trans ((H4.out.below.cell (p := ⟨b, off + j, none⟩) hbl).trans (HC.out j hlt))
      have hy := (hbr.cell (p := ⟨g, og + j, none⟩) hbl4).trans (HC4.out j hlt)
      have hi1 : (0 : Int) ≤ (j : Int) := by omega
      have hi2 : (j : Int) < (l.length : Int) := by omega
      by_cases hjk : j = k
      · subst hjk
        rw [show nth (St.ws ⟨l2, [] ++ [Acc.st (↑j) (nth l j) a3]⟩) j = a3 from by show nth l2 j = a3; rw [HL2.out]; exact nth_set hkl a3] at hy
        go_wp2_with fail
        go_quiet (fail)
        go_wp2_with fail
        go_roundw
        case rel => exact ⟨j + 1, by omega, by go_num, hbr.trans ⟨rfl, rfl, rfl, Nat.le_refl _, fun _ _ => rfl⟩⟩
        case measure => simp [intOf]; omega
      · rw [show nth (St.ws ⟨l2, [] ++ [Acc.st (↑k) (nth l k) a3]⟩) j = nth l j from by show nth l2 j = nth l j; rw [HL2.out]; exact nth_ne j (fun e => hjk e.symm) a3] at hy
        have q1 : ((j : Int) == (k : Int)) = false := by rw [beq_eq_false_iff_ne]; omega
        have q2 : ((j : Int) != (k : Int)) = true := by rw [bne_iff_ne]; omega
        have q3 : (j == k) = false := by rw [beq_eq_false_iff_ne]; exact hjk
        have q4 : (j != k) = true := by rw [bne_iff_ne]; exact hjk
        go_wp2_with fail
        go_quiet (fail)
        go_wp2_with fail
        go_roundw
        case rel => exact ⟨j + 1, by omega, by go_num, hbr.trans ⟨rfl, rfl, rfl, Nat.le_refl _, fun _ _ => rfl⟩⟩
        case measure => simp [intOf]; omega
    · obtain rfl : j = l.length := by omega
      have H5 := Lib.hid (H4.out.on hbr)
      by_cases hr : 0 ≤ a2 ∧ a2 < l.length
      · obtain ⟨hr1, hr2⟩ := hr
        go_wp2_with fail
        go_ret
        exact ⟨rfl, H5.out.below⟩
      · have ho : a2 < 0 ∨ (l2.length : Int) ≤ a2 := by rw [HL.out]; omega
        have HO := Lib.hid ho; clear ho
        have hr3 : a2 < 0 ∨ (0 ≤ a2 ∧ l.length ≤ a2) := by omega
        clear hr
        rcases hr3 with hr3 | ⟨hr3, hr4⟩
        all_goals
          go_wp2_with fail
          refine (load_in H5.out (by simp) a2).mono ?_
          rintro e w6 ⟨he, h6⟩
          rw [(out_ld HO.out).1, (out_ld HO.out).2.1] at he
          rw [(out_ld HO.out).2.2] at h6
          subst he
          have H6 := Lib.hid h6; clear h6
          go_wp2_with fail
          refine (swap_in H6.out (by simp) a2 0 1).mono ?_
          rintro e w7 ⟨he, h7⟩
          rw [(out_sw HO.out 0 1).1, (out_sw HO.out 0 1).2.1] at he
          rw [(out_sw HO.out 0 1).2.2] at h7
          subst he
          have H7 := Lib.hid h7; clear h7
          go_wp2_with fail
          refine (store_in H7.out (by simp) a2 1).mono ?_
          rintro e w8 ⟨he, h8⟩
          rw [(out_st HO.out 1).1] at he
          rw [(out_st HO.out 1).2] at h8
          subst he
          have H8 := Lib.hid h8; clear h8
          go_wp2_with fail
          refine (count_any H8.out (List.mem_cons_self ..)).mono ?_
          rintro e w9 ⟨rfl, rfl⟩
          go_wp2_with fail
          refine (words_in H8.out (List.mem_cons_self ..) (by show l2.length ≤ 1000000; rw [HL.out]; omega)).mono ?_
          rintro e w10 ⟨v10, rfl, h10⟩
          have HI10 := Lib.hid (ints_here h10 (List.mem_cons_self ..))
          have HI4 := Lib.hid (ints_here (v := .slice (some ⟨g, og, none⟩) l.length cap4) (l := St.ws ⟨l2, [] ++ [Acc.st (↑k) (nth l k) a3]⟩) h10 (by simp))
          have H10 := Lib.hid h10
          clear h10
          go_wp2_with fail
          refine (same_words HI10.out HI4.out (by show l2.length ≤ 1000000; rw [HL.out]; omega)).mono ?_
          rintro e w11 ⟨rfl, hb11⟩
          have H11 := Lib.hid (H10.out.on hb11)
          clear hb11
          go_wp2_with fail
          go_ret
          exact ⟨rfl, H11.out.below⟩
theorem own : ownKnob Try.prog.godebug = none := by kernel_rfl
theorem laidOut : laidOutB Try.prog = true := by kernel_rfl
theorem cells_uint64 : Try.prog.cellsOf 33 = 1 := by kernel_rfl
set_option maxRecDepth 100000 in
theorem lifted (os : Os) (started : os.Started) (H : Type) (enc : TypeId × Value → H) :
    ReturnsInHanded {} Try.checked os 6 .any (Rows.wmemApartSpec.pre6 enc Try.prog Try.f6 Rows.wmemApartRow.domain false) (Rows.wmemApartSpec.post enc Try.prog Try.f6 false true false false) := by
  refine returnsInHanded_of_change (C := Try.checked) own started (by kernel_rfl) Try.func6
    (ChangeSpec.witness6 (enc := enc) (C := Try.checked) false ⟨#[], #[.slice none 0 0, .int .i64 0, .int .i64 0, .int .u64 0], []⟩ 8 (by kernel_rfl) (by kernel_rfl) (by kernel_rfl) (by kernel_rfl)) ?_
  intro W base args ds gs before hval0 hW hcnd _
  have hval : ∀ (j : Nat) t v, Try.f6.params[j]? = some t → args[j]? = some v → Value.okWide Try.prog W .any base t v := hval0
  have hW' := hW
  obtain ⟨p, q, hA0, hV, rfl, hfz, hnd⟩ := hW
  have hA : DataW.TrodAll enc Try.prog W 0 (fun _ => true) true Try.f6.params.toList args.toList ds p := hA0
  rw [Try.params6] at hA hval
  obtain ⟨v0, vs0, d0, ds0, p0, q0, hargs, rfl, rfl, h0, r0⟩ := trodAll_cons hA
  obtain ⟨v1, vs1, d1, ds1, p1, q1, rfl, rfl, rfl, h1, r1⟩ := trodAll_cons r0
  obtain ⟨v2, vs2, d2, ds2, p2, q2, rfl, rfl, rfl, h2, r2⟩ := trodAll_cons r1
  obtain ⟨v3, vs3, d3, ds3, p3, q3, rfl, rfl, rfl, h3, r3⟩ := trodAll_cons r2
  obtain ⟨rfl, rfl, rfl⟩ := trodAll_nil r3
  obtain rfl : args = #[v0, v1, v2, v3] := by cases args; simp_all
  obtain ⟨rfl, rfl⟩ := trodVars_none hV
  obtain ⟨a0, w0, z0⟩ := lift.open_row Try.underlying22 Try.underlying33 cells_uint64 (okWide_slice Try.underlying22 (hval 0 22 v0 rfl rfl)) h0
  obtain ⟨a1, rfl, rfl, rfl, w1⟩ := open_int Try.underlying3 (hval 1 3 v1 rfl rfl) h1
  obtain ⟨a2, rfl, rfl, rfl, w2⟩ := open_int Try.underlying3 (hval 2 3 v2 rfl rfl) h2
  obtain ⟨a3, rfl, rfl, rfl, w3⟩ := open_int Try.underlying33 (hval 3 33 v3 rfl rfl) h3
  clear hA0 hval0
  refine (walk v0 a0 a1 a2 a3 w1 w2 w3 W w0 z0).mono fun e W' ⟨he, hb⟩ => ?_
  subst he
  exact ⟨_, rfl, lift.post_law (tb := 4) laidOut (by rw [Try.params6]; exact fun t ht => (of_decide_eq_true (by kernel_rfl) : ∀ t ∈ [22, 3, 3, 33], Try.prog.readableRec t = true ∧ t < Try.prog.types.size) t ht) (by kernel_rfl) Try.underlying4 rfl hW' rfl hb⟩
theorem over : Rows.wmemApartRow.holds Try.pinned (OpenSpec.ofChange Rows.wmemApartSpec) :=
  OpenClaim.holds_of_wide 6 Try.f6 rfl rfl rfl rfl rfl rfl rfl ⟨rfl, rfl, rfl, rfl, rfl⟩ rfl rfl rfl rfl rfl (by kernel_rfl) Try.func6 (by kernel_rfl)
    (of_decide_eq_true (by kernel_rfl)) (by unfold Func.isWrapper; first | (rw [if_pos (by decide +kernel)]; kernel_rfl) | (rw [if_neg (by decide +kernel)]; exact ⟨rfl, rfl⟩))
    (fun os started H enc _ => lifted os started H enc)
theorem proved : Rows.WmemApartSaid :=
  over
end Go.Proofs.Ytkhhkdkbckdehaa.wmemApart
