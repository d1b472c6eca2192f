/- WmemSwaps: of two swaps of what is there, one behind the other, just the first one does it, unless it puts there what was there: no condition. -/
import Derived.Test.YtkhhkdkbckdehaaLawKit
namespace Go.Proofs.Ytkhhkdkbckdehaa.wmemSwaps
open Go.ChangeShapes Go.WideShapes Go.ChangeAt Go.RowKit frame lift sep wm
set_option linter.unusedVariables false

theorem walk (v0 : Value) (l : List Int) (a1 a2 a3 : Int) (f1 : (Lit.int .i64 a1).wf = true) (f2 : (Lit.int .u64 a2).wf = true) (f3 : (Lit.int .u64 a3).wf = true) (w : World) (f0 : Ints w .u64 v0 l) (z0 : Fit .u64 l) :
    Calls Try.prog 5 #[v0, .int .i64 a1, .int .u64 a2, .int .u64 a3] w fun e w' => e = .returned (.bool true) ∧ Below w.heap.size w w' := by
  obtain ⟨h1, h1'⟩ := bd_i64 f1
  clear f1 f2 f3 z0
  have HS := Lib.hid f0
  by_cases hbig : 1024 < l.length
  · obtain ⟨a, cap, rfl⟩ : ∃ a cap, v0 = .slice a l.length cap := by
      rcases f0 with ⟨rfl, a, cap, rfl⟩ | ⟨h0, b, off, cap, rfl, _⟩
      · exact ⟨_, _, rfl⟩
      · exact ⟨_, _, rfl⟩
    clear f0
    go_enter Try.func5, Try.ntmps5
    go_wp2_with fail
    refine (shown_any _).mono ?_
    rintro e w1 ⟨rfl, hb⟩
    go_wp2_with fail
    refine (new_big (HS.out.below hb) hbig).mono ?_
    rintro e w2 ⟨rfl, rfl⟩
    go_wp2_with fail
    go_ret
    exact ⟨rfl, hb⟩
  · by_cases h200 : 200 < l.length ∨ l = []
    · rcases h200 with h200 | rfl
      · obtain ⟨a, cap, rfl⟩ : ∃ a cap, v0 = .slice a l.length cap := by
          rcases f0 with ⟨rfl, a, cap, rfl⟩ | ⟨h0, b, off, cap, rfl, _⟩
          · exact ⟨_, _, rfl⟩
          · exact ⟨_, _, rfl⟩
        clear f0
        go_enter Try.func5, Try.ntmps5
        go_wp2_with fail
        refine (shown_any _).mono ?_
        rintro e w1 ⟨rfl, hb⟩
        go_wp2_with fail
        refine (new_in (Here.of_below hb) (HS.out.below hb) (by omega)).mono ?_
        rintro e w2 ⟨b, rfl, hh⟩
        go_wp2_with fail
        go_ret
        exact ⟨rfl, hh.below⟩
      · obtain ⟨a, cap, rfl⟩ : ∃ a cap, v0 = .slice a 0 cap := by
          rcases f0 with ⟨_, a, cap, rfl⟩ | ⟨h0, _⟩
          · exact ⟨_, _, rfl⟩
          · simp at h0
        clear f0
        go_enter Try.func5, Try.ntmps5
        go_wp2_with fail
        refine (shown_any _).mono ?_
        rintro e w1 ⟨rfl, hb⟩
        go_wp2_with fail
        refine (new_in (Here.of_below hb) (HS.out.below hb) (by simp)).mono ?_
        rintro e w2 ⟨b, rfl, hh⟩
        go_wp2_with fail
        go_ret
        exact ⟨rfl, hh.below⟩
    · rcases f0 with ⟨rfl, a, cap, rfl⟩ | ⟨h0, b, off, cap, rfl, hcap, hmax, hbl, hc⟩
      · exact (h200 (.inr rfl)).elim
      · have hn : l.length ≤ 200 := by omega
        clear h200 hbig
        unfold maxLen at hmax
        have HC := Lib.hid hc; clear hc
        obtain ⟨k, hk⟩ : ∃ k : Nat, pickI a1 l.length = k := ⟨(pickI a1 l.length).toNat, by have := pickI_bd a1 l.length (by omega); omega⟩
        have hkl : k < l.length := by have := pickI_bd a1 l.length (by omega); omega
        have HK := Lib.hid hk; clear hk
        have hne : ((l.length : Int) == 0) = false := by rw [beq_eq_false_iff_ne]; omega
        go_enter Try.func5, Try.ntmps5
        go_wp2_with fail
        refine (shown_any _).mono ?_
        rintro e w1 ⟨rfl, hb⟩
        go_wp2_with fail
        refine (new_in (Here.of_below hb) (HS.out.below hb) (by omega)).mono ?_
        rintro e w2 ⟨m, rfl, hh⟩
        have hcell := (hh.below.cell (p := ⟨b, off + k, none⟩) hbl).trans (HC.out k hkl)
        have HH := Lib.hid hh; clear hh
        go_wp2_with fail
        refine (pick_any a1 l.length h1 h1' (by omega) (by omega) _).mono ?_
        rintro e w3 ⟨he, rfl⟩
        rw [HK.out] at he
        subst he
        go_wp2_with fail
        refine (swap_in HH.out (by simp) k (nth l k) a2).mono ?_
        rintro e w3 ⟨he, h3⟩
        rw [swV_yes hkl _ rfl, acE_of hkl] at he
        rw [swS_yes hkl _ _ rfl] at h3
        subst he
        have H3 := Lib.hid h3; clear h3
        go_wp2_with fail
        have hkl2 : k < (l.set k a2).length := by simpa using hkl
        have e1 := nth_set hkl a2
        refine (swap_in H3.out (by simp) k (nth l k) a3).mono ?_
        rintro e w4 ⟨he, h4⟩
        rw [acE_of hkl2] at he
        by_cases hab : a2 = nth l k
        · rw [swV_yes hkl2 _ (e1.trans hab)] at he
          rw [swS_yes hkl2 _ _ (e1.trans hab)] at h4
          subst he
          have H4 := Lib.hid h4; clear h4 e1
          subst hab
          go_wp2_with fail
          refine (load_in H4.out (by simp) k).mono ?_
          rintro e w5 ⟨he, h5⟩
          have hkl3 : k < ((l.set k (nth l k)).set k a3).length := by simpa using hkl
          rw [ldV_of hkl3, acE_of hkl3, nth_set hkl2] at he
          subst he
          have H5 := Lib.hid h5; clear h5
          go_wp2_with fail
          go_ret
          exact ⟨rfl, H5.out.below⟩
        · have hab1 : nth (l.set k a2) k ≠ nth l k := by rw [e1]; exact hab
          rw [swV_no hkl2 _ hab1] at he
          rw [swS_no hkl2 _ _ hab1] at h4
          subst he
          have H4 := Lib.hid h4; clear h4
          have hab2 : (a2 == nth l k) = false := by simpa using hab
          have E1 := Lib.hid e1
          clear hab hab1 e1
          go_wp2_with fail
          refine (load_in H4.out (by simp) k).mono ?_
          rintro e w5 ⟨he, h5⟩
          rw [ldV_of hkl2, acE_of hkl2, E1.out] at he
          subst he
          have H5 := Lib.hid h5; clear h5
          go_wp2_with fail
          go_ret
          exact ⟨rfl, H5.out.below⟩
theorem own : ownKnob Try.prog.godebug = none := by kernel_rfl
theorem laidOut : laidOutB Try.prog = true := by kernel_rfl
theorem cells_uint64 : Try.prog.cellsOf 33 = 1 := by kernel_rfl
set_option maxRecDepth 100000 in
theorem lifted (os : Os) (started : os.Started) (H : Type) (enc : TypeId × Value → H) :
    ReturnsInHanded {} Try.checked os 5 .any (Rows.wmemSwapsSpec.pre6 enc Try.prog Try.f5 Rows.wmemSwapsRow.domain false) (Rows.wmemSwapsSpec.post enc Try.prog Try.f5 false true false false) := by
  refine returnsInHanded_of_change (C := Try.checked) own started (by kernel_rfl) Try.func5
    (ChangeSpec.witness6 (enc := enc) (C := Try.checked) false ⟨#[], #[.slice none 0 0, .int .i64 0, .int .u64 0, .int .u64 0], []⟩ 8 (by kernel_rfl) (by kernel_rfl) (by kernel_rfl) (by kernel_rfl)) ?_
  intro W base args ds gs before hval0 hW hcnd _
  have hval : ∀ (j : Nat) t v, Try.f5.params[j]? = some t → args[j]? = some v → Value.okWide Try.prog W .any base t v := hval0
  have hW' := hW
  obtain ⟨p, q, hA0, hV, rfl, hfz, hnd⟩ := hW
  have hA : DataW.TrodAll enc Try.prog W 0 (fun _ => true) true Try.f5.params.toList args.toList ds p := hA0
  rw [Try.params5] at hA hval
  obtain ⟨v0, vs0, d0, ds0, p0, q0, hargs, rfl, rfl, h0, r0⟩ := trodAll_cons hA
  obtain ⟨v1, vs1, d1, ds1, p1, q1, rfl, rfl, rfl, h1, r1⟩ := trodAll_cons r0
  obtain ⟨v2, vs2, d2, ds2, p2, q2, rfl, rfl, rfl, h2, r2⟩ := trodAll_cons r1
  obtain ⟨v3, vs3, d3, ds3, p3, q3, rfl, rfl, rfl, h3, r3⟩ := trodAll_cons r2
  obtain ⟨rfl, rfl, rfl⟩ := trodAll_nil r3
  obtain rfl : args = #[v0, v1, v2, v3] := by cases args; simp_all
  obtain ⟨rfl, rfl⟩ := trodVars_none hV
  obtain ⟨a0, w0, z0⟩ := lift.open_row Try.underlying22 Try.underlying33 cells_uint64 (okWide_slice Try.underlying22 (hval 0 22 v0 rfl rfl)) h0
  obtain ⟨a1, rfl, rfl, rfl, w1⟩ := open_int Try.underlying3 (hval 1 3 v1 rfl rfl) h1
  obtain ⟨a2, rfl, rfl, rfl, w2⟩ := open_int Try.underlying33 (hval 2 33 v2 rfl rfl) h2
  obtain ⟨a3, rfl, rfl, rfl, w3⟩ := open_int Try.underlying33 (hval 3 33 v3 rfl rfl) h3
  clear hA0 hval0
  refine (walk v0 a0 a1 a2 a3 w1 w2 w3 W w0 z0).mono fun e W' ⟨he, hb⟩ => ?_
  subst he
  exact ⟨_, rfl, lift.post_law (tb := 4) laidOut (by rw [Try.params5]; exact fun t ht => (of_decide_eq_true (by kernel_rfl) : ∀ t ∈ [22, 3, 33, 33], Try.prog.readableRec t = true ∧ t < Try.prog.types.size) t ht) (by kernel_rfl) Try.underlying4 rfl hW' rfl hb⟩
theorem over : Rows.wmemSwapsRow.holds Try.pinned (OpenSpec.ofChange Rows.wmemSwapsSpec) :=
  OpenClaim.holds_of_wide 5 Try.f5 rfl rfl rfl rfl rfl rfl rfl ⟨rfl, rfl, rfl, rfl, rfl⟩ rfl rfl rfl rfl rfl (by kernel_rfl) Try.func5 (by kernel_rfl)
    (of_decide_eq_true (by kernel_rfl)) (by unfold Func.isWrapper; first | (rw [if_pos (by decide +kernel)]; kernel_rfl) | (rw [if_neg (by decide +kernel)]; exact ⟨rfl, rfl⟩))
    (fun os started H enc _ => lifted os started H enc)
theorem proved : Rows.WmemSwapsSaid :=
  over
end Go.Proofs.Ytkhhkdkbckdehaa.wmemSwaps
