/- WmemReads: loads, and swaps of what is not there, change no word, however many there are: no condition. -/
import Derived.Test.YtkhhkdkbckdehaaLawKit
namespace Go.Proofs.Ytkhhkdkbckdehaa.wmemReads
open Go.ChangeShapes Go.WideShapes Go.ChangeAt Go.RowKit frame lift sep wm
set_option linter.unusedVariables false
theorem nth_u64 {l : List Int} (h : Fit .u64 l) (k : Nat) : 0 ≤ nth l k ∧ nth l k ≤ 18446744073709551615 := by
  unfold nth
  by_cases hk : k < l.length
  · exact bd_u64 (h (l.getD k 0) (by simp [List.getD, hk]))
  · simp [List.getD, hk]
theorem nth_i64 {l : List Int} (h : Fit .i64 l) (k : Nat) : -9223372036854775808 ≤ nth l k ∧ nth l k ≤ 9223372036854775807 := by
  unfold nth
  by_cases hk : k < l.length
  · exact bd_i64 (h (l.getD k 0) (by simp [List.getD, hk]))
  · simp [List.getD, hk]
theorem wrap_ne (x : Int) (h0 : 0 ≤ x) (h1 : x ≤ 18446744073709551615) : x ≠ IntKind.u64.wrap (x + 1) := by
  rw [IntKind.wrap_u64]
  omega
def Rel (w : World) (m : Nat) (l : List Int) (j : Nat) (wr : World) : Prop := ∃ ns : List Acc, ns.length = 2 * j ∧ Here w [mem m ⟨l, ns⟩] wr
set_option maxRecDepth 100000 in
set_option maxHeartbeats 2000000 in
theorem walk (v0 : Value) (l : List Int) (v1 : Value) (la : List Int) (a2 : Int) (f2 : (Lit.int .u64 a2).wf = true) (w : World) (f0 : Ints w .u64 v0 l) (z0 : Fit .u64 l) (f1 : Ints w .i64 v1 la) (z1 : Fit .i64 la) :
    Calls Try.prog 8 #[v0, v1, .int .u64 a2] w fun e w' => e = .returned (.bool true) ∧ Below w.heap.size w w' := by
  clear f2
  have HS := Lib.hid f0
  have HZ0 := Lib.hid z0; have HZ1 := Lib.hid z1
  have HS1 := Lib.hid f1
  obtain ⟨aa, capa, rfl⟩ := ints_form f1
  clear f1 z0 z1
  by_cases hbig : 1024 < l.length
  · obtain ⟨a, cap, rfl⟩ : ∃ a cap, v0 = .slice a l.length cap := by
      rcases f0 with ⟨rfl, a, cap, rfl⟩ | ⟨h0, b, off, cap, rfl, _⟩
      · exact ⟨_, _, rfl⟩
      · exact ⟨_, _, rfl⟩
    clear f0
    go_enter Try.func8, Try.ntmps8
    go_wp2_with fail
    refine (shown_any _).mono ?_
    rintro e w1 ⟨rfl, hb⟩
    go_wp2_with fail
    refine (new_big (HS.out.below hb) hbig).mono ?_
    rintro e w2 ⟨rfl, rfl⟩
    go_wp2_with fail
    go_ret
    exact ⟨rfl, hb⟩
  by_cases h200 : 200 < l.length
  · obtain ⟨a, cap, rfl⟩ : ∃ a cap, v0 = .slice a l.length cap := by
      rcases f0 with ⟨rfl, a, cap, rfl⟩ | ⟨h0, b, off, cap, rfl, _⟩
      · exact ⟨_, _, rfl⟩
      · exact ⟨_, _, rfl⟩
    clear f0
    go_enter Try.func8, Try.ntmps8
    go_wp2_with fail
    refine (shown_any _).mono ?_
    rintro e w1 ⟨rfl, hb⟩
    go_wp2_with fail
    refine (new_in (Here.of_below hb) (HS.out.below hb) (by omega)).mono ?_
    rintro e w2 ⟨b, rfl, hh⟩
    go_wp2_with fail
    go_ret
    exact ⟨rfl, hh.below⟩
  rcases f0 with ⟨rfl, a, cap, rfl⟩ | ⟨h0, b, off, cap, rfl, hcap, hmax, hbl, hc⟩
  · go_enter Try.func8, Try.ntmps8
    go_wp2_with fail
    refine (shown_any _).mono ?_
    rintro e w1 ⟨rfl, hb⟩
    go_wp2_with fail
    refine (new_in (Here.of_below hb) (HS.out.below hb) (by simp)).mono ?_
    rintro e w2 ⟨b, rfl, hh⟩
    go_wp2_with fail
    go_ret
    exact ⟨rfl, hh.below⟩
  have hn : l.length ≤ 200 := by omega
  clear h200 hbig
  unfold maxLen at hmax
  have HC := Lib.hid hc; clear hc
  have hne : ((l.length : Int) == 0) = false := by rw [beq_eq_false_iff_ne]; omega
  by_cases hla : 100 < la.length
  · go_enter Try.func8, Try.ntmps8
    go_wp2_with fail
    refine (shown_any _).mono ?_
    rintro e w1 ⟨rfl, hb⟩
    go_wp2_with fail
    refine (new_in (Here.of_below hb) (HS.out.below hb) (by omega)).mono ?_
    rintro e w2 ⟨m, rfl, hh⟩
    go_wp2_with fail
    go_ret
    exact ⟨rfl, hh.below⟩
  go_enter Try.func8, Try.ntmps8
  go_wp2_with fail
  refine (shown_any _).mono ?_
  rintro e w1 ⟨rfl, hb⟩
  go_wp2_with fail
  refine (new_in (Here.of_below hb) (HS.out.below hb) (by omega)).mono ?_
  rintro e w2 ⟨m, rfl, hh⟩
  have HH := Lib.hid hh; clear hh hb
  go_wp2_with fail
  go_loopw [10] (fun i wr => ∃ k : Nat, k ≤ la.length ∧ i = .int .i64 k ∧ Rel w m l k wr) (fun i _ => la.length - (intOf i).toNat)
  case atStart => exact ⟨0, Nat.zero_le _, rfl, [], rfl, HH.out⟩
  case round =>
    obtain ⟨j, hj, rfl, ns, hns, hr⟩ := hrel
    have HR := Lib.hid hr; clear hr
    have HNS := Lib.hid hns; clear hns
    by_cases hlt : j < la.length
    · obtain ⟨ba, offa, rfl, hba, hca⟩ : ∃ b off, aa = some ⟨b, off, none⟩ ∧ b < w.heap.size ∧ ∀ i, i < la.length → w.cell? ⟨b, off + i, none⟩ = some (.int .i64 (nth la i)) := by
        rcases HS1.out with ⟨e, _⟩ | ⟨_, b, off, cap', hv, _, _, hb, hc⟩
        · rw [e] at hlt; simp at hlt
        · simp only [Value.slice.injEq] at hv
          exact ⟨b, off, hv.1, hb, hc⟩
      have hx := (HR.out.below.cell (p := ⟨ba, offa + j, none⟩) hba).trans (hca j hlt)
      clear hca
      obtain ⟨h1, h1'⟩ := nth_i64 HZ1.out j
      obtain ⟨k, hk⟩ : ∃ k : Nat, pickI (nth la j) l.length = k := ⟨(pickI (nth la j) l.length).toNat, by have := pickI_bd (nth la j) l.length (by omega); omega⟩
      have hkl : k < l.length := by have := pickI_bd (nth la j) l.length (by omega); omega
      have HK := Lib.hid hk; clear hk
      have hi1 : (0 : Int) ≤ (j : Int) := by omega
      have hi2 : (j : Int) < (la.length : Int) := by omega
      go_wp2_with fail
      refine (pick_any (nth la j) l.length h1 h1' (by omega) (by omega) _).mono ?_
      rintro e w3 ⟨he, rfl⟩
      rw [HK.out] at he
      subst he
      go_wp2_with fail
      refine (load_in HR.out (by show ns.length ≤ _; rw [HNS.out]; omega) k).mono ?_
      rintro e w3 ⟨he, h3⟩
      rw [ldV_of hkl, acE_of hkl] at he
      rw [ldS_of hkl] at h3
      subst he
      have H3 := Lib.hid h3; clear h3 hx
      have hy := (H3.out.below.cell (p := ⟨b, off + k, none⟩) hbl).trans (HC.out k hkl)
      have hi3 : (0 : Int) ≤ (k : Int) := by omega
      have hi4 : (k : Int) < (l.length : Int) := by omega
      go_wp2_with fail
      have hz := nth_u64 HZ0.out k
      have hw := wrap_ne (nth l k) hz.1 hz.2
      refine (swap_in H3.out (by show (ns ++ [_]).length ≤ _; rw [List.length_append, HNS.out]; simp; omega) k (IntKind.u64.wrap (nth l k + 1)) a2).mono ?_
      rintro e w4 ⟨he, h4⟩
      rw [swV_no hkl _ hw, acE_of hkl] at he
      rw [swS_no hkl _ _ hw] at h4
      subst he
      have H4 := Lib.hid h4; clear h4 hw hz hy
      have hy := (H4.out.below.cell (p := ⟨b, off + k, none⟩) hbl).trans (HC.out k hkl)
      go_wp2_with fail
      go_roundw
      case rel => exact ⟨j + 1, by omega, by go_num, _, by rw [List.length_append, List.length_append, HNS.out]; simp; omega, H4.out⟩
      case measure => simp [intOf]; omega
    · obtain rfl : j = la.length := by omega
      go_wp2_with fail
      refine (words_in HR.out (List.mem_cons_self ..) (by show l.length ≤ 1000000; omega)).mono ?_
      rintro e w5 ⟨v5, rfl, h5⟩
      have HI := Lib.hid (ints_here h5 (List.mem_cons_self ..))
      have HI0 := Lib.hid (HS.out.below h5.below)
      have H5 := Lib.hid h5; clear h5
      go_wp2_with fail
      refine (same_words HI.out HI0.out (by show l.length ≤ 1000000; omega)).mono ?_
      rintro e w6 ⟨rfl, hb6⟩
      have H6 := Lib.hid (H5.out.on hb6)
      clear hb6
      go_wp2_with fail
      refine (count_any H6.out (b := m) (S := ⟨l, ns⟩) (by simp)).mono ?_
      rintro e w7 ⟨he, rfl⟩
      rw [HNS.out] at he
      subst he
      go_wp2_with fail
      go_ret
      exact ⟨by simp, H6.out.below⟩
theorem own : ownKnob Try.prog.godebug = none := by kernel_rfl
theorem laidOut : laidOutB Try.prog = true := by kernel_rfl
theorem cells_int : Try.prog.cellsOf 3 = 1 := by kernel_rfl
theorem cells_uint64 : Try.prog.cellsOf 33 = 1 := by kernel_rfl
set_option maxRecDepth 100000 in
theorem lifted (os : Os) (started : os.Started) (H : Type) (enc : TypeId × Value → H) :
    ReturnsInHanded {} Try.checked os 8 .any (Rows.wmemReadsSpec.pre6 enc Try.prog Try.f8 Rows.wmemReadsRow.domain false) (Rows.wmemReadsSpec.post enc Try.prog Try.f8 false true false false) := by
  refine returnsInHanded_of_change (C := Try.checked) own started (by kernel_rfl) Try.func8
    (ChangeSpec.witness6 (enc := enc) (C := Try.checked) false ⟨#[], #[.slice none 0 0, .slice none 0 0, .int .u64 0], []⟩ 8 (by kernel_rfl) (by kernel_rfl) (by kernel_rfl) (by kernel_rfl)) ?_
  intro W base args ds gs before hval0 hW hcnd _
  have hval : ∀ (j : Nat) t v, Try.f8.params[j]? = some t → args[j]? = some v → Value.okWide Try.prog W .any base t v := hval0
  have hW' := hW
  obtain ⟨p, q, hA0, hV, rfl, hfz, hnd⟩ := hW
  have hA : DataW.TrodAll enc Try.prog W 0 (fun _ => true) true Try.f8.params.toList args.toList ds p := hA0
  rw [Try.params8] at hA hval
  obtain ⟨v0, vs0, d0, ds0, p0, q0, hargs, rfl, rfl, h0, r0⟩ := trodAll_cons hA
  obtain ⟨v1, vs1, d1, ds1, p1, q1, rfl, rfl, rfl, h1, r1⟩ := trodAll_cons r0
  obtain ⟨v2, vs2, d2, ds2, p2, q2, rfl, rfl, rfl, h2, r2⟩ := trodAll_cons r1
  obtain ⟨rfl, rfl, rfl⟩ := trodAll_nil r2
  obtain rfl : args = #[v0, v1, v2] := by cases args; simp_all
  obtain ⟨rfl, rfl⟩ := trodVars_none hV
  obtain ⟨a0, w0, z0⟩ := lift.open_row Try.underlying22 Try.underlying33 cells_uint64 (okWide_slice Try.underlying22 (hval 0 22 v0 rfl rfl)) h0
  obtain ⟨a1, w1, z1⟩ := lift.open_row Try.underlying57 Try.underlying3 cells_int (okWide_slice Try.underlying57 (hval 1 57 v1 rfl rfl)) h1
  obtain ⟨a2, rfl, rfl, rfl, w2⟩ := open_int Try.underlying33 (hval 2 33 v2 rfl rfl) h2
  clear hA0 hval0
  refine (walk v0 a0 v1 a1 a2 w2 W w0 z0 w1 z1).mono fun e W' ⟨he, hb⟩ => ?_
  subst he
  exact ⟨_, rfl, lift.post_law (tb := 4) laidOut (by rw [Try.params8]; exact fun t ht => (of_decide_eq_true (by kernel_rfl) : ∀ t ∈ [22, 57, 33], Try.prog.readableRec t = true ∧ t < Try.prog.types.size) t ht) (by kernel_rfl) Try.underlying4 rfl hW' rfl hb⟩
theorem over : Rows.wmemReadsRow.holds Try.pinned (OpenSpec.ofChange Rows.wmemReadsSpec) :=
  OpenClaim.holds_of_wide 8 Try.f8 rfl rfl rfl rfl rfl rfl rfl ⟨rfl, rfl, rfl, rfl, rfl⟩ rfl rfl rfl rfl rfl (by kernel_rfl) Try.func8 (by kernel_rfl)
    (of_decide_eq_true (by kernel_rfl)) (by unfold Func.isWrapper; first | (rw [if_pos (by decide +kernel)]; kernel_rfl) | (rw [if_neg (by decide +kernel)]; exact ⟨rfl, rfl⟩))
    (fun os started H enc _ => lifted os started H enc)
theorem proved : Rows.WmemReadsSaid :=
  over
end Go.Proofs.Ytkhhkdkbckdehaa.wmemReads
