/- LifoSpoils: an answer with another word, or another status, than what a stack tells may not be answered; Retry may, and changes nothing: no condition. -/
import Derived.Test.YtjmbjlijkohkfaaLifB
namespace Go.Proofs.Ytjmbjlijkohkfaa.lifoSpoils
open Go.ChangeShapes Go.WideShapes Go.ChangeAt Go.RowKit frame lift sep own join lf
set_option linter.unusedVariables false
theorem st_other {a : Int} (h : a = 1 ∨ a = 2) : 3 - a ≠ a ∧ 3 - a ≠ 6 ∧ a ≠ 6 := by omega
theorem pushT_or (l : List Int) (m : Int) : pushT l m = 1 ∨ pushT l m = 2 := by
  rcases pushT_is l m with h | h
  · exact .inl h.1
  · exact .inr h.1
theorem popT_or (l : List Int) : popT l = 1 ∨ popT l = 2 := by
  rcases popT_is l with h | h
  · exact .inl h.1
  · exact .inr h.1
theorem wrap_same (a b : Int) (ha : 0 ≤ a ∧ a ≤ 18446744073709551615) (hb : 0 ≤ b ∧ b ≤ 18446744073709551615) : (a = IntKind.u64.wrap (a + b)) ↔ b = 0 := by
  have e : IntKind.u64.wrap (a + b) = (a + b) % 18446744073709551616 := rfl
  rw [e]
  omega
theorem popV_bd {l : List Int} (h : Fit .u64 l) : 0 ≤ popV l ∧ popV l ≤ 18446744073709551615 := by
  unfold popV
  by_cases h0 : l = []
  · subst h0
    simp
  · have : l.getLastD 0 ∈ l := by
      rw [List.getLastD_eq_getLast?, List.getLast?_eq_some_getLast h0]
      exact List.getLast_mem h0
    exact bd_u64 (h _ this)
set_option maxRecDepth 100000 in
set_option maxHeartbeats 8000000 in
theorem walk (v0 : Value) (s : List Int) (a1 : Int) (a2 : Bool) (a3 a4 : Int) (f1 : (Lit.int .i64 a1).wf = true) (f3 : (Lit.int .u64 a3).wf = true) (f4 : (Lit.int .u64 a4).wf = true) (w : World) (f0 : Ints w .u64 v0 s) (z0 : Fit .u64 s) :
    Calls Try.prog 6 #[v0, .int .i64 a1, .bool a2, .int .u64 a3, .int .u64 a4] w fun e w' => e = .returned (.bool true) ∧ Below w.heap.size w w' := by
  have hb3 := bd_u64 f3
  have hb4 := bd_u64 f4
  have HI := Lib.hid f0
  have HPB := Lib.hid (popV_bd z0)
  obtain ⟨aa, ca, rfl, _⟩ := form f0
  clear f0 f1 f3 f4 z0
  by_cases hs : 200 < s.length
  · have hs1 : (200 : Int) < (s.length : Int) := by omega
    go_enter Try.func6, Try.ntmps6
    go_wp2_with fail
    refine (shown_any w).mono ?_
    rintro e w1 ⟨rfl, hb⟩
    go_wp2_with fail
    go_ret
    exact ⟨rfl, hb⟩
  have hs1 : ¬ (200 : Int) < (s.length : Int) := by omega
  cases a2 with
  | true =>
    obtain ⟨h3, h6a, h6⟩ := st_other (pushT_or s a1)
    have hor := pushT_or s a1
    obtain ⟨st, hst⟩ : ∃ st, pushT s a1 = st := ⟨_, rfl⟩
    rw [hst] at h3 h6a h6 hor
    have HST := Lib.hid hst
    have HGOOD : Hid (doL s a1 ⟨true, a3, st⟩ = some (pushL s a1 a3)) := by simp [Hid, doL, h6, hst]
    have HBAD : Hid (doL s a1 ⟨true, a3, 3 - st⟩ = none) := by simp [Hid, doL, h6a, hst]; omega
    have HOTHER : Hid (doL s a1 ⟨true, IntKind.u64.wrap (a3 + a4), st⟩ = some (pushL s a1 (IntKind.u64.wrap (a3 + a4)))) := by simp [Hid, doL, h6, hst]
    have HAGAIN : Hid (doL s a1 ⟨true, a3, 6⟩ = some s) := by simp [Hid, doL]
    have hw3 : IntKind.i64.wrap (3 - st) = 3 - st := IntWalk.i64_in _ (by omega)
    clear hst h3 h6a h6 hor
    go_enter Try.func6, Try.ntmps6
    go_wp2_with fail
    refine (shown_any w).mono ?_
    rintro e w1 ⟨rfl, hb⟩
    have H1 := Lib.hid ((Hold.empty w).on hb); clear hb
    go_wp2_with fail
    refine (push_any (HI.out.below H1.out.below) (by omega) a1 a3).mono ?_
    rintro e w2 ⟨t, rfl, _, hb⟩
    rw [HST.out]
    have h2 := (H1.out.on hb).newBlk (Obj.cells #[.bool true, .int .u64 a3, .int .i64 st] 30)
    obtain ⟨B, hB⟩ : ∃ B, w2.heap.size = B := ⟨_, rfl⟩
    rw [hB] at h2
    have H4 := Lib.hid h2
    clear hb h2
    obtain ⟨⟨c04, c14, c24⟩, _⟩ := cells3 H4.out
    go_wp2_with fail
    refine (do_any (HI.out.below H4.out.below) (by omega) a1 ⟨true, a3, st⟩).mono ?_
    rintro e w5 ⟨t5, rfl, _, hb⟩
    rw [HGOOD.out]
    dsimp only [Option.isSome]
    have H5 := Lib.hid (H4.out.on hb)
    clear hb
    obtain ⟨⟨c05, c15, c25⟩, _⟩ := cells3 H5.out
    have k5 := fun o => (kept3 H5.out o).2.2
    have H5b := Lib.hid ((H5.out.newBlk (Obj.cells #[.bool true, .int .u64 a3, .int .i64 (3 - st)] 30)).drop)
    go_wp2_with fail
    refine (do_any (HI.out.below H5b.out.below) (by omega) a1 ⟨true, a3, 3 - st⟩).mono ?_
    rintro e w6 ⟨t6, rfl, _, hb⟩
    rw [HBAD.out]
    dsimp only [Option.isSome]
    have H6 := Lib.hid (H5b.out.on hb)
    clear hb k5
    obtain ⟨⟨c06, c16, c26⟩, _⟩ := cells3 H6.out
    have k6 := fun o => (kept3 H6.out o).2.1
    have H6b := Lib.hid ((H6.out.newBlk (Obj.cells #[.bool true, .int .u64 (IntKind.u64.wrap (a3 + a4)), .int .i64 st] 30)).drop)
    go_wp2_with fail
    refine (do_any (HI.out.below H6b.out.below) (by omega) a1 ⟨true, IntKind.u64.wrap (a3 + a4), st⟩).mono ?_
    rintro e w7 ⟨t7, rfl, _, hb⟩
    rw [HOTHER.out]
    dsimp only [Option.isSome]
    have H7 := Lib.hid (H6b.out.on hb)
    clear hb k6
    obtain ⟨⟨c07, c17, c27⟩, _⟩ := cells3 H7.out
    have H7b := Lib.hid ((H7.out.newBlk (Obj.cells #[.bool true, .int .u64 a3, .int .i64 6] 30)).drop)
    go_wp2_with fail
    refine (do_any (HI.out.below H7b.out.below) (by omega) a1 ⟨true, a3, 6⟩).mono ?_
    rintro e w8 ⟨t8, rfl, ht8, hb⟩
    rw [HAGAIN.out] at ht8 ⊢
    dsimp only [Option.isSome, Option.getD] at ht8 ⊢
    have H8 := Lib.hid (H7b.out.on hb)
    have HT8 := Lib.hid ht8
    clear hb ht8
    go_wp2_with fail
    refine (same_any HT8.out (HI.out.below H8.out.below) (by omega) (by omega)).mono ?_
    rintro e w9 ⟨rfl, hb⟩
    have hdt : decide (s = s) = true := decide_eq_true rfl
    rw [hdt]
    have H9 := Lib.hid (H8.out.on hb)
    clear hb hdt
    go_wp2_with fail
    go_ret
    exact ⟨rfl, H9.out.below⟩
  | false =>
    obtain ⟨h3, h6a, h6⟩ := st_other (popT_or s)
    have hor := popT_or s
    obtain ⟨st, hst⟩ : ∃ st, popT s = st := ⟨_, rfl⟩
    obtain ⟨x, hx⟩ : ∃ x, popV s = x := ⟨_, rfl⟩
    have hxb := HPB.out
    rw [hx] at hxb
    rw [hst] at h3 h6a h6 hor
    have HST := Lib.hid hst
    have HX := Lib.hid hx
    have HGOOD : Hid (doL s a1 ⟨false, x, st⟩ = some (popL s)) := by simp [Hid, doL, h6, hst, hx]
    have HBAD : Hid (doL s a1 ⟨false, x, 3 - st⟩ = none) := by simp [Hid, doL, h6a, hst]; omega
    have HAGAIN : Hid (doL s a1 ⟨false, x, 6⟩ = some s) := by simp [Hid, doL]
    have hw3 : IntKind.i64.wrap (3 - st) = 3 - st := IntWalk.i64_in _ (by omega)
    have hws := wrap_same x a4 hxb hb4
    by_cases h0 : a4 = 0
    · have HOTHER : Hid (doL s a1 ⟨false, IntKind.u64.wrap (x + a4), st⟩ = some (popL s)) := by
        have h9 : x = IntKind.u64.wrap (x + a4) := hws.2 h0
        rw [← h9]
        simp [Hid, doL, h6, hst, hx]
      have h0' : (a4 == 0) = true := by simpa using h0
      clear hst h3 h6a h6 hor hx hxb hws h0
      go_enter Try.func6, Try.ntmps6
      go_wp2_with fail
      refine (shown_any w).mono ?_
      rintro e w1 ⟨rfl, hb⟩
      have H1 := Lib.hid ((Hold.empty w).on hb); clear hb
      go_wp2_with fail
      refine (push_any (HI.out.below H1.out.below) (by omega) a1 a3).mono ?_
      rintro e w2 ⟨t, rfl, _, hb⟩
      have h2 := (H1.out.on hb).newBlk (Obj.cells #[.bool false, .int .u64 a3, .int .i64 (pushT s a1)] 30)
      obtain ⟨B, hB⟩ : ∃ B, w2.heap.size = B := ⟨_, rfl⟩
      rw [hB] at h2
      have H2 := Lib.hid h2
      clear hb h2
      go_wp2_with fail
      refine (pop_any (HI.out.below H2.out.below) (by omega)).mono ?_
      rintro e w3 ⟨t3, rfl, _, hb⟩
      have H3 := Lib.hid (H2.out.on hb)
      rw [HST.out, HX.out]
      clear hb
      obtain ⟨⟨c0, c1, c2⟩, f0, f1, f2⟩ := cells3 H3.out
      have H4 : Hid (Hold (fun _ => False) w [blk B (.cells #[.bool false, .int .u64 x, .int .i64 st] 30 (0, 0))] (((w3.setCell ⟨B, 0, none⟩ (.bool false)).setCell ⟨B, 1, none⟩ (.int .u64 x)).setCell ⟨B, 2, none⟩ (.int .i64 st))) := by
        have := ((H3.out.setBlk 0 (.bool false)).setBlk 1 (.int .u64 x)).setBlk 2 (.int .i64 st)
        unfold Hid
        simpa using this
      go_wp2_with fail
      clear c0 c1 c2 f0 f1 f2
      refine (do_any (HI.out.below H4.out.below) (by omega) a1 ⟨false, x, st⟩).mono ?_
      rintro e w5 ⟨t5, rfl, _, hb⟩
      rw [HGOOD.out]
      dsimp only [Option.isSome]
      have H5 := Lib.hid (H4.out.on hb)
      clear hb
      obtain ⟨⟨c05, c15, c25⟩, _⟩ := cells3 H5.out
      have k5 := fun o => (kept3 H5.out o).2.2
      have H5b := Lib.hid ((H5.out.newBlk (Obj.cells #[.bool false, .int .u64 x, .int .i64 (3 - st)] 30)).drop)
      go_wp2_with fail
      refine (do_any (HI.out.below H5b.out.below) (by omega) a1 ⟨false, x, 3 - st⟩).mono ?_
      rintro e w6 ⟨t6, rfl, _, hb⟩
      rw [HBAD.out]
      dsimp only [Option.isSome]
      have H6 := Lib.hid (H5b.out.on hb)
      clear hb k5
      obtain ⟨⟨c06, c16, c26⟩, _⟩ := cells3 H6.out
      have k6 := fun o => (kept3 H6.out o).2.1
      have H6b := Lib.hid ((H6.out.newBlk (Obj.cells #[.bool false, .int .u64 (IntKind.u64.wrap (x + a4)), .int .i64 st] 30)).drop)
      go_wp2_with fail
      refine (do_any (HI.out.below H6b.out.below) (by omega) a1 ⟨false, IntKind.u64.wrap (x + a4), st⟩).mono ?_
      rintro e w7 ⟨t7, rfl, _, hb⟩
      rw [HOTHER.out]
      dsimp only [Option.isSome]
      have H7 := Lib.hid (H6b.out.on hb)
      clear hb k6
      obtain ⟨⟨c07, c17, c27⟩, _⟩ := cells3 H7.out
      have H7b := Lib.hid ((H7.out.newBlk (Obj.cells #[.bool false, .int .u64 x, .int .i64 6] 30)).drop)
      go_wp2_with fail
      refine (do_any (HI.out.below H7b.out.below) (by omega) a1 ⟨false, x, 6⟩).mono ?_
      rintro e w8 ⟨t8, rfl, ht8, hb⟩
      rw [HAGAIN.out] at ht8 ⊢
      dsimp only [Option.isSome, Option.getD] at ht8 ⊢
      have H8 := Lib.hid (H7b.out.on hb)
      have HT8 := Lib.hid ht8
      clear hb ht8
      go_wp2_with fail
      refine (same_any HT8.out (HI.out.below H8.out.below) (by omega) (by omega)).mono ?_
      rintro e w9 ⟨rfl, hb⟩
      have hdt : decide (s = s) = true := decide_eq_true rfl
      rw [hdt]
      have H9 := Lib.hid (H8.out.on hb)
      clear hb hdt
      go_wp2_with fail
      go_ret
      exact ⟨rfl, H9.out.below⟩
    · have HOTHER : Hid (doL s a1 ⟨false, IntKind.u64.wrap (x + a4), st⟩ = none) := by
        have h9 : ¬ x = IntKind.u64.wrap (x + a4) := fun h => h0 (hws.1 h)
        simp [Hid, doL, h6, hst, hx, h9]
      have h0' : (a4 == 0) = false := by simpa using h0
      clear hst h3 h6a h6 hor hx hxb hws h0
      go_enter Try.func6, Try.ntmps6
      go_wp2_with fail
      refine (shown_any w).mono ?_
      rintro e w1 ⟨rfl, hb⟩
      have H1 := Lib.hid ((Hold.empty w).on hb); clear hb
      go_wp2_with fail
      refine (push_any (HI.out.below H1.out.below) (by omega) a1 a3).mono ?_
      rintro e w2 ⟨t, rfl, _, hb⟩
      have h2 := (H1.out.on hb).newBlk (Obj.cells #[.bool false, .int .u64 a3, .int .i64 (pushT s a1)] 30)
      obtain ⟨B, hB⟩ : ∃ B, w2.heap.size = B := ⟨_, rfl⟩
      rw [hB] at h2
      have H2 := Lib.hid h2
      clear hb h2
      go_wp2_with fail
      refine (pop_any (HI.out.below H2.out.below) (by omega)).mono ?_
      rintro e w3 ⟨t3, rfl, _, hb⟩
      have H3 := Lib.hid (H2.out.on hb)
      rw [HST.out, HX.out]
      clear hb
      obtain ⟨⟨c0, c1, c2⟩, f0, f1, f2⟩ := cells3 H3.out
      have H4 : Hid (Hold (fun _ => False) w [blk B (.cells #[.bool false, .int .u64 x, .int .i64 st] 30 (0, 0))] (((w3.setCell ⟨B, 0, none⟩ (.bool false)).setCell ⟨B, 1, none⟩ (.int .u64 x)).setCell ⟨B, 2, none⟩ (.int .i64 st))) := by
        have := ((H3.out.setBlk 0 (.bool false)).setBlk 1 (.int .u64 x)).setBlk 2 (.int .i64 st)
        unfold Hid
        simpa using this
      go_wp2_with fail
      clear c0 c1 c2 f0 f1 f2
      refine (do_any (HI.out.below H4.out.below) (by omega) a1 ⟨false, x, st⟩).mono ?_
      rintro e w5 ⟨t5, rfl, _, hb⟩
      rw [HGOOD.out]
      dsimp only [Option.isSome]
      have H5 := Lib.hid (H4.out.on hb)
      clear hb
      obtain ⟨⟨c05, c15, c25⟩, _⟩ := cells3 H5.out
      have k5 := fun o => (kept3 H5.out o).2.2
      have H5b := Lib.hid ((H5.out.newBlk (Obj.cells #[.bool false, .int .u64 x, .int .i64 (3 - st)] 30)).drop)
      go_wp2_with fail
      refine (do_any (HI.out.below H5b.out.below) (by omega) a1 ⟨false, x, 3 - st⟩).mono ?_
      rintro e w6 ⟨t6, rfl, _, hb⟩
      rw [HBAD.out]
      dsimp only [Option.isSome]
      have H6 := Lib.hid (H5b.out.on hb)
      clear hb k5
      obtain ⟨⟨c06, c16, c26⟩, _⟩ := cells3 H6.out
      have k6 := fun o => (kept3 H6.out o).2.1
      have H6b := Lib.hid ((H6.out.newBlk (Obj.cells #[.bool false, .int .u64 (IntKind.u64.wrap (x + a4)), .int .i64 st] 30)).drop)
      go_wp2_with fail
      refine (do_any (HI.out.below H6b.out.below) (by omega) a1 ⟨false, IntKind.u64.wrap (x + a4), st⟩).mono ?_
      rintro e w7 ⟨t7, rfl, _, hb⟩
      rw [HOTHER.out]
      dsimp only [Option.isSome]
      have H7 := Lib.hid (H6b.out.on hb)
      clear hb k6
      obtain ⟨⟨c07, c17, c27⟩, _⟩ := cells3 H7.out
      have H7b := Lib.hid ((H7.out.newBlk (Obj.cells #[.bool false, .int .u64 x, .int .i64 6] 30)).drop)
      go_wp2_with fail
      refine (do_any (HI.out.below H7b.out.below) (by omega) a1 ⟨false, x, 6⟩).mono ?_
      rintro e w8 ⟨t8, rfl, ht8, hb⟩
      rw [HAGAIN.out] at ht8 ⊢
      dsimp only [Option.isSome, Option.getD] at ht8 ⊢
      have H8 := Lib.hid (H7b.out.on hb)
      have HT8 := Lib.hid ht8
      clear hb ht8
      go_wp2_with fail
      refine (same_any HT8.out (HI.out.below H8.out.below) (by omega) (by omega)).mono ?_
      rintro e w9 ⟨rfl, hb⟩
      have hdt : decide (s = s) = true := decide_eq_true rfl
      rw [hdt]
      have H9 := Lib.hid (H8.out.on hb)
      clear hb hdt
      go_wp2_with fail
      go_ret
      exact ⟨rfl, H9.out.below⟩
theorem own : ownKnob Try.prog.godebug = none := by kernel_rfl
theorem laidOut : laidOutB Try.prog = true := by kernel_rfl
theorem cells_uint64 : Try.prog.cellsOf 28 = 1 := by kernel_rfl
set_option maxRecDepth 100000 in
theorem lifted (os : Os) (started : os.Started) (H : Type) (enc : TypeId × Value → H) :
    ReturnsInHanded {} Try.checked os 6 .any (Rows.lifoSpoilsSpec.pre6 enc Try.prog Try.f6 Rows.lifoSpoilsRow.domain false) (Rows.lifoSpoilsSpec.post enc Try.prog Try.f6 false true false false) := by
  refine returnsInHanded_of_change (C := Try.checked) own started (by kernel_rfl) Try.func6
    (ChangeSpec.witness6 (enc := enc) (C := Try.checked) false ⟨#[], #[.slice none 0 0, .int .i64 0, .bool false, .int .u64 0, .int .u64 0], []⟩ 8 (by kernel_rfl) (by kernel_rfl) (by kernel_rfl) (by kernel_rfl)) ?_
  intro W base args ds gs before hval0 hW hcnd _
  have hval : ∀ (j : Nat) t v, Try.f6.params[j]? = some t → args[j]? = some v → Value.okWide Try.prog W .any base t v := hval0
  have hW' := hW
  obtain ⟨p, q, hA0, hV, rfl, hfz, hnd⟩ := hW
  have hA : DataW.TrodAll enc Try.prog W 0 (fun _ => true) true Try.f6.params.toList args.toList ds p := hA0
  rw [Try.params6] at hA hval
  obtain ⟨v0, vs0, d0, ds0, p0, q0, hargs, rfl, rfl, h0, r0⟩ := trodAll_cons hA
  obtain ⟨v1, vs1, d1, ds1, p1, q1, rfl, rfl, rfl, h1, r1⟩ := trodAll_cons r0
  obtain ⟨v2, vs2, d2, ds2, p2, q2, rfl, rfl, rfl, h2, r2⟩ := trodAll_cons r1
  obtain ⟨v3, vs3, d3, ds3, p3, q3, rfl, rfl, rfl, h3, r3⟩ := trodAll_cons r2
  obtain ⟨v4, vs4, d4, ds4, p4, q4, rfl, rfl, rfl, h4, r4⟩ := trodAll_cons r3
  obtain ⟨rfl, rfl, rfl⟩ := trodAll_nil r4
  obtain rfl : args = #[v0, v1, v2, v3, v4] := by cases args; simp_all
  obtain ⟨rfl, rfl⟩ := trodVars_none hV
  obtain ⟨a0, w0, z0⟩ := lift.open_row Try.underlying22 Try.underlying28 cells_uint64 (okWide_slice Try.underlying22 (hval 0 22 v0 rfl rfl)) h0
  obtain ⟨a1, rfl, rfl, rfl, w1⟩ := open_int Try.underlying3 (hval 1 3 v1 rfl rfl) h1
  obtain ⟨a2, rfl, rfl, rfl⟩ := open_bool Try.underlying4 (hval 2 4 v2 rfl rfl) h2
  obtain ⟨a3, rfl, rfl, rfl, w3⟩ := open_int Try.underlying28 (hval 3 28 v3 rfl rfl) h3
  obtain ⟨a4, rfl, rfl, rfl, w4⟩ := open_int Try.underlying28 (hval 4 28 v4 rfl rfl) h4
  clear hA0 hval0
  refine (walk v0 a0 a1 a2 a3 a4 w1 w3 w4 W w0 z0).mono fun e W' ⟨he, hb⟩ => ?_
  subst he
  exact ⟨_, rfl, lift.post_law (tb := 4) laidOut (by rw [Try.params6]; exact fun t ht => (of_decide_eq_true (by kernel_rfl) : ∀ t ∈ [22, 3, 4, 28, 28], Try.prog.readableRec t = true ∧ t < Try.prog.types.size) t ht) (by kernel_rfl) Try.underlying4 rfl hW' rfl hb⟩
theorem over : Rows.lifoSpoilsRow.holds Try.pinned (OpenSpec.ofChange Rows.lifoSpoilsSpec) :=
  OpenClaim.holds_of_wide 6 Try.f6 rfl rfl rfl rfl rfl rfl rfl ⟨rfl, rfl, rfl, rfl, rfl⟩ rfl rfl rfl rfl rfl (by kernel_rfl) Try.func6 (by kernel_rfl)
    (of_decide_eq_true (by kernel_rfl)) (by unfold Func.isWrapper; first | (rw [if_pos (by decide +kernel)]; kernel_rfl) | (rw [if_neg (by decide +kernel)]; exact ⟨rfl, rfl⟩))
    (fun os started H enc _ => lifted os started H enc)
theorem proved : Rows.LifoSpoilsSaid :=
  over
end Go.Proofs.Ytjmbjlijkohkfaa.lifoSpoils
