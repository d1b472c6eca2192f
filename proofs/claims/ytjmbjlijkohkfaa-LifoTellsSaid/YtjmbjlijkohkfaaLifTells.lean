/- LifoTells: what a stack answers, whether it may answer so, and how far any answers are a stack's, is as the document's own answer says: no condition. -/
import Derived.Test.YtjmbjlijkohkfaaLifB
namespace Go.Proofs.Ytjmbjlijkohkfaa.lifoTells
open Go.ChangeShapes Go.WideShapes Go.ChangeAt Go.RowKit frame lift sep own join lf
set_option linter.unusedVariables false
theorem yes {α : Type} [DecidableEq α] (a : α) : decide (a = a) = true := decide_eq_true rfl
set_option maxRecDepth 100000 in
set_option maxHeartbeats 8000000 in
theorem walk (v0 : Value) (s : List Int) (a1 : Int) (v2 : Value) (l : List Ans) (f1 : (Lit.int .i64 a1).wf = true) (w : World) (f0 : Ints w .u64 v0 s) (z0 : Fit .u64 s) (f2 : Ops w v2 l) (z2 : OpsOk l) :
    Calls Try.prog 3 #[v0, .int .i64 a1, v2] w fun e w' => e = .returned (.bool true) ∧ Below w.heap.size w w' := by
  have HI := Lib.hid f0; have HS := Lib.hid f2
  obtain ⟨aa, ca, rfl, _⟩ := form f0
  obtain ⟨ab, cb, rfl, _⟩ := f2
  clear f0 f1 z0 z2
  by_cases hs : 300 < s.length
  · have hs1 : (300 : Int) < (s.length : Int) := by omega
    go_enter Try.func3, Try.ntmps3
    go_wp2_with fail
    refine (shown_any w).mono ?_
    rintro e w1 ⟨rfl, hb⟩
    go_wp2_with fail
    go_ret
    exact ⟨rfl, hb⟩
  have hs1 : ¬ (300 : Int) < (s.length : Int) := by omega
  by_cases hl : 300 < l.length
  · have hl1 : (300 : Int) < (l.length : Int) := by omega
    go_enter Try.func3, Try.ntmps3
    go_wp2_with fail
    refine (shown_any w).mono ?_
    rintro e w1 ⟨rfl, hb⟩
    go_wp2_with fail
    go_ret
    exact ⟨rfl, hb⟩
  have hl1 : ¬ (300 : Int) < (l.length : Int) := by omega
  have hsl : s.length ≤ 1000 := by omega
  have hll : l.length ≤ 1000 := by omega
  go_enter Try.func3, Try.ntmps3
  go_wp2_with fail
  refine (shown_any w).mono ?_
  rintro e w1 ⟨rfl, hb⟩
  have H1 := Lib.hid hb; clear hb
  go_wp2_with fail
  go_loopw [8] (fun i wr => ∃ k : Nat, k ≤ l.length ∧ i = .int .i64 k ∧ Hid (Below w.heap.size w wr)) (fun i _ => l.length - (intOf i).toNat)
  case atStart => exact ⟨0, Nat.zero_le _, rfl, H1.out⟩
  case round =>
    obtain ⟨k, hk, rfl, HB⟩ := hrel
    by_cases hlt : k < l.length
    · obtain ⟨g, off, rfl, hgl, x0, x1, x2⟩ := HS.out.at_ HB.out k hlt
      obtain ⟨o, hoo⟩ : ∃ o, l[k] = o := ⟨_, rfl⟩
      rw [hoo] at x0 x1 x2
      have HX0 := Lib.hid x0; have HX1 := Lib.hid x1; have HX2 := Lib.hid x2
      have hgr : g < wr.heap.size := Nat.lt_of_lt_of_le hgl HB.out.size
      have HG := Lib.hid hgr
      have hi1 : (0 : Int) ≤ (k : Int) := by omega
      have hi2 : (k : Int) < (l.length : Int) := by omega
      have HPL := Lib.hid (push_len s a1 o.v)
      go_wp2_with fail
      refine (push_any (HI.out.below HB.out) (by omega) a1 o.v).mono ?_
      rintro e w2 ⟨ta, rfl, hta, hb⟩
      have HB2 := Lib.hid (below_trans HB.out hb)
      have HC2 := Lib.hid hb
      have HTA := Lib.hid hta
      have y1 := (HC2.out.cell (p := ⟨g, off + k * 3 + 1, none⟩) HG.out).trans HX1.out
      clear hb hta x0 x1 x2 hgr
      go_wp2_with fail
      refine (rpush_any (HI.out.below HB2.out) (by omega) a1 o.v).mono ?_
      rintro e w3 ⟨tb, rfl, htb, hb⟩
      have HB3 := Lib.hid (below_trans HB2.out hb)
      have HC3 := Lib.hid (below_trans HC2.out hb)
      have HTA3 := Lib.hid (HTA.out.below hb)
      have HTB := Lib.hid htb
      have z0 := (HC3.out.cell (p := ⟨g, off + k * 3, none⟩) HG.out).trans HX0.out
      have z1 := (HC3.out.cell (p := ⟨g, off + k * 3 + 1, none⟩) HG.out).trans HX1.out
      have z2 := (HC3.out.cell (p := ⟨g, off + k * 3 + 2, none⟩) HG.out).trans HX2.out
      clear hb htb y1
      go_wp2_with fail
      refine (do_any (HI.out.below HB3.out) (by omega) a1 o).mono ?_
      rintro e w4 ⟨tc, rfl, htc, hb⟩
      have HB4 := Lib.hid (below_trans HB3.out hb)
      have HTA4 := Lib.hid (HTA3.out.below hb)
      have HTB4 := Lib.hid (HTB.out.below hb)
      have HTC := Lib.hid htc
      clear hb htc z0 z1 z2
      go_wp2_with fail
      refine (as_any (HS.out.below HB4.out) (by omega)).mono ?_
      rintro e w5 ⟨to, rfl, hto, hb⟩
      have HB5 := Lib.hid (below_trans HB4.out hb)
      have HTA5 := Lib.hid (HTA4.out.below hb)
      have HTB5 := Lib.hid (HTB4.out.below hb)
      have HTC5 := Lib.hid (HTC.out.below hb)
      have HTO := Lib.hid hto
      obtain ⟨ao, co, rfl, _⟩ := hto
      obtain ⟨g2, off2, rfl, hgl2, u0, u1, u2⟩ := HTO.out.at_ (Below.refl _ _) k hlt
      rw [hoo] at u0 u1 u2
      clear hb hoo
      go_wp2_with fail
      refine (rdo_any (HI.out.below HB5.out) (by omega) a1 o).mono ?_
      rintro e w6 ⟨td, rfl, htd, hb⟩
      have HB6 := Lib.hid (below_trans HB5.out hb)
      have HTA6 := Lib.hid (HTA5.out.below hb)
      have HTB6 := Lib.hid (HTB5.out.below hb)
      have HTC6 := Lib.hid (HTC5.out.below hb)
      have HTD := Lib.hid htd
      clear hb htd u0 u1 u2
      have HDL : Hid (((doL s a1 o).getD []).length ≤ 1000000) := by
        unfold Hid
        cases hd : doL s a1 o with
        | none => simp
        | some t => have := do_len hd; simp; omega
      go_wp2_with fail
      refine (same_any HTA6.out HTB6.out (by have := HPL.out; omega) (by have := HPL.out; omega)).mono ?_
      rintro e w7 ⟨rfl, hb⟩
      rw [yes]
      have HB7 := Lib.hid (below_trans HB6.out hb)
      have HTC7 := Lib.hid (HTC6.out.below hb)
      have HTD7 := Lib.hid (HTD.out.below hb)
      clear hb
      go_wp2_with fail
      refine (same_any HTC7.out HTD7.out HDL.out HDL.out).mono ?_
      rintro e w8 ⟨rfl, hb⟩
      rw [yes]
      have HB8 := Lib.hid (below_trans HB7.out hb)
      clear hb
      go_wp2_with fail
      go_roundw
      case rel => exact ⟨k + 1, by omega, by go_num, HB8.out⟩
      case measure => simp [intOf]; omega
    · have HRL := Lib.hid (run_len (most := a1) l s)
      have HPL := Lib.hid (pop_len s)
      go_wp2_with fail
      refine (pop_any (HI.out.below HB.out) (by omega)).mono ?_
      rintro e w2 ⟨ta, rfl, hta, hb⟩
      have HB2 := Lib.hid (below_trans HB.out hb)
      have HTA := Lib.hid hta
      clear hb hta
      go_wp2_with fail
      refine (rpop_any (HI.out.below HB2.out) (by omega)).mono ?_
      rintro e w3 ⟨tb, rfl, htb, hb⟩
      have HB3 := Lib.hid (below_trans HB2.out hb)
      have HTA3 := Lib.hid (HTA.out.below hb)
      have HTB := Lib.hid htb
      clear hb htb
      go_wp2_with fail
      refine (run_any (HI.out.below HB3.out) (HS.out.below HB3.out) (by omega) a1).mono ?_
      rintro e w4 ⟨tc, rfl, htc, hb⟩
      have HB4 := Lib.hid (below_trans HB3.out hb)
      have HTA4 := Lib.hid (HTA3.out.below hb)
      have HTB4 := Lib.hid (HTB.out.below hb)
      have HTC := Lib.hid htc
      clear hb htc
      go_wp2_with fail
      refine (as_any (HS.out.below HB4.out) (by omega)).mono ?_
      rintro e w5 ⟨to, rfl, hto, hb⟩
      have HB5 := Lib.hid (below_trans HB4.out hb)
      have HTA5 := Lib.hid (HTA4.out.below hb)
      have HTB5 := Lib.hid (HTB4.out.below hb)
      have HTC5 := Lib.hid (HTC.out.below hb)
      have HTO := Lib.hid hto
      clear hb hto
      go_wp2_with fail
      refine (rrun_any (HI.out.below HB5.out) HTO.out (by omega) a1).mono ?_
      rintro e w6 ⟨td, rfl, htd, hb⟩
      have HB6 := Lib.hid (below_trans HB5.out hb)
      have HTA6 := Lib.hid (HTA5.out.below hb)
      have HTB6 := Lib.hid (HTB5.out.below hb)
      have HTC6 := Lib.hid (HTC5.out.below hb)
      have HTD := Lib.hid htd
      clear hb htd
      go_wp2_with fail
      refine (same_any HTA6.out HTB6.out (by have := HPL.out; omega) (by have := HPL.out; omega)).mono ?_
      rintro e w7 ⟨rfl, hb⟩
      rw [yes]
      have HB7 := Lib.hid (below_trans HB6.out hb)
      have HTC7 := Lib.hid (HTC6.out.below hb)
      have HTD7 := Lib.hid (HTD.out.below hb)
      clear hb
      go_wp2_with fail
      refine (same_any HTC7.out HTD7.out (by have := HRL.out; omega) (by have := HRL.out; omega)).mono ?_
      rintro e w8 ⟨rfl, hb⟩
      rw [yes]
      have HB8 := Lib.hid (below_trans HB7.out hb)
      clear hb
      go_wp2_with fail
      go_ret
      exact ⟨rfl, HB8.out⟩
theorem own : ownKnob Try.prog.godebug = none := by kernel_rfl
theorem laidOut : laidOutB Try.prog = true := by kernel_rfl
theorem cells_uint64 : Try.prog.cellsOf 28 = 1 := by kernel_rfl
set_option maxRecDepth 100000 in
theorem lifted (os : Os) (started : os.Started) (H : Type) (enc : TypeId × Value → H) :
    ReturnsInHanded {} Try.checked os 3 .any (Rows.lifoTellsSpec.pre6 enc Try.prog Try.f3 Rows.lifoTellsRow.domain false) (Rows.lifoTellsSpec.post enc Try.prog Try.f3 false true false false) := by
  refine returnsInHanded_of_change (C := Try.checked) own started (by kernel_rfl) Try.func3
    (ChangeSpec.witness6 (enc := enc) (C := Try.checked) false ⟨#[], #[.slice none 0 0, .int .i64 0, .slice none 0 0], []⟩ 8 (by kernel_rfl) (by kernel_rfl) (by kernel_rfl) (by kernel_rfl)) ?_
  intro W base args ds gs before hval0 hW hcnd _
  have hval : ∀ (j : Nat) t v, Try.f3.params[j]? = some t → args[j]? = some v → Value.okWide Try.prog W .any base t v := hval0
  have hW' := hW
  obtain ⟨p, q, hA0, hV, rfl, hfz, hnd⟩ := hW
  have hA : DataW.TrodAll enc Try.prog W 0 (fun _ => true) true Try.f3.params.toList args.toList ds p := hA0
  rw [Try.params3] at hA hval
  obtain ⟨v0, vs0, d0, ds0, p0, q0, hargs, rfl, rfl, h0, r0⟩ := trodAll_cons hA
  obtain ⟨v1, vs1, d1, ds1, p1, q1, rfl, rfl, rfl, h1, r1⟩ := trodAll_cons r0
  obtain ⟨v2, vs2, d2, ds2, p2, q2, rfl, rfl, rfl, h2, r2⟩ := trodAll_cons r1
  obtain ⟨rfl, rfl, rfl⟩ := trodAll_nil r2
  obtain rfl : args = #[v0, v1, v2] := by cases args; simp_all
  obtain ⟨rfl, rfl⟩ := trodVars_none hV
  obtain ⟨a0, w0, z0⟩ := lift.open_row Try.underlying22 Try.underlying28 cells_uint64 (okWide_slice Try.underlying22 (hval 0 22 v0 rfl rfl)) h0
  obtain ⟨a1, rfl, rfl, rfl, w1⟩ := open_int Try.underlying3 (hval 1 3 v1 rfl rfl) h1
  obtain ⟨a2, w2, z2⟩ := lf.open_ops (okWide_slice Try.underlying23 (hval 2 23 v2 rfl rfl)) h2
  clear hA0 hval0
  refine (walk v0 a0 a1 v2 a2 w1 W w0 z0 w2 z2).mono fun e W' ⟨he, hb⟩ => ?_
  subst he
  exact ⟨_, rfl, lift.post_law (tb := 4) laidOut (by rw [Try.params3]; exact fun t ht => (of_decide_eq_true (by kernel_rfl) : ∀ t ∈ [22, 3, 23], Try.prog.readableRec t = true ∧ t < Try.prog.types.size) t ht) (by kernel_rfl) Try.underlying4 rfl hW' rfl hb⟩
theorem over : Rows.lifoTellsRow.holds Try.pinned (OpenSpec.ofChange Rows.lifoTellsSpec) :=
  OpenClaim.holds_of_wide 3 Try.f3 rfl rfl rfl rfl rfl rfl rfl ⟨rfl, rfl, rfl, rfl, rfl⟩ rfl rfl rfl rfl rfl (by kernel_rfl) Try.func3 (by kernel_rfl)
    (of_decide_eq_true (by kernel_rfl)) (by unfold Func.isWrapper; first | (rw [if_pos (by decide +kernel)]; kernel_rfl) | (rw [if_neg (by decide +kernel)]; exact ⟨rfl, rfl⟩))
    (fun os started H enc _ => lifted os started H enc)
theorem proved : Rows.LifoTellsSaid :=
  over
end Go.Proofs.Ytjmbjlijkohkfaa.lifoTells
