/- LifoCounts: how long a stack is, behind answers that are its own, is how many pushes were done, less how many pops; never above its bound, nor below nothing: no condition. -/
import Derived.Test.YtjmbjlijkohkfaaLifB
namespace Go.Proofs.Ytjmbjlijkohkfaa.lifoCounts
open Go.ChangeShapes Go.WideShapes Go.ChangeAt Go.RowKit frame lift sep own join lf
set_option linter.unusedVariables false
theorem at_next {m : Int} {l : List Ans} {s now : List Int} {k : Nat} (h : At s m l k now) (hk : k < (runL s m l).2) (hl : k < l.length) : ∃ t, doL now m l[k] = some t ∧ At s m l (k + 1) t := by
  cases hd : doL now m l[k] with
  | none =>
    have := h.stop hl hd
    rw [this] at hk
    simp at hk
  | some t => exact ⟨t, rfl, h.next hl hd⟩
theorem at_end {m : Int} {l : List Ans} {s now : List Int} {n : Nat} (h : At s m l n now) (hn : (runL s m l).2 = n) : (runL s m l).1 = now := by
  have h1 := run_cut (most := m) l s n (by omega)
  rw [h.is, hn] at h1
  have e : (l.take n).drop n = [] := List.drop_eq_nil_of_le (by rw [List.length_take]; omega)
  rw [e] at h1
  simp [runL] at h1
  exact h1.symm
set_option maxRecDepth 100000 in
set_option maxHeartbeats 8000000 in
theorem walk (a0 : Int) (v1 : Value) (l : List Ans) (f0 : (Lit.int .i64 a0).wf = true) (w : World) (f1 : Ops w v1 l) (z1 : OpsOk l) :
    Calls Try.prog 7 #[.int .i64 a0, v1] w fun e w' => e = .returned (.bool true) ∧ Below w.heap.size w w' := by
  obtain ⟨b0, b1⟩ := bd_i64 f0
  have HS := Lib.hid f1
  obtain ⟨ab, cb, rfl, _⟩ := f1
  clear f0 z1
  by_cases hl : 200 < l.length
  · have hl1 : (200 : Int) < (l.length : Int) := by omega
    go_enter Try.func7, Try.ntmps7
    go_wp2_with fail
    refine (shown_any w).mono ?_
    rintro e w1 ⟨rfl, hb⟩
    go_wp2_with fail
    go_ret
    exact ⟨rfl, hb⟩
  have hl1 : ¬ (200 : Int) < (l.length : Int) := by omega
  obtain ⟨m, hm⟩ : ∃ m, pickI a0 10 = m := ⟨_, rfl⟩
  have hmb := pickI_bd a0 10 (by decide)
  rw [hm] at hmb
  obtain ⟨m0, m1⟩ := hmb
  have HM := Lib.hid hm
  have hle := run_le (most := m) l []
  obtain ⟨n, hn⟩ : ∃ n, (runL [] m l).2 = n := ⟨_, rfl⟩
  obtain ⟨t, ht⟩ : ∃ t, (runL [] m l).1 = t := ⟨_, rfl⟩
  have HR : Hid (runL [] m l = (t, n)) := Prod.ext ht hn
  have HN := Lib.hid hn; have HT := Lib.hid ht
  rw [hn] at hle
  have hnI : (n : Int) ≤ (l.length : Int) := by omega
  have hn0 : (0 : Int) ≤ (n : Int) := by omega
  clear hm hn ht
  go_enter Try.func7, Try.ntmps7
  go_wp2_with fail
  refine (shown_any w).mono ?_
  rintro e w1 ⟨rfl, hb⟩
  have HB1 := Lib.hid hb; clear hb
  go_wp2_with fail
  refine (pick_any a0 10 b0 b1 (by decide) (by decide) w1).mono ?_
  rintro e w2 ⟨rfl, rfl⟩
  rw [HM.out]
  go_wp2_with fail
  refine (run_any (s := []) (v := .slice none 0 0) (.inl ⟨rfl, none, 0, rfl⟩) (HS.out.below HB1.out) (by simp; omega) m).mono ?_
  rintro e w2 ⟨tv, rfl, htv, hb⟩
  rw [HR.out] at htv ⊢
  have HB2 := Lib.hid (below_trans HB1.out hb)
  obtain ⟨at_, ct, rfl, _⟩ := form htv
  clear hb htv
  dsimp only
  go_wp2_with fail
  go_loopw [9, 10] (fun iv i wr => ∃ (k : Nat) (now : List Int), i = .int .i64 k ∧ iv = .int .i64 (now.length : Int) ∧ k ≤ n ∧ (now.length : Int) ≤ m ∧ Hid (At [] m l k now) ∧ Hid (Below w.heap.size w wr)) (fun _ i _ => n - (intOf i).toNat)
  case atStart => exact ⟨0, [], rfl, rfl, Nat.zero_le _, m0, At.zero _ _ _, HB2.out⟩
  case round =>
    obtain ⟨k, now, rfl, rfl, hk, hnm, HA, HB⟩ := hrel
    by_cases hlt : k < n
    · have hkl : k < l.length := by omega
      obtain ⟨t2, hd, hat⟩ := at_next HA.out (by rw [HN.out]; exact hlt) hkl
      obtain ⟨hg1, hg2⟩ := do_gain hd hnm
      have HA2 := Lib.hid hat
      obtain ⟨g, off, rfl, hgl, x0, x1, x2⟩ := HS.out.at_ HB.out k hkl
      obtain ⟨⟨p, x, st⟩, hoo⟩ : ∃ o, l[k] = o := ⟨_, rfl⟩
      rw [hoo] at x0 x1 x2 hg1
      have hi1 : (0 : Int) ≤ (k : Int) := by omega
      have hi2 : (k : Int) < (l.length : Int) := by omega
      have hi3 : (k : Int) < (n : Int) := by omega
      have hi4 : (0 : Int) ≤ (t2.length : Int) := by omega
      dsimp only at x0 x1 x2
      clear hd hat hoo
      by_cases h1 : st = 1
      · subst h1
        cases p with
        | true =>
          have hw : IntKind.i64.wrap ((now.length : Int) + 1) = (t2.length : Int) := by
            simp only [gain, if_true] at hg1
            rw [IntWalk.i64_in _ (by omega)]
            omega
          clear hg1
          go_wp2_with fail
          go_roundw
          case rel => exact ⟨k + 1, t2, by go_num, rfl, by omega, hg2, HA2.out, HB.out⟩
          case measure => simp [intOf]; omega
        | false =>
          have hw : IntKind.i64.wrap ((now.length : Int) - 1) = (t2.length : Int) := by
            simp only [gain, if_true, Bool.false_eq_true, if_false] at hg1
            rw [IntWalk.i64_in _ (by omega)]
            omega
          clear hg1
          go_wp2_with fail
          go_roundw
          case rel => exact ⟨k + 1, t2, by go_num, rfl, by omega, hg2, HA2.out, HB.out⟩
          case measure => simp [intOf]; omega
      · have h1' : (st == 1) = false := by simpa using h1
        have hlen : (now.length : Int) = (t2.length : Int) := by
          simp only [gain, if_neg h1] at hg1
          omega
        clear hg1 h1
        rw [hlen]
        go_wp2_with fail
        go_roundw
        case rel => exact ⟨k + 1, t2, by go_num, rfl, by omega, hg2, HA2.out, HB.out⟩
        case measure => simp [intOf]; omega
    · obtain rfl : k = n := by omega
      have he := at_end HA.out HN.out
      rw [HT.out] at he
      subst he
      go_wp2_with fail
      go_ret
      exact ⟨rfl, HB.out⟩
theorem own : ownKnob Try.prog.godebug = none := by kernel_rfl
theorem laidOut : laidOutB Try.prog = true := by kernel_rfl
set_option maxRecDepth 100000 in
theorem lifted (os : Os) (started : os.Started) (H : Type) (enc : TypeId × Value → H) :
    ReturnsInHanded {} Try.checked os 7 .any (Rows.lifoCountsSpec.pre6 enc Try.prog Try.f7 Rows.lifoCountsRow.domain false) (Rows.lifoCountsSpec.post enc Try.prog Try.f7 false true false false) := by
  refine returnsInHanded_of_change (C := Try.checked) own started (by kernel_rfl) Try.func7
    (ChangeSpec.witness6 (enc := enc) (C := Try.checked) false ⟨#[], #[.int .i64 0, .slice none 0 0], []⟩ 8 (by kernel_rfl) (by kernel_rfl) (by kernel_rfl) (by kernel_rfl)) ?_
  intro W base args ds gs before hval0 hW hcnd _
  have hval : ∀ (j : Nat) t v, Try.f7.params[j]? = some t → args[j]? = some v → Value.okWide Try.prog W .any base t v := hval0
  have hW' := hW
  obtain ⟨p, q, hA0, hV, rfl, hfz, hnd⟩ := hW
  have hA : DataW.TrodAll enc Try.prog W 0 (fun _ => true) true Try.f7.params.toList args.toList ds p := hA0
  rw [Try.params7] at hA hval
  obtain ⟨v0, vs0, d0, ds0, p0, q0, hargs, rfl, rfl, h0, r0⟩ := trodAll_cons hA
  obtain ⟨v1, vs1, d1, ds1, p1, q1, rfl, rfl, rfl, h1, r1⟩ := trodAll_cons r0
  obtain ⟨rfl, rfl, rfl⟩ := trodAll_nil r1
  obtain rfl : args = #[v0, v1] := by cases args; simp_all
  obtain ⟨rfl, rfl⟩ := trodVars_none hV
  obtain ⟨a0, rfl, rfl, rfl, w0⟩ := open_int Try.underlying3 (hval 0 3 v0 rfl rfl) h0
  obtain ⟨a1, w1, z1⟩ := lf.open_ops (okWide_slice Try.underlying23 (hval 1 23 v1 rfl rfl)) h1
  clear hA0 hval0
  refine (walk a0 v1 a1 w0 W w1 z1).mono fun e W' ⟨he, hb⟩ => ?_
  subst he
  exact ⟨_, rfl, lift.post_law (tb := 4) laidOut (by rw [Try.params7]; exact fun t ht => (of_decide_eq_true (by kernel_rfl) : ∀ t ∈ [3, 23], Try.prog.readableRec t = true ∧ t < Try.prog.types.size) t ht) (by kernel_rfl) Try.underlying4 rfl hW' rfl hb⟩
theorem over : Rows.lifoCountsRow.holds Try.pinned (OpenSpec.ofChange Rows.lifoCountsSpec) :=
  OpenClaim.holds_of_wide 7 Try.f7 rfl rfl rfl rfl rfl rfl rfl ⟨rfl, rfl, rfl, rfl, rfl⟩ rfl rfl rfl rfl rfl (by kernel_rfl) Try.func7 (by kernel_rfl)
    (of_decide_eq_true (by kernel_rfl)) (by unfold Func.isWrapper; first | (rw [if_pos (by decide +kernel)]; kernel_rfl) | (rw [if_neg (by decide +kernel)]; exact ⟨rfl, rfl⟩))
    (fun os started H enc _ => lifted os started H enc)
theorem proved : Rows.LifoCountsSaid :=
  over
end Go.Proofs.Ytjmbjlijkohkfaa.lifoCounts
