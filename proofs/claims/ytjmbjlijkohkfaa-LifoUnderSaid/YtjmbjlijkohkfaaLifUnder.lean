/- LifoUnder: what lies in a stack is not touched by what goes on above it: no condition. -/
import Derived.Test.YtjmbjlijkohkfaaLifB
namespace Go.Proofs.Ytjmbjlijkohkfaa.lifoUnder
open Go.ChangeShapes Go.WideShapes Go.ChangeAt Go.RowKit frame lift sep own join lf
set_option linter.unusedVariables false
theorem yes {α : Type} [DecidableEq α] (a : α) : decide (a = a) = true := decide_eq_true rfl
/-- What there is behind k of the words. -/
structure Lies (s now : List Int) (k : Nat) : Prop where
  is : now.take s.length = s
  le : s.length ≤ now.length
  len : now.length ≤ s.length + k
theorem Lies.more {s now : List Int} {k : Nat} (h : Lies s now k) (x : Int) : Lies s (now ++ [x]) (k + 1) :=
  ⟨by rw [List.take_append_of_le_length h.le]; exact h.is, by have := h.le; simp; omega, by have := h.len; simp; omega⟩
theorem Lies.same {s now : List Int} {k : Nat} (h : Lies s now k) : Lies s now (k + 1) := ⟨h.is, h.le, by have := h.len; omega⟩
set_option maxRecDepth 100000 in
set_option maxHeartbeats 8000000 in
theorem walk (v0 : Value) (s : List Int) (v1 : Value) (l : List Int) (w : World) (f0 : Ints w .u64 v0 s) (z0 : Fit .u64 s) (f1 : Ints w .u64 v1 l) (z1 : Fit .u64 l) :
    Calls Try.prog 9 #[v0, v1] w fun e w' => e = .returned (.bool true) ∧ Below w.heap.size w w' := by
  have HI := Lib.hid f0; have HJ := Lib.hid f1
  obtain ⟨aa, ca, rfl, _⟩ := form f0
  obtain ⟨ab, cb, rfl, hfb⟩ := form f1
  have HF := Lib.hid hfb
  have HZ1 := Lib.hid z1
  clear f0 f1 z0 z1 hfb
  by_cases hs : 100 < s.length
  · have hs1 : (100 : Int) < (s.length : Int) := by omega
    go_enter Try.func9, Try.ntmps9
    go_wp2_with fail
    refine (shown_any w).mono ?_
    rintro e w1 ⟨rfl, hb⟩
    go_wp2_with fail
    go_ret
    exact ⟨rfl, hb⟩
  have hs1 : ¬ (100 : Int) < (s.length : Int) := by omega
  by_cases hl : 100 < l.length
  · have hl1 : (100 : Int) < (l.length : Int) := by omega
    go_enter Try.func9, Try.ntmps9
    go_wp2_with fail
    refine (shown_any w).mono ?_
    rintro e w1 ⟨rfl, hb⟩
    go_wp2_with fail
    go_ret
    exact ⟨rfl, hb⟩
  have hl1 : ¬ (100 : Int) < (l.length : Int) := by omega
  have hsl : s.length ≤ 1000 := by omega
  have hll : l.length ≤ 1000 := by omega
  have hw : IntKind.i64.wrap ((s.length : Int) + (l.length : Int)) = (s.length : Int) + (l.length : Int) := IntWalk.i64_in _ (by omega)
  go_enter Try.func9, Try.ntmps9
  go_wp2_with fail
  refine (shown_any w).mono ?_
  rintro e w1 ⟨rfl, hb⟩
  have H1 := Lib.hid (hb.alloc hb.size (Obj.cells #[] 28 (0, 0)))
  have HO := Lib.hid (own_empty (W := w1) (B := w.heap.size) 28 .u64 hb.size)
  have HX := Lib.hid (HI.out.below H1.out)
  clear hb
  go_wp2_with (at_builtin; refine wpList_cat _ rfl _ _ 22 rfl w.heap.size 28 .u64 (.int .u64 0) 8 Try.underlying22 info64 rfl _ [] rfl HO.out _ s rfl HX.out ?c1 (by decide) ?c2 ?_)
  case c1 => simp; omega
  case c2 => exact H1.out.size
  intro v' w2 hown hgrow
  have HB1 := Lib.hid (below_grown H1.out hgrow HO.out (Nat.le_refl _))
  have HO1 : Hid (Own w2 w.heap.size 28 .u64 v' s) := hown
  clear hown hgrow
  go_wp2_with fail
  go_loopw [6, 7] (fun nv i wr => ∃ (k : Nat) (now : List Int) (vv : Value), nv = vv ∧ i = .int .i64 k ∧ k ≤ l.length ∧ Hid (Lies s now k) ∧ Hid (Ints wr .u64 vv now) ∧ Hid (Below w.heap.size w wr)) (fun _ i _ => l.length - (intOf i).toNat)
  case atStart => exact ⟨0, s, _, rfl, rfl, Nat.zero_le _, ⟨List.take_length, Nat.le_refl _, Nat.le_refl _⟩, HO1.out.ints, HB1.out⟩
  case round =>
    obtain ⟨k, now, vv, hvv, rfl, hk, HL, HN, HB⟩ := hrel
    have hv2 := hvv.symm
    clear hvv
    subst hv2
    obtain ⟨an, cn, rfl, hfn⟩ := form HN.out
    have HFN := Lib.hid hfn
    clear hfn
    have hlen := HL.out.len
    have hle := HL.out.le
    by_cases hlt : k < l.length
    · obtain ⟨h1, h2, g, off, rfl, hgl, hc⟩ := HF.out (by omega)
      have e0 := (HB.out.cell (p := ⟨g, off + k, none⟩) hgl).trans (hc k hlt)
      obtain ⟨x, hx⟩ : ∃ x, nth l k = x := ⟨_, rfl⟩
      rw [hx] at e0
      have hxb : 0 ≤ x ∧ x ≤ 18446744073709551615 := by
        have hm := HZ1.out l[k] (List.getElem_mem hlt)
        have : nth l k = l[k] := by simp [nth, List.getD, hlt]
        rw [this] at hx
        rw [hx] at hm
        exact bd_u64 hm
      obtain ⟨xb0, xb1⟩ := hxb
      have HE := Lib.hid e0
      have HG : Hid (g < wr.heap.size) := Nat.lt_of_lt_of_le hgl HB.out.size
      have hi1 : (0 : Int) ≤ (k : Int) := by omega
      have hi2 : (k : Int) < (l.length : Int) := by omega
      have hroom : (now.length : Int) < (s.length : Int) + (l.length : Int) := by omega
      have HP : Hid (pushL now ((s.length : Int) + (l.length : Int)) x = now ++ [x] ∧ pushT now ((s.length : Int) + (l.length : Int)) = 1) := by simp [Hid, pushL, pushT, hroom]
      have HQ : Hid (popT (now ++ [x]) = 1 ∧ popV (now ++ [x]) = x ∧ popL (now ++ [x]) = now) := by
        have := pop_push (x := x) hroom
        rw [HP.out.1] at this
        exact this
      have hnl : now.length ≤ 1000 := by omega
      clear hc hx hroom
      go_wp2_with fail
      refine (push_any HN.out (by omega) _ x).mono ?_
      rintro e w3 ⟨t, rfl, ht, hb⟩
      rw [HP.out.1] at ht
      rw [HP.out.2]
      have HN3 := Lib.hid (HN.out.below hb)
      have HB3 := Lib.hid (below_trans HB.out hb)
      have HC3 := Lib.hid hb
      have HT := Lib.hid ht
      obtain ⟨tb, ct, rfl, hft⟩ := form ht
      obtain ⟨q1, q2, tg, to, rfl, htg, htc⟩ := hft (by simp)
      have hlen2 : (now ++ [x]).length = now.length + 1 := by simp
      rw [hlen2] at q1 HT ⊢
      have HT1 : Hid (Ints w3 .u64 (.slice (some ⟨tg, to, none⟩) now.length ct) now) := ints_take HT.out (by rw [hlen2]; exact q1)
      have q3 : (now.length : Int) ≤ (ct : Int) := by omega
      have q4 : (0 : Int) ≤ (now.length : Int) := by omega
      unfold maxLen at q2
      clear hb ht htc e0 hft
      go_wp2_with fail
      refine (same_any HT1.out HN3.out (by omega) (by omega)).mono ?_
      rintro e w4 ⟨rfl, hb⟩
      rw [yes]
      have HB4 := Lib.hid (below_trans HB3.out hb)
      have HC4 := Lib.hid (below_trans HC3.out hb)
      have HN4 := Lib.hid (HN3.out.below hb)
      have HT4 := Lib.hid (HT.out.below hb)
      have e4 := (HC4.out.cell (p := ⟨g, off + k, none⟩) HG.out).trans HE.out
      clear hb
      have hxm : x.tmod 2 = x % 2 := Int.tmod_eq_emod_of_nonneg xb0
      by_cases hev : x % 2 = 0
      · have hev' : (x % 2 == 0) = true := by simpa using hev
        go_wp2_with fail
        refine (pop_any HT4.out (by rw [hlen2]; omega)).mono ?_
        rintro e w5 ⟨u, rfl, hu, hb⟩
        rw [HQ.out.2.2] at hu
        rw [HQ.out.1, HQ.out.2.1]
        have HB5 := Lib.hid (below_trans HB4.out hb)
        have HN5 := Lib.hid (HN4.out.below hb)
        have HU := Lib.hid hu
        have e5 := ((below_trans HC4.out hb).cell (p := ⟨g, off + k, none⟩) HG.out).trans HE.out
        clear hb hu
        go_wp2_with fail
        refine (same_any HU.out HN5.out (by omega) (by omega)).mono ?_
        rintro e w6 ⟨rfl, hb⟩
        rw [yes]
        have HB6 := Lib.hid (below_trans HB5.out hb)
        have HU6 := Lib.hid (HU.out.below hb)
        clear hb
        go_wp2_with fail
        go_roundw
        case rel => exact ⟨k + 1, now, _, rfl, by go_num, by omega, HL.out.same, HU6.out, HB6.out⟩
        case measure => simp [intOf]; omega
      · have hev' : (x % 2 == 0) = false := by simpa using hev
        go_wp2_with fail
        go_roundw
        case rel => exact ⟨k + 1, now ++ [x], _, rfl, by go_num, by omega, HL.out.more x, (by have := HT4.out; exact this), HB4.out⟩
        case measure => simp [intOf]; omega
    · have hle2 : (s.length : Int) ≤ (now.length : Int) := by omega
      have hT : Hid (Ints wr .u64 (.slice an s.length cn) s) := by
        by_cases h0 : 0 < now.length
        · have hc := (HFN.out h0).1
          have e := List.take_append_drop s.length now
          rw [HL.out.is] at e
          have h1 := HN.out
          rw [← e] at h1
          exact ints_take h1 (by rw [e]; exact hc)
        · have hs0 : s = [] := List.eq_nil_of_length_eq_zero (by omega)
          rw [hs0]
          exact .inl ⟨rfl, an, cn, rfl⟩
      have hsc : (s.length : Int) ≤ (cn : Int) := by
        by_cases h0 : 0 < now.length
        · have hc := (HFN.out h0).1
          omega
        · omega
      have hs0 : (0 : Int) ≤ (s.length : Int) := by omega
      cases an
      all_goals
        go_wp2_with fail
        refine (same_any hT.out (HI.out.below HB.out) (by omega) (by omega)).mono ?_
        rintro e w4 ⟨rfl, hb⟩
        rw [yes]
        have HB4 := Lib.hid (below_trans HB.out hb)
        clear hb
        go_wp2_with fail
        go_ret
        exact ⟨rfl, HB4.out⟩
theorem own : ownKnob Try.prog.godebug = none := by kernel_rfl
theorem laidOut : laidOutB Try.prog = true := by kernel_rfl
theorem cells_uint64 : Try.prog.cellsOf 28 = 1 := by kernel_rfl
set_option maxRecDepth 100000 in
theorem lifted (os : Os) (started : os.Started) (H : Type) (enc : TypeId × Value → H) :
    ReturnsInHanded {} Try.checked os 9 .any (Rows.lifoUnderSpec.pre6 enc Try.prog Try.f9 Rows.lifoUnderRow.domain false) (Rows.lifoUnderSpec.post enc Try.prog Try.f9 false true false false) := by
  refine returnsInHanded_of_change (C := Try.checked) own started (by kernel_rfl) Try.func9
    (ChangeSpec.witness6 (enc := enc) (C := Try.checked) false ⟨#[], #[.slice none 0 0, .slice none 0 0], []⟩ 8 (by kernel_rfl) (by kernel_rfl) (by kernel_rfl) (by kernel_rfl)) ?_
  intro W base args ds gs before hval0 hW hcnd _
  have hval : ∀ (j : Nat) t v, Try.f9.params[j]? = some t → args[j]? = some v → Value.okWide Try.prog W .any base t v := hval0
  have hW' := hW
  obtain ⟨p, q, hA0, hV, rfl, hfz, hnd⟩ := hW
  have hA : DataW.TrodAll enc Try.prog W 0 (fun _ => true) true Try.f9.params.toList args.toList ds p := hA0
  rw [Try.params9] at hA hval
  obtain ⟨v0, vs0, d0, ds0, p0, q0, hargs, rfl, rfl, h0, r0⟩ := trodAll_cons hA
  obtain ⟨v1, vs1, d1, ds1, p1, q1, rfl, rfl, rfl, h1, r1⟩ := trodAll_cons r0
  obtain ⟨rfl, rfl, rfl⟩ := trodAll_nil r1
  obtain rfl : args = #[v0, v1] := by cases args; simp_all
  obtain ⟨rfl, rfl⟩ := trodVars_none hV
  obtain ⟨a0, w0, z0⟩ := lift.open_row Try.underlying22 Try.underlying28 cells_uint64 (okWide_slice Try.underlying22 (hval 0 22 v0 rfl rfl)) h0
  obtain ⟨a1, w1, z1⟩ := lift.open_row Try.underlying22 Try.underlying28 cells_uint64 (okWide_slice Try.underlying22 (hval 1 22 v1 rfl rfl)) h1
  clear hA0 hval0
  refine (walk v0 a0 v1 a1 W w0 z0 w1 z1).mono fun e W' ⟨he, hb⟩ => ?_
  subst he
  exact ⟨_, rfl, lift.post_law (tb := 4) laidOut (by rw [Try.params9]; exact fun t ht => (of_decide_eq_true (by kernel_rfl) : ∀ t ∈ [22, 22], Try.prog.readableRec t = true ∧ t < Try.prog.types.size) t ht) (by kernel_rfl) Try.underlying4 rfl hW' rfl hb⟩
theorem over : Rows.lifoUnderRow.holds Try.pinned (OpenSpec.ofChange Rows.lifoUnderSpec) :=
  OpenClaim.holds_of_wide 9 Try.f9 rfl rfl rfl rfl rfl rfl rfl ⟨rfl, rfl, rfl, rfl, rfl⟩ rfl rfl rfl rfl rfl (by kernel_rfl) Try.func9 (by kernel_rfl)
    (of_decide_eq_true (by kernel_rfl)) (by unfold Func.isWrapper; first | (rw [if_pos (by decide +kernel)]; kernel_rfl) | (rw [if_neg (by decide +kernel)]; exact ⟨rfl, rfl⟩))
    (fun os started H enc _ => lifted os started H enc)
theorem proved : Rows.LifoUnderSaid :=
  over
end Go.Proofs.Ytjmbjlijkohkfaa.lifoUnder
