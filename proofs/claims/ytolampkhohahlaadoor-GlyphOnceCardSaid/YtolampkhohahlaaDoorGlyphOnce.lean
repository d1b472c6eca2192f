/- GlyphOnce: entries that are unlike are put as texts that are unlike: no condition. -/
import Derived.Test.YtolampkhohahlaaDoorGlyphGr
import Derived.Test.YtolampkhohahlaaDoorGlyphTells
namespace Go.Proofs.YtolampkhohahlaaDoor.g3
open gl lift
def core (e : Ent) : Int × Bool × List Int := (e.op, e.ok, e.args)
theorem same_core : ∀ (a b : List Ent), same a b false = true ↔ a.map core = b.map core := by
  intro a
  induction a with
  | nil => intro b; cases b <;> simp [same]
  | cons x a ih =>
    intro b
    cases b with
    | nil => simp [same]
    | cons y b =>
      rw [same, Bool.and_eq_true, ih b, List.map_cons, List.map_cons, List.cons.injEq]
      unfold sameE core
      simp
      intro _
      constructor
      · rintro ⟨⟨h1, h2⟩, h3⟩
        exact ⟨h1, h2, h3⟩
      · rintro ⟨h1, h2, h3⟩
        exact ⟨⟨h1, h2⟩, h3⟩
theorem put_core : ∀ (a b : List Ent), a.map core = b.map core → put a = put b := by
  intro a
  induction a with
  | nil => intro b h; cases b <;> simp at h; rfl
  | cons x a ih =>
    intro b h
    cases b with
    | nil => simp at h
    | cons y b =>
      rw [List.map_cons, List.map_cons, List.cons.injEq] at h
      have h1 := ih b h.2
      have h2 := h.1
      unfold core at h2
      simp only [Prod.mk.injEq] at h2
      unfold put at *
      rw [List.flatMap_cons, List.flatMap_cons, h1]
      unfold put1
      rw [h2.1, h2.2.2]
theorem core_stands (ps : List (Ent × Bs)) : ∀ a, (stands a ps).map core = (ps.map (·.1)).map core := by
  induction ps with
  | nil => intro a; rfl
  | cons p ps ih =>
    intro a
    rw [stands, List.map_cons, ih, List.map_cons, List.map_cons]
    rfl
theorem core_put (a b : List Ent) (ha : ∀ e ∈ a, gl.Good e) (hb : ∀ e ∈ b, gl.Good e) (h : put a = put b) : a.map core = b.map core := by
  have e1 : ∀ l : List Ent, ((l.map fun e => (e, ([] : Bs))).map (·.1)) = l := fun l => by simp [Function.comp_def]
  have h1 := core_stands (a.map fun e => (e, ([] : Bs))) 0
  have h2 := core_stands (b.map fun e => (e, ([] : Bs))) 0
  rw [e1, ← parse_put a ha] at h1
  rw [e1, ← parse_put b hb] at h2
  rw [← h1, ← h2, h]
theorem list_ne {s t : ByteArray} (h : s ≠ t) : (s.toList == t.toList) = false := by
  rw [beq_eq_false_iff_ne]
  intro e
  rw [ByteArray.toList_eq, ByteArray.toList_eq] at e
  refine h ?_
  cases s
  cases t
  exact congrArg ByteArray.mk (Array.toList_inj.1 e)
theorem once_true {s t : ByteArray} {a b : List Ent} (hs : bytes s = put a) (ht : bytes t = put b) (h : same a b false = true) : s = t := by
  refine bytes_inj ?_
  rw [hs, ht, put_core a b ((same_core a b).1 h)]
theorem once_false {s t : ByteArray} {a b : List Ent} (ha : ∀ e ∈ a, gl.Good e) (hb : ∀ e ∈ b, gl.Good e) (hs : bytes s = put a) (ht : bytes t = put b) (h : same a b false = false) : s ≠ t := by
  rintro rfl
  have := (same_core a b).2 (core_put a b ha hb (by rw [← hs, ← ht]))
  rw [h] at this
  cases this
theorem take_all {l : List (List Int)} {k n : Nat} (h : ∀ z ∈ l.take k, z.length ≤ n) (h2 : ∀ hk : k < l.length, l[k].length ≤ n) : ∀ z ∈ l.take (k + 1), z.length ≤ n := by
  intro z hz
  by_cases hk : k < l.length
  · rw [List.take_succ_eq_append_getElem hk] at hz
    rcases List.mem_append.1 hz with hz | hz
    · exact h z hz
    · simp at hz
      subst hz
      exact h2 hk
  · rw [List.take_of_length_le (by omega)] at hz
    rw [List.take_of_length_le (by omega)] at h
    exact h z hz
end Go.Proofs.YtolampkhohahlaaDoor.g3
namespace Go.Proofs.YtolampkhohahlaaDoor.glyphOnce
open Go.ChangeShapes Go.WideShapes Go.ChangeAt Go.RowKit frame lift gl own g3
set_option linter.unusedVariables false
set_option maxRecDepth 100000 in
set_option maxHeartbeats 16000000 in
theorem walk (v0 : Value) (oa : List Int) (v1 : Value) (x : List (List Int)) (v2 : Value) (ob : List Int) (v3 : Value) (y : List (List Int)) (w : World) (f0 : Ints w .i64 v0 oa) (z0 : Fit .i64 oa) (f1 : IntRows w v1 x) (z1 : GridOk x) (f2 : Ints w .i64 v2 ob) (z2 : Fit .i64 ob) (f3 : IntRows w v3 y) (z3 : GridOk y) (hT : Tab w) :
    Calls Tryd.prog 7 #[v0, v1, v2, v3] w fun e w' => e = .returned (.bool true) ∧ Below w.heap.size w w' := by
  have HIA : Hid (∀ c ∈ oa, I64 c) := fun c hc => bd_i64 (z0 c hc)
  have HIB : Hid (∀ c ∈ ob, I64 c) := fun c hc => bd_i64 (z2 c hc)
  have HSA := Lib.hid f0; have HRA := Lib.hid f1; have HUA := Lib.hid z1
  have HSB := Lib.hid f2; have HRB := Lib.hid f3; have HUB := Lib.hid z3; have HT := Lib.hid hT
  obtain ⟨a0, c0, rfl, _⟩ := ints64_form f0
  obtain ⟨a1, c1, rfl, hf1⟩ := f1.form
  obtain ⟨a2, c2, rfl, _⟩ := ints64_form f2
  obtain ⟨a3, c3, rfl, hf3⟩ := f3.form
  have HF1 := Lib.hid hf1; have HF3 := Lib.hid hf3
  clear f0 f1 f2 f3 z0 z1 z2 z3 hT hf1 hf3
  by_cases h0 : 20 < oa.length
  · have i0 : (20 : Int) < (oa.length : Int) := by omega
    go_enter Tryd.func7, Tryd.ntmps7
    go_wp2_with fail
    refine (shown_any w).mono ?_
    rintro e w1 ⟨rfl, hb1⟩
    go_wp2_with fail
    go_ret
    exact ⟨rfl, hb1⟩
  · have i0 : ¬ (20 : Int) < (oa.length : Int) := by omega
    by_cases h2 : 20 < ob.length
    · have i2 : (20 : Int) < (ob.length : Int) := by omega
      go_enter Tryd.func7, Tryd.ntmps7
      go_wp2_with fail
      refine (shown_any w).mono ?_
      rintro e w1 ⟨rfl, hb1⟩
      go_wp2_with fail
      go_ret
      exact ⟨rfl, hb1⟩
    · have i2 : ¬ (20 : Int) < (ob.length : Int) := by omega
      by_cases h1 : 20 < x.length
      · have i1 : (20 : Int) < (x.length : Int) := by omega
        go_enter Tryd.func7, Tryd.ntmps7
        go_wp2_with fail
        refine (shown_any w).mono ?_
        rintro e w1 ⟨rfl, hb1⟩
        go_wp2_with fail
        go_ret
        exact ⟨rfl, hb1⟩
      · have i1 : ¬ (20 : Int) < (x.length : Int) := by omega
        by_cases h3 : 20 < y.length
        · have i3 : (20 : Int) < (y.length : Int) := by omega
          go_enter Tryd.func7, Tryd.ntmps7
          go_wp2_with fail
          refine (shown_any w).mono ?_
          rintro e w1 ⟨rfl, hb1⟩
          go_wp2_with fail
          go_ret
          exact ⟨rfl, hb1⟩
        · have i3 : ¬ (20 : Int) < (y.length : Int) := by omega
          go_enter Tryd.func7, Tryd.ntmps7
          go_wp2_with fail
          refine (shown_any w).mono ?_
          rintro e w1 ⟨rfl, hb1⟩
          go_wp2_with fail
          go_loop [10] (fun i => ∃ k : Nat, i = .int .i64 k ∧ k ≤ 20 ∧ Hid (∀ l ∈ x.take k, l.length ≤ 10) ∧ Hid (∀ l ∈ y.take k, l.length ≤ 10)) (fun i => x.length + y.length - (intOf i).toNat)
          case atStart => exact ⟨0, rfl, by omega, fun l hl => by simp at hl, fun l hl => by simp at hl⟩
          case round =>
            obtain ⟨k, rfl, hk20, HX, HY⟩ := hrel
            have hi1 : (0 : Int) ≤ (k : Int) := by omega
            by_cases hkx : k < x.length
            · have ix : (k : Int) < (x.length : Int) := by omega
              obtain ⟨g, o, rfl, hg, hc⟩ := HF1.out (by omega)
              obtain ⟨av, d0, hav⟩ := hc k hkx
              have e0 := (hb1.cell (p := ⟨g, o + k, none⟩) hg).trans d0
              obtain ⟨pa, pca, rfl, _⟩ := ints_form' hav
              clear hc d0 hav
              by_cases h10 : 10 < x[k].length
              · have j10 : (10 : Int) < (x[k].length : Int) := by omega
                go_wp2_with fail
                go_ret
                exact ⟨rfl, hb1⟩
              · have j10 : ¬ (10 : Int) < (x[k].length : Int) := by omega
                have HX2 := Lib.hid (take_all HX.out (fun h => by omega : ∀ hk : k < x.length, x[k].length ≤ 10))
                by_cases hky : k < y.length
                · have iy : (k : Int) < (y.length : Int) := by omega
                  obtain ⟨g', o', rfl, hg', hc'⟩ := HF3.out (by omega)
                  obtain ⟨av', d0', hav'⟩ := hc' k hky
                  have e0' := (hb1.cell (p := ⟨g', o' + k, none⟩) hg').trans d0'
                  obtain ⟨pa', pca', rfl, _⟩ := ints_form' hav'
                  clear hc' d0' hav'
                  by_cases h11 : 10 < y[k].length
                  · have j11 : (10 : Int) < (y[k].length : Int) := by omega
                    go_wp2_with fail
                    go_ret
                    exact ⟨rfl, hb1⟩
                  · have j11 : ¬ (10 : Int) < (y[k].length : Int) := by omega
                    have HY2 := Lib.hid (take_all HY.out (fun h => by omega : ∀ hk : k < y.length, y[k].length ≤ 10))
                    go_wp2_with fail
                    go_round
                    case rel => exact ⟨k + 1, by go_num, by omega, HX2, HY2⟩
                    case measure => simp [intOf]; omega
                · have iy : ¬ (k : Int) < (y.length : Int) := by omega
                  have HY2 := Lib.hid (take_all (n := 10) HY.out (fun h => absurd h hky))
                  go_wp2_with fail
                  go_round
                  case rel => exact ⟨k + 1, by go_num, by omega, HX2, HY2⟩
                  case measure => simp [intOf]; omega
            · have ix : ¬ (k : Int) < (x.length : Int) := by omega
              have HX2 := Lib.hid (take_all (n := 10) HX.out (fun h => absurd h hkx))
              by_cases hky : k < y.length
              · have iy : (k : Int) < (y.length : Int) := by omega
                obtain ⟨g', o', rfl, hg', hc'⟩ := HF3.out (by omega)
                obtain ⟨av', d0', hav'⟩ := hc' k hky
                have e0' := (hb1.cell (p := ⟨g', o' + k, none⟩) hg').trans d0'
                obtain ⟨pa', pca', rfl, _⟩ := ints_form' hav'
                clear hc' d0' hav'
                by_cases h11 : 10 < y[k].length
                · have j11 : (10 : Int) < (y[k].length : Int) := by omega
                  go_wp2_with fail
                  go_ret
                  exact ⟨rfl, hb1⟩
                · have j11 : ¬ (10 : Int) < (y[k].length : Int) := by omega
                  have HY2 := Lib.hid (take_all HY.out (fun h => by omega : ∀ hk : k < y.length, y[k].length ≤ 10))
                  go_wp2_with fail
                  go_round
                  case rel => exact ⟨k + 1, by go_num, by omega, HX2, HY2⟩
                  case measure => simp [intOf]; omega
              · have iy : ¬ (k : Int) < (y.length : Int) := by omega
                have HX10 : Hid (∀ l ∈ x, l.length ≤ 10) := by have h := HX.out; rw [List.take_of_length_le (by omega)] at h; exact h
                have HY10 : Hid (∀ l ∈ y, l.length ≤ 10) := by have h := HY.out; rw [List.take_of_length_le (by omega)] at h; exact h
                clear HX HY HX2
                go_wp2_with fail
                refine (made_any w1 (HSA.out.below hb1) (HRA.out.below hb1) HIA.out (by omega) (by omega)).mono ?_
                rintro e w2 ⟨va, rfl, hG, hb2⟩
                have hmla := madeL_len oa x
                have HGA := Lib.hid (made_good oa x HUA.out)
                have HKA := Lib.hid (madeL_ok oa x (by omega) (fun l hl => ⟨by have := HX10.out l hl; omega, HUA.out l hl⟩))
                obtain ⟨L, hL⟩ : ∃ L, madeL oa x = L := ⟨_, rfl⟩
                rw [hL] at hG hmla HGA HKA
                have hbw2 := hb1.trans (hb2.mono hb1.size)
                have HEA := Lib.hid (hG.reads hb2)
                have hla : L.length ≤ 20 := by omega
                clear hG hL hmla hb2
                go_wp2_with fail
                refine (made_any w2 (HSB.out.below hbw2) (HRB.out.below hbw2) HIB.out (by omega) (by omega)).mono ?_
                rintro e w3 ⟨vb, rfl, hG, hb3⟩
                have hmlb := madeL_len ob y
                have HGB := Lib.hid (made_good ob y HUB.out)
                have HKB := Lib.hid (madeL_ok ob y (by omega) (fun l hl => ⟨by have := HY10.out l hl; omega, HUB.out l hl⟩))
                obtain ⟨M, hM⟩ : ∃ M, madeL ob y = M := ⟨_, rfl⟩
                rw [hM] at hG hmlb HGB HKB
                have hbw3 := hbw2.trans (hb3.mono hbw2.size)
                have HEB := Lib.hid (hG.reads hb3)
                have HEA3 := Lib.hid (HEA.out.below hb3)
                have hlb : M.length ≤ 20 := by omega
                clear hG hM hmlb hb3 hbw2 HEA
                go_wp2_with fail
                refine (gput_any w3 (HT.out.below hbw3) HEA3.out.loose HKA.out).mono ?_
                rintro e w4 hp
                obtain ⟨s, rfl, hs⟩ := put_good hp HGA.out
                have hb4 := hp.1
                have hbw4 := hbw3.trans (hb4.mono hbw3.size)
                have HEA4 := Lib.hid (HEA3.out.below hb4)
                have HEB4 := Lib.hid (HEB.out.below hb4)
                have HS := Lib.hid hs
                clear hp hs hb4 hbw3 HEA3 HEB
                go_wp2_with fail
                refine (gput_any w4 (HT.out.below hbw4) HEB4.out.loose HKB.out).mono ?_
                rintro e w5 hp
                obtain ⟨t, rfl, ht⟩ := put_good hp HGB.out
                have hb5 := hp.1
                have hbw5 := hbw4.trans (hb5.mono hbw4.size)
                have HEA5 := Lib.hid (HEA4.out.below hb5)
                have HEB5 := Lib.hid (HEB4.out.below hb5)
                have HTT := Lib.hid ht
                clear hp ht hb5 hbw4 HEA4 HEB4
                have hsame : (same L M false = true ∧ s = t) ∨ (same L M false = false ∧ s ≠ t) := by
                  cases h : same L M false with
                  | true => exact .inl ⟨rfl, once_true HS.out HTT.out h⟩
                  | false => exact .inr ⟨rfl, once_false HGA.out HGB.out HS.out HTT.out h⟩
                have hopA : ∀ e ∈ L, -2147483648 ≤ e.op ∧ e.op ≤ 2147483647 := fun e he => by have := (HGA.out e he).uni; unfold Uni at this; omega
                have hopB : ∀ e ∈ M, -2147483648 ≤ e.op ∧ e.op ≤ 2147483647 := fun e he => by have := (HGB.out e he).uni; unfold Uni at this; omega
                have HOA := Lib.hid hopA; have HOB := Lib.hid hopB
                clear hopA hopB
                rcases hsame with ⟨hsm, rfl⟩ | ⟨hsm, hne⟩
                · have HSM := Lib.hid hsm
                  clear hsm
                  go_wp2_with fail
                  refine (as_any w5 HEA5.out (by omega) HOA.out).mono ?_
                  rintro e w6 ⟨hb6, v6, rfl, hA6⟩
                  have hbw6 := hbw5.trans (hb6.mono hbw5.size)
                  have HA6 := Lib.hid hA6
                  have HEB6 := Lib.hid (HEB5.out.below hb6)
                  clear hA6 hb6 hbw5
                  go_wp2_with fail
                  refine (as_any w6 HEB6.out (by omega) HOB.out).mono ?_
                  rintro e w7 ⟨hb7, v7, rfl, hA7⟩
                  have hbw7 := hbw6.trans (hb7.mono hbw6.size)
                  have HA7 := Lib.hid hA7
                  have HA67 := Lib.hid (HA6.out.below hb7)
                  clear hA7 hb7 hbw6
                  go_wp2_with fail
                  refine (same_any false w7 HA67.out.reads HA7.out.reads (by omega) (fun e he => by have := (HKA.out.args e he).1; omega)).mono ?_
                  rintro e w8 ⟨he, hb8⟩
                  rw [HSM.out] at he
                  subst he
                  have hbw8 := hbw7.trans (hb8.mono hbw7.size)
                  clear hb8 hbw7
                  go_wp2_with fail
                  go_ret
                  exact ⟨rfl, hbw8⟩
                · have HSM := Lib.hid hsm
                  have hne1 := list_ne hne
                  clear hsm
                  go_wp2_with fail
                  refine (as_any w5 HEA5.out (by omega) HOA.out).mono ?_
                  rintro e w6 ⟨hb6, v6, rfl, hA6⟩
                  have hbw6 := hbw5.trans (hb6.mono hbw5.size)
                  have HA6 := Lib.hid hA6
                  have HEB6 := Lib.hid (HEB5.out.below hb6)
                  clear hA6 hb6 hbw5
                  go_wp2_with fail
                  refine (as_any w6 HEB6.out (by omega) HOB.out).mono ?_
                  rintro e w7 ⟨hb7, v7, rfl, hA7⟩
                  have hbw7 := hbw6.trans (hb7.mono hbw6.size)
                  have HA7 := Lib.hid hA7
                  have HA67 := Lib.hid (HA6.out.below hb7)
                  clear hA7 hb7 hbw6
                  go_wp2_with fail
                  refine (same_any false w7 HA67.out.reads HA7.out.reads (by omega) (fun e he => by have := (HKA.out.args e he).1; omega)).mono ?_
                  rintro e w8 ⟨he, hb8⟩
                  rw [HSM.out] at he
                  subst he
                  have hbw8 := hbw7.trans (hb8.mono hbw7.size)
                  clear hb8 hbw7
                  go_wp2_with fail
                  go_ret
                  exact ⟨rfl, hbw8⟩
theorem own : ownKnob Tryd.prog.godebug = none := by kernel_rfl
theorem laidOut : laidOutB Tryd.prog = true := by kernel_rfl
theorem cells_int : Tryd.prog.cellsOf 3 = 1 := by kernel_rfl
set_option maxRecDepth 100000 in
theorem lifted (os : Os) (started : os.Started) (H : Type) (enc : TypeId × Value → H) :
    ReturnsInHanded {} Tryd.checked os 7 .any (fun w args => (Rows.glyphOnceSpec.pre enc Tryd.prog Tryd.f7 [] false w args ∧ laidMetH Tryd.prog laidL w) ∧ sizedMet enc Tryd.prog Tryd.f7 (OpenSpec.ofChange Rows.glyphOnceSpec) false w args) (Rows.glyphOnceSpec.post enc Tryd.prog Tryd.f7 false true false false) := by
  refine returnsInHanded_of_change_and (C := Tryd.checked) (X := fun w _ => laidMetH Tryd.prog laidL w) (fun _ _ _ hh h => h.of_heap hh) own started (by kernel_rfl) Tryd.func7
    (ChangeSpec.witness_shaped (enc := enc) (C := Tryd.checked) (os := os) (X := fun w _ => laidMetH Tryd.prog laidL w) false (World.doorLaid Tryd.prog 400 os) #[.slice none 0 0, .slice none 0 0, .slice none 0 0, .slice none 0 0] 8 rfl (World.shaped_of_RefB (by kernel_rfl) (by kernel_rfl)) (by kernel_rfl) (by kernel_rfl) (by kernel_rfl) (door_met os _)) ?_
  intro W base args ds gs before hval0 hW hcnd hsz0 hL _
  have hsz : (DataW.weightsEach Tryd.prog (Tryd.f7.params.toList ++ Rows.glyphOnceSpec.plain.varTypes Tryd.prog) (ds ++ gs)).all (· ≤ reachBytes) = true := hsz0
  clear hsz0
  have hval : ∀ (j : Nat) t v, Tryd.f7.params[j]? = some t → args[j]? = some v → Value.okWide Tryd.prog W .any base t v := hval0
  have hW' := hW
  obtain ⟨p, q, hA0, hV, rfl, hfz, hnd⟩ := hW
  have hA : DataW.TrodAll enc Tryd.prog W 0 (fun _ => true) true Tryd.f7.params.toList args.toList ds p := hA0
  rw [Tryd.params7] at hA hval hsz
  obtain ⟨v0, vs0, d0, ds0, p0, q0, hargs, rfl, rfl, h0, r0⟩ := trodAll_cons hA
  obtain ⟨v1, vs1, d1, ds1, p1, q1, rfl, rfl, rfl, h1, r1⟩ := trodAll_cons r0
  obtain ⟨v2, vs2, d2, ds2, p2, q2, rfl, rfl, rfl, h2, r2⟩ := trodAll_cons r1
  obtain ⟨v3, vs3, d3, ds3, p3, q3, rfl, rfl, rfl, h3, r3⟩ := trodAll_cons r2
  obtain ⟨rfl, rfl, rfl⟩ := trodAll_nil r3
  obtain rfl : args = #[v0, v1, v2, v3] := by cases args; simp_all
  obtain ⟨rfl, rfl⟩ := trodVars_none hV
  obtain ⟨a0, w0, z0⟩ := lift.open_row Tryd.underlying37 Tryd.underlying3 cells_int (okWide_slice Tryd.underlying37 (hval 0 37 v0 rfl rfl)) h0
  obtain ⟨a1, w1, z1⟩ := open_grid (okWide_slice Tryd.underlying38 (hval 1 38 v1 rfl rfl)) h1
  obtain ⟨a2, w2, z2⟩ := lift.open_row Tryd.underlying37 Tryd.underlying3 cells_int (okWide_slice Tryd.underlying37 (hval 2 37 v2 rfl rfl)) h2
  obtain ⟨a3, w3, z3⟩ := open_grid (okWide_slice Tryd.underlying38 (hval 3 38 v3 rfl rfl)) h3
  clear hA0 hval0
  refine (walk v0 a0 v1 a1 v2 a2 v3 a3 W w0 z0 w1 z1 w2 z2 w3 z3 (tab_of_laid hL)).mono fun e W' ⟨he, hb⟩ => ?_
  subst he
  exact ⟨_, rfl, lift.post_law (tb := 4) laidOut (by rw [Tryd.params7]; exact fun t ht => (of_decide_eq_true (by kernel_rfl) : ∀ t ∈ [37, 38, 37, 38], Tryd.prog.readableRec t = true ∧ t < Tryd.prog.types.size) t ht) (by kernel_rfl) Tryd.underlying4 rfl hW' rfl hb⟩
theorem over : Rows.glyphOnceRow.holds Tryd.pinned (OpenSpec.ofChange Rows.glyphOnceSpec) :=
  OpenClaim.holds_of_wide 7 Tryd.f7 rfl rfl rfl rfl rfl rfl rfl ⟨rfl, rfl, rfl, rfl, rfl⟩ rfl rfl rfl rfl rfl (by kernel_rfl) Tryd.func7 (by kernel_rfl)
    (of_decide_eq_true (by kernel_rfl)) (by unfold Func.isWrapper; first | (rw [if_pos (by decide +kernel)]; kernel_rfl) | (rw [if_neg (by decide +kernel)]; exact ⟨rfl, rfl⟩))
    (fun os started H enc _ => lifted os started H enc)
theorem proved : Rows.GlyphOnceCardSaid :=
  Claim7.holds_tied_plain_at .later [] [.data, .data, .data] true Rows.glyphOnceCard.stood.harness false
    over (fun _ h => by cases h) (by kernel_rfl) (fun _ h => by cases h) glyphOnce_row_tie rfl ⟨rfl, rfl⟩ (by kernel_rfl) (by kernel_rfl)
    (fun f fn hf hfn => by
      obtain rfl : f = 7 := Option.some.inj ((show Tryd.prog.funcNamed Rows.glyphOnceRow.func = some 7 by kernel_rfl).symm.trans hf) |>.symm
      obtain rfl : fn = Tryd.f7 := (Option.some.inj (Tryd.func7.symm.trans hfn)).symm
      exact ⟨by kernel_rfl, fun j t ht => by
        rw [Tryd.params7] at ht
        have hm : t ∈ [37, 38, 37, 38] := by simpa using Array.mem_of_getElem? ht
        have hall : ([37, 38, 37, 38].all fun u => !Tryd.prog.wantsStandIn u) = true := by kernel_rfl
        exact (show Tryd.prog.wantsStandIn t = false by simpa using List.all_eq_true.1 hall t hm)⟩)
    (by kernel_rfl)
end Go.Proofs.YtolampkhohahlaaDoor.glyphOnce
