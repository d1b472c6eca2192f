/- GlyphErrs: one entry that may not be put, whatever stands around it, and nothing is: no condition. -/
import Derived.Test.YtolampkhohahlaaDoorGlyphMd
import Derived.Test.YtolampkhohahlaaDoorGlyphT
import Derived.Test.YtolampkhohahlaaDoorGlyphDoor
import Derived.Deep.Cut
import Derived.Test.YtolampkhohahlaaDoorCards
import Derived.Test.YtolampkhohahlaaDoorTie
import Derived.SevenTiedAt
namespace Go.Proofs.YtolampkhohahlaaDoor.g3
open Go.ChangeShapes Go.WideShapes Go.ChangeAt Go.RowKit frame lift gl own
set_option linter.unusedVariables false
theorem flatMapG_set (ps : List (Value × Ent)) (i f : Nat) (u : Value) (p' : Value × Ent) (hi : i < ps.length) (hf : f < 4) (hp : (encG ps[i]).set f u = encG p') : (ps.flatMap encG).set (i * 4 + f) u = (ps.set i p').flatMap encG := by
  induction ps generalizing i with
  | nil => simp at hi
  | cons p l ih =>
    cases i with
    | zero =>
      rw [List.flatMap_cons, Nat.zero_mul, Nat.zero_add, List.set_append_left _ _ (by rw [encG_len]; omega)]
      have : (encG p).set f u = encG p' := hp
      rw [this]
      rfl
    | succ i =>
      rw [List.flatMap_cons, List.set_append_right _ _ (by rw [encG_len]; omega), encG_len, show (i + 1) * 4 + f - 4 = i * 4 + f by omega, ih i (by simpa using hi) hp]
      rfl
/-- A cell of entry i is written. -/
theorem GRowW.set {W0 w : World} {B g n cap : Nat} {l : List Ent} (h : GRowW W0 w B (.slice (some ⟨g, 0, none⟩) n cap) l) (i f : Nat) (hi : i < l.length) (hf : f < 4) (u old : Value) (e' : Ent)
    (hold : ∀ av, (encG (av, l[i]))[f]? = some old) (hu : ∀ av, (encG (av, l[i])).set f u = encG (av, e')) (ha : e'.args = l[i].args) :
    (w.cell? ⟨g, i * 4 + f, none⟩ = some old ∧ w.frozen? ⟨g, i * 4 + f, none⟩ = false) ∧ GRowW W0 (w.setCell ⟨g, i * 4 + f, none⟩ u) B (.slice (some ⟨g, 0, none⟩) n cap) (l.set i e') := by
  obtain ⟨ps, rfl, h1, h2⟩ := h
  have hi' : i < ps.length := by simpa using hi
  have hgi : (ps.map (·.2))[i] = ps[i].2 := by simp
  rw [hgi] at hold hu ha
  obtain ⟨a, c, hv⟩ : ∃ a c, Value.slice (some ⟨g, 0, none⟩) n cap = .slice a ps.length c := by
    rcases h1.2 with ⟨h3, _⟩ | ⟨g', c', _, h3, _⟩
    · simp at h3
    · exact ⟨_, _, h3⟩
  simp only [Value.slice.injEq] at hv
  obtain ⟨_, rfl, _⟩ := hv
  obtain ⟨cur, hblk⟩ := ownsRow_elem h1 rfl
  have hc : w.cell? ⟨g, i * 4 + f, none⟩ = some old := by
    have h3 := h1.cells (g := g) rfl (i * 4 + f) old (by rw [flatMapG_at ps i f hi' hf]; exact hold ps[i].1)
    rw [add_plain] at h3
    simpa using h3
  refine ⟨⟨hc, frozen_of_row w g _ _ _ hblk⟩, ps.set i (ps[i].1, e'), ?_, ?_, ?_⟩
  · rw [List.map_set]
  · have := (h1.stored (i * 4 + f) u).1
    rw [flatMapG_set ps i f u (ps[i].1, e') hi' hf (hu ps[i].1)] at this
    simpa using this
  · intro q hq
    rcases List.mem_or_eq_of_mem_set hq with hq | rfl
    · exact h2 q hq
    · show Ints W0 .u64 ps[i].1 e'.args
      rw [ha]
      exact h2 ps[i] (List.getElem_mem hi')
theorem GRowW.form {W0 w : World} {B : Nat} {v : Value} {l : List Ent} (h : GRowW W0 w B v l) : ∃ a cap, v = .slice a l.length cap ∧ (0 < l.length → ∃ g, a = some ⟨g, 0, none⟩ ∧ B ≤ g ∧ g < w.heap.size) := by
  obtain ⟨ps, rfl, h1, h2⟩ := h
  obtain ⟨h3, ⟨rfl, h4⟩ | ⟨g, cap, cur, rfl, hg, hh, r⟩⟩ := h1
  · exact ⟨none, 0, by simp [h4], fun h => by simp at h; omega⟩
  · exact ⟨_, cap, by simp, fun _ => ⟨g, rfl, hg, (Array.getElem?_eq_some_iff.1 hh).1⟩⟩
def badL : List Int := [32, 9, 10, 48, 57, 44, 65533, -1, 55296, 57343, 1114112]
theorem lit_bad (w : World) (p : Nat) (hp : p < 11) : (w.alloc (Obj.cells (badL.map (Value.int .i32)).toArray 21)).cell? ⟨w.heap.size, p, none⟩ = some (.int .i32 (badL.getD p 0)) := by
  rw [cell_of_row _ _ p _ _ _ (heap_alloc_new w _)]
  have hl : p < badL.length := hp
  simp [List.getD, hl]
theorem badL_bad (p : Nat) (hp : p < 11) : ∀ e : Ent, e.op = badL.getD p 0 → bad e = true := by
  intro e he
  have : p = 0 ∨ p = 1 ∨ p = 2 ∨ p = 3 ∨ p = 4 ∨ p = 5 ∨ p = 6 ∨ p = 7 ∨ p = 8 ∨ p = 9 ∨ p = 10 := by omega
  unfold bad
  rw [he]
  rcases this with rfl | rfl | rfl | rfl | rfl | rfl | rfl | rfl | rfl | rfl | rfl <;> cases e.ok <;> rfl
theorem madeL_ok (ops : List Int) (args : List (List Int)) (hl : ops.length ≤ 1000) (ha : ∀ l ∈ args, l.length ≤ 1000 ∧ ∀ n ∈ l, U64 n) : PutOk (madeL ops args) := by
  refine ⟨by rw [madeL_len]; exact hl, fun e he => ?_⟩
  unfold madeL at he
  obtain ⟨i, _, rfl⟩ := List.mem_map.1 he
  show (args.getD i []).length ≤ 1000 ∧ ∀ n ∈ args.getD i [], U64 n
  by_cases hi : i < args.length
  · have e : args.getD i [] = args[i] := by simp [List.getD, hi]
    rw [e]
    exact ha _ (List.getElem_mem hi)
  · have e : args.getD i [] = [] := by simp [List.getD, hi]
    rw [e]
    simp
theorem PutOk.set {l : List Ent} (h : PutOk l) (i : Nat) (hi : i < l.length) (e : Ent) (he : e.args = l[i].args) : PutOk (l.set i e) := by
  refine ⟨by rw [List.length_set]; exact h.len, fun f hf => ?_⟩
  rcases List.mem_or_eq_of_mem_set hf with hf | rfl
  · exact h.args f hf
  · rw [he]
    exact h.args _ (List.getElem_mem hi)
/-- Of entries one of which may not be put, nothing is. -/
theorem put_bad {w w' : World} {l : List Ent} {e : Ending} (h : PutPost w l e w') (hb : ∃ x ∈ l, bad x = true) : e = .returned (.tuple #[.string ⟨#[]⟩, .int .i64 1]) := by
  rcases h.2 with ⟨_, h⟩ | ⟨h, _⟩
  · exact h
  · obtain ⟨x, hx, hb⟩ := hb
    rw [h x hx] at hb
    cases hb
end Go.Proofs.YtolampkhohahlaaDoor.g3
namespace Go.Proofs.YtolampkhohahlaaDoor.glyphErrs
open Go.ChangeShapes Go.WideShapes Go.ChangeAt Go.RowKit frame lift gl own g3
set_option linter.unusedVariables false
set_option maxRecDepth 100000 in
set_option maxHeartbeats 8000000 in
theorem walk (v0 : Value) (ops : List Int) (at_ what : Int) (f1 : (Lit.int .i64 at_).wf = true) (f2 : (Lit.int .i64 what).wf = true) (w : World) (f0 : Ints w .i64 v0 ops) (z0 : Fit .i64 ops) (hT : Tab w) :
    Calls Tryd.prog 6 #[v0, .int .i64 at_, .int .i64 what] w fun e w' => e = .returned (.bool true) ∧ Below w.heap.size w w' := by
  have h1 : I64 at_ := bd_i64 f1
  have h2 : I64 what := bd_i64 f2
  have HI : Hid (∀ c ∈ ops, I64 c) := fun c hc => bd_i64 (z0 c hc)
  clear f1 f2 z0
  have HT := Lib.hid hT; have HS := Lib.hid f0
  clear hT
  by_cases hbig : 50 < ops.length
  · obtain ⟨a, cap, rfl, _⟩ := ints64_form f0
    clear f0
    go_enter Tryd.func6, Tryd.ntmps6
    go_wp2_with fail
    refine (shown_any w).mono ?_
    rintro e w1 ⟨rfl, hb1⟩
    go_wp2_with fail
    go_ret
    exact ⟨rfl, hb1⟩
  · by_cases h0 : ops = []
    · subst h0
      obtain ⟨a, cap, rfl, _⟩ := ints64_form f0
      clear f0
      go_enter Tryd.func6, Tryd.ntmps6
      go_wp2_with fail
      refine (shown_any w).mono ?_
      rintro e w1 ⟨rfl, hb1⟩
      go_wp2_with fail
      go_ret
      exact ⟨rfl, hb1⟩
    · have hl0 : 0 < ops.length := List.length_pos_iff.2 h0
      have hne : ((ops.length : Int) == 0) = false := by rw [beq_eq_false_iff_ne]; omega
      have hne2 : (ops.length == 0) = false := by rw [beq_eq_false_iff_ne]; omega
      obtain ⟨a, cap, rfl, _⟩ := ints64_form f0
      obtain ⟨k, hk⟩ : ∃ k : Nat, pickI at_ ops.length = k := ⟨(pickI at_ ops.length).toNat, by have := pickI_bd at_ ops.length (by omega); omega⟩
      have hkl : k < ops.length := by have := pickI_bd at_ ops.length (by omega); omega
      obtain ⟨p, hp⟩ : ∃ p : Nat, pickI what 12 = p := ⟨(pickI what 12).toNat, by have := pickI_bd what 12 (by decide); omega⟩
      have hpl : p < 12 := by have := pickI_bd what 12 (by decide); omega
      have HK := Lib.hid hk; have HP := Lib.hid hp
      clear f0 h0 hk hp
      go_enter Tryd.func6, Tryd.ntmps6
      go_wp2_with fail
      refine (shown_any w).mono ?_
      rintro e w1 ⟨rfl, hb1⟩
      go_wp2_with fail
      refine (made_any (args := []) w1 (HS.out.below hb1) (.inl ⟨rfl, _, _, rfl⟩) HI.out (by omega) (by simp)).mono ?_
      rintro e w2 ⟨v, rfl, hG, hb2⟩
      have hml := madeL_len ops []
      obtain ⟨g', cap', rfl, hg⟩ := hG.form
      obtain ⟨g, rfl, hg1, hg2⟩ := hg (by rw [hml]; exact hl0)
      have hlk : k < (madeL ops []).length := by rw [hml]; exact hkl
      have HOK := Lib.hid (madeL_ok ops [] (by omega) (fun l hl => by simp at hl))
      obtain ⟨l, hl⟩ : ∃ l, madeL ops [] = l := ⟨_, rfl⟩
      rw [hl] at hG hml hlk HOK
      rw [hl, hml]
      rw [hml] at hG
      have HG := Lib.hid hG
      have HB2 := Lib.hid hb2
      have hbw2 := hb1.trans (hb2.mono hb1.size)
      have hsz1 := hb1.size
      have HML := Lib.hid hml
      clear hG hb2 hl hml
      go_wp2_with fail
      refine (pick_any at_ ops.length h1 (by omega) (by omega) w2).mono ?_
      rintro e w3 ⟨he, rfl⟩
      rw [HK.out] at he
      subst he
      go_wp2_with fail
      refine (pick_any what 12 h2 (by decide) (by decide) _).mono ?_
      rintro e w3 ⟨he, rfl⟩
      rw [HP.out] at he
      subst he
      have hk1 : (0 : Int) ≤ (k : Int) := by omega
      have hk2 : (k : Int) < (ops.length : Int) := by omega
      by_cases hp11 : p < 11
      · have hpi : (p : Int) < 11 := by omega
        have hpi0 : (0 : Int) ≤ (p : Int) := by omega
        have clit : (w2.alloc (Obj.cells #[.int .i32 32, .int .i32 9, .int .i32 10, .int .i32 48, .int .i32 57, .int .i32 44, .int .i32 65533, .int .i32 (-1), .int .i32 55296, .int .i32 57343, .int .i32 1114112] 21)).cell? ⟨w2.heap.size, p, none⟩ = some (.int .i32 (badL.getD p 0)) := lit_bad w2 p hp11
        obtain ⟨⟨c0, f0⟩, hset⟩ := HG.out.set k 0 hlk (by decide) (.int .i32 (badL.getD p 0)) (.int .i32 l[k].op) { l[k] with op := badL.getD p 0 } (fun av => rfl) (fun av => rfl) rfl
        rw [Nat.add_zero] at c0 f0 hset
        have c0a : ∀ ob, (w2.alloc ob).cell? ⟨g, k * 4, none⟩ = some (.int .i32 l[k].op) := fun ob => (((Below.refl w2.heap.size w2).alloc (Nat.le_refl _) ob).cell (p := ⟨g, k * 4, none⟩) hg2).trans c0
        have f0a : ∀ ob, (w2.alloc ob).frozen? ⟨g, k * 4, none⟩ = false := fun ob => (((Below.refl w2.heap.size w2).alloc (Nat.le_refl _) ob).frozen (p := ⟨g, k * 4, none⟩) hg2).trans f0
        have HB : Hid (∃ x ∈ l.set k { l[k] with op := badL.getD p 0 }, bad x = true) := ⟨{ l[k] with op := badL.getD p 0 }, List.mem_set hlk _, badL_bad p hp11 _ rfl⟩
        have HOK2 := Lib.hid (HOK.out.set k hlk { l[k] with op := badL.getD p 0 } rfl)
        obtain ⟨r, hr⟩ : ∃ r, badL.getD p 0 = r := ⟨_, rfl⟩
        rw [hr] at clit hset HB HOK2
        have HSET := Lib.hid hset
        have hb3 : Below w.heap.size w ((w2.setCell ⟨g, k * 4, none⟩ (.int .i32 r)).alloc (Obj.cells #[.int .i32 32, .int .i32 9, .int .i32 10, .int .i32 48, .int .i32 57, .int .i32 44, .int .i32 65533, .int .i32 (-1), .int .i32 55296, .int .i32 57343, .int .i32 1114112] 21)) := (hbw2.setCell (p := ⟨g, k * 4, none⟩) (show w.heap.size ≤ g by omega) _).alloc (by have := hbw2.size; simp [World.setCell]; omega) _
        have HB3 := Lib.hid hb3
        have hb13 : Below w1.heap.size w1 ((w2.setCell ⟨g, k * 4, none⟩ (.int .i32 r)).alloc (Obj.cells #[.int .i32 32, .int .i32 9, .int .i32 10, .int .i32 48, .int .i32 57, .int .i32 44, .int .i32 65533, .int .i32 (-1), .int .i32 55296, .int .i32 57343, .int .i32 1114112] 21)) := (HB2.out.setCell (p := ⟨g, k * 4, none⟩) (show w1.heap.size ≤ g by omega) _).alloc (by have := HB2.out.size; simp [World.setCell]; omega) _
        have HE := Lib.hid ((hset.below ((Below.refl _ _).alloc (Nat.le_refl _) (Obj.cells #[.int .i32 32, .int .i32 9, .int .i32 10, .int .i32 48, .int .i32 57, .int .i32 44, .int .i32 65533, .int .i32 (-1), .int .i32 55296, .int .i32 57343, .int .i32 1114112] 21))).reads hb13)
        clear hset hb3 hb13 hr
        go_wp2_with fail
        refine (gput_any _ (HT.out.below HB3.out) HE.out.loose HOK2.out).mono ?_
        rintro e w4 hpp
        obtain rfl := put_bad hpp HB.out
        have hbw4 := HB3.out.trans (hpp.1.mono HB3.out.size)
        clear hpp
        go_wp2_with fail
        go_ret
        exact ⟨rfl, hbw4⟩
      · obtain rfl : p = 11 := by omega
        obtain ⟨⟨c0, f0⟩, hset⟩ := HG.out.set k 2 hlk (by decide) (.bool false) (.bool l[k].ok) { l[k] with ok := false } (fun av => rfl) (fun av => rfl) rfl
        have c0a : ∀ ob, (w2.alloc ob).cell? ⟨g, k * 4 + 2, none⟩ = some (.bool l[k].ok) := fun ob => (((Below.refl w2.heap.size w2).alloc (Nat.le_refl _) ob).cell (p := ⟨g, k * 4 + 2, none⟩) hg2).trans c0
        have f0a : ∀ ob, (w2.alloc ob).frozen? ⟨g, k * 4 + 2, none⟩ = false := fun ob => (((Below.refl w2.heap.size w2).alloc (Nat.le_refl _) ob).frozen (p := ⟨g, k * 4 + 2, none⟩) hg2).trans f0
        have HB : Hid (∃ x ∈ l.set k { l[k] with ok := false }, bad x = true) := ⟨{ l[k] with ok := false }, List.mem_set hlk _, by unfold bad; rfl⟩
        have HOK2 := Lib.hid (HOK.out.set k hlk { l[k] with ok := false } rfl)
        have HSET := Lib.hid hset
        have hb3 : Below w.heap.size w ((w2.setCell ⟨g, k * 4 + 2, none⟩ (.bool false)).alloc (Obj.cells #[.int .i32 32, .int .i32 9, .int .i32 10, .int .i32 48, .int .i32 57, .int .i32 44, .int .i32 65533, .int .i32 (-1), .int .i32 55296, .int .i32 57343, .int .i32 1114112] 21)) := (hbw2.setCell (p := ⟨g, k * 4 + 2, none⟩) (show w.heap.size ≤ g by omega) _).alloc (by have := hbw2.size; simp [World.setCell]; omega) _
        have HB3 := Lib.hid hb3
        have hb13 : Below w1.heap.size w1 ((w2.setCell ⟨g, k * 4 + 2, none⟩ (.bool false)).alloc (Obj.cells #[.int .i32 32, .int .i32 9, .int .i32 10, .int .i32 48, .int .i32 57, .int .i32 44, .int .i32 65533, .int .i32 (-1), .int .i32 55296, .int .i32 57343, .int .i32 1114112] 21)) := (HB2.out.setCell (p := ⟨g, k * 4 + 2, none⟩) (show w1.heap.size ≤ g by omega) _).alloc (by have := HB2.out.size; simp [World.setCell]; omega) _
        have HE := Lib.hid ((hset.below ((Below.refl _ _).alloc (Nat.le_refl _) (Obj.cells #[.int .i32 32, .int .i32 9, .int .i32 10, .int .i32 48, .int .i32 57, .int .i32 44, .int .i32 65533, .int .i32 (-1), .int .i32 55296, .int .i32 57343, .int .i32 1114112] 21))).reads hb13)
        clear hset hb3 hb13
        go_wp2_with fail
        refine (gput_any _ (HT.out.below HB3.out) HE.out.loose HOK2.out).mono ?_
        rintro e w4 hpp
        obtain rfl := put_bad hpp HB.out
        have hbw4 := HB3.out.trans (hpp.1.mono HB3.out.size)
        clear hpp
        go_wp2_with fail
        go_ret
        exact ⟨rfl, hbw4⟩
theorem own : ownKnob Tryd.prog.godebug = none := by kernel_rfl
theorem laidOut : laidOutB Tryd.prog = true := by kernel_rfl
theorem cells_int : Tryd.prog.cellsOf 3 = 1 := by kernel_rfl
set_option maxRecDepth 100000 in
theorem lifted (os : Os) (started : os.Started) (H : Type) (enc : TypeId × Value → H) :
    ReturnsInHanded {} Tryd.checked os 6 .any (fun w args => (Rows.glyphErrsSpec.pre enc Tryd.prog Tryd.f6 [] false w args ∧ laidMetH Tryd.prog laidL w) ∧ sizedMet enc Tryd.prog Tryd.f6 (OpenSpec.ofChange Rows.glyphErrsSpec) false w args) (Rows.glyphErrsSpec.post enc Tryd.prog Tryd.f6 false true false false) := by
  refine returnsInHanded_of_change_and (C := Tryd.checked) (X := fun w _ => laidMetH Tryd.prog laidL w) (fun _ _ _ hh h => h.of_heap hh) own started (by kernel_rfl) Tryd.func6
    (ChangeSpec.witness_shaped (enc := enc) (C := Tryd.checked) (os := os) (X := fun w _ => laidMetH Tryd.prog laidL w) false (World.doorLaid Tryd.prog 400 os) #[.slice none 0 0, .int .i64 0, .int .i64 0] 8 rfl (World.shaped_of_RefB (by kernel_rfl) (by kernel_rfl)) (by kernel_rfl) (by kernel_rfl) (by kernel_rfl) (door_met os _)) ?_
  intro W base args ds gs before hval0 hW hcnd hsz0 hL _
  have hsz : (DataW.weightsEach Tryd.prog (Tryd.f6.params.toList ++ Rows.glyphErrsSpec.plain.varTypes Tryd.prog) (ds ++ gs)).all (· ≤ reachBytes) = true := hsz0
  clear hsz0
  have hval : ∀ (j : Nat) t v, Tryd.f6.params[j]? = some t → args[j]? = some v → Value.okWide Tryd.prog W .any base t v := hval0
  have hW' := hW
  obtain ⟨p, q, hA0, hV, rfl, hfz, hnd⟩ := hW
  have hA : DataW.TrodAll enc Tryd.prog W 0 (fun _ => true) true Tryd.f6.params.toList args.toList ds p := hA0
  rw [Tryd.params6] at hA hval hsz
  obtain ⟨v0, vs0, d0, ds0, p0, q0, hargs, rfl, rfl, h0, r0⟩ := trodAll_cons hA
  obtain ⟨v1, vs1, d1, ds1, p1, q1, rfl, rfl, rfl, h1, r1⟩ := trodAll_cons r0
  obtain ⟨v2, vs2, d2, ds2, p2, q2, rfl, rfl, rfl, h2, r2⟩ := trodAll_cons r1
  obtain ⟨rfl, rfl, rfl⟩ := trodAll_nil r2
  obtain rfl : args = #[v0, v1, v2] := by cases args; simp_all
  obtain ⟨rfl, rfl⟩ := trodVars_none hV
  obtain ⟨a0, w0, z0⟩ := lift.open_row Tryd.underlying37 Tryd.underlying3 cells_int (okWide_slice Tryd.underlying37 (hval 0 37 v0 rfl rfl)) h0
  obtain ⟨a1, rfl, rfl, rfl, w1⟩ := open_int Tryd.underlying3 (hval 1 3 v1 rfl rfl) h1
  obtain ⟨a2, rfl, rfl, rfl, w2⟩ := open_int Tryd.underlying3 (hval 2 3 v2 rfl rfl) h2
  clear hA0 hval0
  refine (walk v0 a0 a1 a2 w1 w2 W w0 z0 (tab_of_laid hL)).mono fun e W' ⟨he, hb⟩ => ?_
  subst he
  exact ⟨_, rfl, lift.post_law (tb := 4) laidOut (by rw [Tryd.params6]; exact fun t ht => (of_decide_eq_true (by kernel_rfl) : ∀ t ∈ [37, 3, 3], Tryd.prog.readableRec t = true ∧ t < Tryd.prog.types.size) t ht) (by kernel_rfl) Tryd.underlying4 rfl hW' rfl hb⟩
theorem over : Rows.glyphErrsRow.holds Tryd.pinned (OpenSpec.ofChange Rows.glyphErrsSpec) :=
  OpenClaim.holds_of_wide 6 Tryd.f6 rfl rfl rfl rfl rfl rfl rfl ⟨rfl, rfl, rfl, rfl, rfl⟩ rfl rfl rfl rfl rfl (by kernel_rfl) Tryd.func6 (by kernel_rfl)
    (of_decide_eq_true (by kernel_rfl)) (by unfold Func.isWrapper; first | (rw [if_pos (by decide +kernel)]; kernel_rfl) | (rw [if_neg (by decide +kernel)]; exact ⟨rfl, rfl⟩))
    (fun os started H enc _ => lifted os started H enc)
theorem proved : Rows.GlyphErrsCardSaid :=
  Claim7.holds_tied_plain_at .later [] [.data, .data, .data] true Rows.glyphErrsCard.stood.harness false
    over (fun _ h => by cases h) (by kernel_rfl) (fun _ h => by cases h) glyphErrs_row_tie rfl ⟨rfl, rfl⟩ (by kernel_rfl) (by kernel_rfl)
    (fun f fn hf hfn => by
      obtain rfl : f = 6 := Option.some.inj ((show Tryd.prog.funcNamed Rows.glyphErrsRow.func = some 6 by kernel_rfl).symm.trans hf) |>.symm
      obtain rfl : fn = Tryd.f6 := (Option.some.inj (Tryd.func6.symm.trans hfn)).symm
      exact ⟨by kernel_rfl, fun j t ht => by
        rw [Tryd.params6] at ht
        have hm : t ∈ [37, 3, 3] := by simpa using Array.mem_of_getElem? ht
        have hall : ([37, 3, 3].all fun u => !Tryd.prog.wantsStandIn u) = true := by kernel_rfl
        exact (show Tryd.prog.wantsStandIn t = false by simpa using List.all_eq_true.1 hall t hm)⟩)
    (by kernel_rfl)
end Go.Proofs.YtolampkhohahlaaDoor.glyphErrs
