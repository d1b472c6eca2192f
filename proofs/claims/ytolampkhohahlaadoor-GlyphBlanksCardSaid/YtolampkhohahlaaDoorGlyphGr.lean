/- What the three laws over made entries share: the parameters, the entries, what is put and parsed of them; over this seat's program. -/
import Derived.Test.YtolampkhohahlaaDoorGlyphBk
import Derived.Test.YtolampkhohahlaaDoorGlyphErrs
import Derived.Test.YtolampkhohahlaaDoorGlyphOp
namespace Go.Proofs.YtolampkhohahlaaDoor.g3
open Go.ChangeShapes Go.WideShapes Go.ChangeAt Go.RowKit frame lift gl own
set_option linter.unusedVariables false
def GridOk (ls : List (List Int)) : Prop := ∀ l ∈ ls, ∀ n ∈ l, U64 n
theorem cells_row : Tryd.prog.cellsOf 24 = 1 := by kernel_rfl
theorem cells_u64 : Tryd.prog.cellsOf 47 = 1 := by kernel_rfl
theorem open_grid {H : Type} {enc : TypeId × Value → H} {W : World} {v : Value} {d : DataW H} {p : List MemPlace} (hv : ∃ a len cap, v = .slice a len cap) (h : DataW.Trod enc Tryd.prog W 0 (fun _ => true) true 38 v d p) : ∃ ls, IntRows W v ls ∧ GridOk ls := by
  obtain ⟨ls, h1, h2⟩ := open_int_rows' (k := .u64) Tryd.underlying38 Tryd.underlying24 Tryd.underlying47 cells_row cells_u64 hv h
  refine ⟨ls, h1, fun l hl n hn => ?_⟩
  have := h2 l hl n hn
  simpa [U64, Lit.wf, IntKind.min, IntKind.max, IntKind.signed, IntKind.bits] using this
theorem opOf_good (c : Int) : Uni (opOf c) ∧ opOf c ≠ 65533 ∧ gl.blank (opOf c) = false ∧ numb (opOf c) = false := by
  obtain ⟨p, hp, hp12⟩ : ∃ p : Nat, (pickI c 12).toNat = p ∧ p < 12 := ⟨_, rfl, by have := pickI_bd c 12 (by decide); omega⟩
  have : p = 0 ∨ p = 1 ∨ p = 2 ∨ p = 3 ∨ p = 4 ∨ p = 5 ∨ p = 6 ∨ p = 7 ∨ p = 8 ∨ p = 9 ∨ p = 10 ∨ p = 11 := by omega
  unfold opOf
  rw [hp]
  rcases this with rfl | rfl | rfl | rfl | rfl | rfl | rfl | rfl | rfl | rfl | rfl | rfl <;> exact ⟨⟨by decide, by decide, by decide⟩, by decide, by decide, by decide⟩
theorem made_good (ops : List Int) (args : List (List Int)) (hU : GridOk args) : ∀ e ∈ madeL ops args, gl.Good e := by
  intro e he
  unfold madeL at he
  obtain ⟨i, _, rfl⟩ := List.mem_map.1 he
  obtain ⟨h1, h2, h3, h4⟩ := opOf_good (nth ops i)
  refine ⟨rfl, h1, h2, h3, h4, ?_⟩
  show ∀ n ∈ args.getD i [], U64 n
  by_cases hi : i < args.length
  · have e : args.getD i [] = args[i] := by simp [List.getD, hi]
    rw [e]
    exact hU _ (List.getElem_mem hi)
  · have e : args.getD i [] = [] := by simp [List.getD, hi]
    rw [e]
    simp
theorem made_args (ops : List Int) (args : List (List Int)) (n : Nat) (h : ∀ l ∈ args, l.length ≤ n) : ∀ e ∈ madeL ops args, e.args.length ≤ n := by
  intro e he
  unfold madeL at he
  obtain ⟨i, _, rfl⟩ := List.mem_map.1 he
  show (args.getD i []).length ≤ n
  by_cases hi : i < args.length
  · have e : args.getD i [] = args[i] := by simp [List.getD, hi]
    rw [e]
    exact h _ (List.getElem_mem hi)
  · have e : args.getD i [] = [] := by simp [List.getD, hi]
    rw [e]
    simp
/-- Of good entries the text is put. -/
theorem put_good {w w' : World} {l : List Ent} {e : Ending} (h : PutPost w l e w') (hg : ∀ x ∈ l, gl.Good x) : ∃ t, e = .returned (.tuple #[.string t, .int .i64 0]) ∧ bytes t = put l := by
  rcases h.2 with ⟨⟨x, hx, hb⟩, _⟩ | ⟨_, t, h1, h2⟩
  · rw [good_bad (hg x hx)] at hb
    cases hb
  · exact ⟨t, h1, h2⟩
theorem same_stands (ps : List (Ent × Bs)) : ∀ a, same (stands a ps) (ps.map (·.1)) false = true := by
  induction ps with
  | nil => intro a; rfl
  | cons p ps ih =>
    intro a
    rw [stands, List.map_cons, same, ih]
    unfold sameE
    simp
theorem same_put (l : List Ent) (hl : ∀ e ∈ l, gl.Good e) : same (parse (put l)) l false = true := by
  have h := same_stands (l.map fun e => (e, ([] : Bs))) 0
  rw [List.map_map] at h
  have e : l.map ((fun p : Ent × Bs => p.1) ∘ fun e => (e, ([] : Bs))) = l := by simp [Function.comp_def]
  rw [e, ← parse_put l hl] at h
  exact h
/-- One entry of a row, as a row. -/
theorem GEnts.one {w : World} {g n cap : Nat} {l : List Ent} (h : GEnts w (.slice (some ⟨g, 0, none⟩) n cap) l) (i : Nat) (hi : i < l.length) (c : Nat) (hc : 1 ≤ c) (hm : c ≤ maxLen) : GEnts w (.slice (some ⟨g, i * 4, none⟩) 1 c) [l[i]] := by
  rcases h with ⟨rfl, _⟩ | ⟨h0, g', o', cap', hv, h1, h2, h3, h4⟩
  · simp at hi
  · simp only [Value.slice.injEq, Option.some.injEq, Addr.mk.injEq, and_true] at hv
    obtain ⟨⟨rfl, rfl⟩, rfl, rfl⟩ := hv
    refine .inr ⟨by simp, g, i * 4, c, rfl, hc, hm, h3, fun j hj => ?_⟩
    simp at hj
    subst hj
    obtain ⟨av, d0, d1, d2, d3, d4⟩ := h4 i hi
    rw [Nat.zero_add] at d0 d1 d2 d3
    exact ⟨av, by simpa using d0, by simpa using d1, by simpa using d2, by simpa using d3, d4⟩
theorem gents_cap {w : World} {a : Option Addr} {n cap : Nat} {l : List Ent} (h : GEnts w (.slice a n cap) l) (h0 : 0 < l.length) : n ≤ cap ∧ cap ≤ maxLen := by
  rcases h with ⟨rfl, _⟩ | ⟨h0, g', o', cap', hv, h1, h2, h3, h4⟩
  · simp at h0
  · simp only [Value.slice.injEq] at hv
    obtain ⟨rfl, rfl, rfl⟩ := hv
    exact ⟨h1, h2⟩
end Go.Proofs.YtolampkhohahlaaDoor.g3
