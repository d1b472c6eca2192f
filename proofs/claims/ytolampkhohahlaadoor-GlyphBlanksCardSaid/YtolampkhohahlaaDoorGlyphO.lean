/- Rows of package glyph's entries: what they look like. -/
import Derived.Test.YtolampkhohahlaaDoorGlyphB
namespace Go.Proofs.YtolampkhohahlaaDoor.g3
open lift gl
theorem gents_form {w : World} {v : Value} {l : List Ent} (h : GEnts w v l) : ∃ a cap, v = .slice a l.length cap ∧ (0 < l.length → ∃ g o, a = some ⟨g, o, none⟩ ∧ g < w.heap.size ∧
    ∀ (i : Nat) (h : i < l.length), ∃ av, w.cell? ⟨g, o + i * 4, none⟩ = some (.int .i32 l[i].op) ∧ w.cell? ⟨g, o + i * 4 + 1, none⟩ = some av ∧ w.cell? ⟨g, o + i * 4 + 2, none⟩ = some (.bool l[i].ok) ∧
      w.cell? ⟨g, o + i * 4 + 3, none⟩ = some (.int .i64 l[i].at_) ∧ Ints w .u64 av l[i].args) := by
  rcases h with ⟨rfl, a, cap, rfl⟩ | ⟨h0, g, o, cap, rfl, _, _, hg, hc⟩
  · exact ⟨a, cap, rfl, fun h => by simp at h⟩
  · exact ⟨_, cap, rfl, fun _ => ⟨g, o, rfl, hg, hc⟩⟩
/-- As GEnts; where the entries stand may be any number. -/
def GLoose (w : World) (v : Value) (l : List Ent) : Prop :=
  (l = [] ∧ ∃ (a : Option Addr) (cap : Nat), v = .slice a 0 cap) ∨
  (0 < l.length ∧ ∃ (g o cap : Nat), v = .slice (some ⟨g, o, none⟩) l.length cap ∧ l.length ≤ cap ∧ cap ≤ maxLen ∧ g < w.heap.size ∧
    ∀ (i : Nat) (h : i < l.length), ∃ av, w.cell? ⟨g, o + i * 4, none⟩ = some (.int .i32 l[i].op) ∧ w.cell? ⟨g, o + i * 4 + 1, none⟩ = some av ∧ w.cell? ⟨g, o + i * 4 + 2, none⟩ = some (.bool l[i].ok) ∧
      (∃ z : Int, w.cell? ⟨g, o + i * 4 + 3, none⟩ = some (.int .i64 z)) ∧ Ints w .u64 av l[i].args)
theorem GEnts.loose {w : World} {v : Value} {l : List Ent} (h : GEnts w v l) : GLoose w v l := by
  rcases h with h | ⟨h0, g, o, cap, h1, h2, h3, h4, h5⟩
  · exact .inl h
  · refine .inr ⟨h0, g, o, cap, h1, h2, h3, h4, fun i hi => ?_⟩
    obtain ⟨av, d0, d1, d2, d3, d4⟩ := h5 i hi
    exact ⟨av, d0, d1, d2, ⟨_, d3⟩, d4⟩
theorem GLoose.below {w w' : World} {v : Value} {l : List Ent} (h : GLoose w v l) (hb : Go.RowKit.Below w.heap.size w w') : GLoose w' v l := by
  rcases h with h | ⟨h0, g, o, cap, h1, h2, h3, h4, h5⟩
  · exact .inl h
  · refine .inr ⟨h0, g, o, cap, h1, h2, h3, Nat.lt_of_lt_of_le h4 hb.size, fun i hi => ?_⟩
    obtain ⟨av, d0, d1, d2, ⟨z, d3⟩, d4⟩ := h5 i hi
    have t : ∀ j, w'.cell? ⟨g, j, none⟩ = w.cell? ⟨g, j, none⟩ := fun j => hb.cell (p := ⟨g, j, none⟩) h4
    exact ⟨av, (t _).trans d0, (t _).trans d1, (t _).trans d2, ⟨z, (t _).trans d3⟩, d4.below hb⟩
theorem gloose_form {w : World} {v : Value} {l : List Ent} (h : GLoose w v l) : ∃ a cap, v = .slice a l.length cap ∧ (0 < l.length → ∃ g o, a = some ⟨g, o, none⟩ ∧ g < w.heap.size ∧
    ∀ (i : Nat) (h : i < l.length), ∃ av, w.cell? ⟨g, o + i * 4, none⟩ = some (.int .i32 l[i].op) ∧ w.cell? ⟨g, o + i * 4 + 1, none⟩ = some av ∧ w.cell? ⟨g, o + i * 4 + 2, none⟩ = some (.bool l[i].ok) ∧
      (∃ z : Int, w.cell? ⟨g, o + i * 4 + 3, none⟩ = some (.int .i64 z)) ∧ Ints w .u64 av l[i].args) := by
  rcases h with ⟨rfl, a, cap, rfl⟩ | ⟨h0, g, o, cap, rfl, _, _, hg, hc⟩
  · exact ⟨a, cap, rfl, fun h => by simp at h⟩
  · exact ⟨_, cap, rfl, fun _ => ⟨g, o, rfl, hg, hc⟩⟩
/-- As REnts; where the entries stand may be any number. -/
def RLoose (w : World) (v : Value) (l : List Ent) : Prop :=
  (l = [] ∧ ∃ (a : Option Addr) (cap : Nat), v = .slice a 0 cap) ∨
  (0 < l.length ∧ ∃ (g o cap : Nat), v = .slice (some ⟨g, o, none⟩) l.length cap ∧ l.length ≤ cap ∧ cap ≤ maxLen ∧ g < w.heap.size ∧
    ∀ (i : Nat) (h : i < l.length), ∃ av, w.cell? ⟨g, o + i * 4, none⟩ = some (.int .i64 l[i].op) ∧ w.cell? ⟨g, o + i * 4 + 1, none⟩ = some av ∧ w.cell? ⟨g, o + i * 4 + 2, none⟩ = some (.bool l[i].ok) ∧
      (∃ z : Int, w.cell? ⟨g, o + i * 4 + 3, none⟩ = some (.int .i64 z)) ∧ Ints w .u64 av l[i].args)
theorem REnts.loose {w : World} {v : Value} {l : List Ent} (h : REnts w v l) : RLoose w v l := by
  rcases h with h | ⟨h0, g, o, cap, h1, h2, h3, h4, h5⟩
  · exact .inl h
  · refine .inr ⟨h0, g, o, cap, h1, h2, h3, h4, fun i hi => ?_⟩
    obtain ⟨av, d0, d1, d2, d3, d4⟩ := h5 i hi
    exact ⟨av, d0, d1, d2, ⟨_, d3⟩, d4⟩
end Go.Proofs.YtolampkhohahlaaDoor.g3
