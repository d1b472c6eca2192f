/- Rows of package glyph's entries: what they look like. -/
import Derived.Test.YtolampkhohahlaaGlyphB
namespace Go.Proofs.Ytolampkhohahlaa.g3
open lift gl
theorem gents_form {w : World} {v : Value} {l : List Ent} (h : GEnts w v l) : ∃ a cap, v = .slice a l.length cap ∧ (0 < l.length → ∃ g o, a = some ⟨g, o, none⟩ ∧ g < w.heap.size ∧
    ∀ (i : Nat) (h : i < l.length), ∃ av, w.cell? ⟨g, o + i * 4, none⟩ = some (.int .i32 l[i].op) ∧ w.cell? ⟨g, o + i * 4 + 1, none⟩ = some av ∧ w.cell? ⟨g, o + i * 4 + 2, none⟩ = some (.bool l[i].ok) ∧
      w.cell? ⟨g, o + i * 4 + 3, none⟩ = some (.int .i64 l[i].at_) ∧ Ints w .u64 av l[i].args) := by
  rcases h with ⟨rfl, a, cap, rfl⟩ | ⟨h0, g, o, cap, rfl, _, _, hg, hc⟩
  · exact ⟨a, cap, rfl, fun h => by simp at h⟩
  · exact ⟨_, cap, rfl, fun _ => ⟨g, o, rfl, hg, hc⟩⟩
end Go.Proofs.Ytolampkhohahlaa.g3
