/- A row of whole numbers as a block that is written out: made, read, stored into, handed out. Nothing here speaks of the program. -/
import Derived.Test.YtcacahokdnpboaaKept
import Derived.Deep.OwnRows
namespace Go.Proofs.Ytcacahokdnpboaa.own
open Go.ChangeShapes Go.WideShapes Go.ChangeAt Go.RowKit lift
def rowA (k : IntKind) (l : List Int) : Array Value := (l.map (Value.int k)).toArray
theorem rowA_size (k : IntKind) (l : List Int) : (rowA k l).size = l.length := by simp [rowA]
theorem rowA_made (k : IntKind) (n : Nat) : madeCells #[Value.int k 0] n = rowA k (List.replicate n 0) := by
  apply Array.ext'
  rw [toList_madeCells_one]
  simp [rowA]
theorem rowA_at (k : IntKind) {l : List Int} {m : Nat} (h : m < l.length) : (rowA k l)[m]? = some (.int k (nth l m)) := by simp [rowA, nth, List.getD, h]
theorem rowA_set (k : IntKind) (l : List Int) (m : Nat) (x : Int) : (rowA k l).setIfInBounds m (.int k x) = rowA k (l.set m x) := by simp [rowA, List.map_set]
theorem rowA_own {w : World} {B g : Nat} {e : TypeId} {k : IntKind} {l : List Int} (h : w.heap[g]? = some (.cells (rowA k l) e (0, 0))) (hB : B ≤ g) (hn : l.length ≤ maxLen) : Own w B e k (.slice (some ⟨g, 0, none⟩) l.length l.length) l :=
  ⟨by simp, .inr ⟨g, l.length, rowA k l, rfl, hB, h, Nat.le_refl _, hn, by simp [rowA], by simp [rowA, List.take_of_length_le]⟩⟩
/-- One of its cells is written. -/
theorem rowA_store {w : World} {g : Nat} {e : TypeId} {k : IntKind} {l : List Int} (h : w.heap[g]? = some (.cells (rowA k l) e (0, 0))) (m : Nat) (x : Int) : (w.setCell ⟨g, m, none⟩ (.int k x)).heap[g]? = some (.cells (rowA k (l.set m x)) e (0, 0)) := by
  have h1 := heap_setCell_same w g m _ _ (.int k x) h
  rw [rowA_set] at h1
  exact h1
theorem rowA_cell {w : World} {g : Nat} {e : TypeId} {k : IntKind} {l : List Int} (h : w.heap[g]? = some (.cells (rowA k l) e (0, 0))) {m : Nat} (hm : m < l.length) : w.cell? ⟨g, m, none⟩ = some (.int k (nth l m)) := (cell_of_row w g m _ _ _ h).trans (rowA_at k hm)
theorem rowA_froz {w : World} {g : Nat} {e : TypeId} {k : IntKind} {l : List Int} (h : w.heap[g]? = some (.cells (rowA k l) e (0, 0))) (m : Nat) : w.frozen? ⟨g, m, none⟩ = false := frozen_of_row w g m _ _ h
end Go.Proofs.Ytcacahokdnpboaa.own
