/- Rows of structs that a loop fills, one struct a round. Nothing here speaks of the program. -/
import Derived.Test.YtolampkhohahlaaDoorSep
import Derived.Laws.CopyOwn
import Derived.Deep.MidRow
import Derived.Laws.IdiomCopy
namespace Go.Proofs.YtolampkhohahlaaDoor.rows
open Go.ChangeShapes Go.WideShapes Go.ChangeAt Go.RowKit frame

theorem splice_cons {α : Type} (l : List α) (o : Nat) (v : α) (r : List α) (h : o + (r.length + 1) ≤ l.length) : splice (l.set o v) (o + 1) r = splice l o (v :: r) := by
  unfold splice
  have ho : o < l.length := by omega
  have e : (l.set o v).take (o + 1) = l.take o ++ [v] := by
    rw [List.take_succ_eq_append_getElem (by simpa using ho), List.take_set_of_le (Nat.le_refl _)]
    simp
  have hd : (l.set o v).drop (o + 1 + r.length) = l.drop (o + 1 + r.length) := List.drop_set_of_lt (by omega)
  rw [e, hd]
  simp [Nat.add_assoc, Nat.add_comm 1]
theorem splice_mid {α : Type} (X Y Z V : List α) (k : Nat) (hk : X.length = k) (hv : V.length = Y.length) : splice (X ++ (Y ++ Z)) k V = X ++ (V ++ Z) := by
  unfold splice
  subst hk
  rw [List.take_left, List.drop_append, hv]
  simp
theorem heap_setCells {g : Nat} {t : TypeId} : ∀ (vs : List Value) (o : Nat) (w : World) (l : List Value), w.heap[g]? = some (.cells l.toArray t (0, 0)) → o + vs.length ≤ l.length →
    (w.setCells g o vs).heap[g]? = some (.cells (splice l o vs).toArray t (0, 0))
  | [], o, w, l, h, _ => by simpa [World.setCells, splice] using h
  | v :: r, o, w, l, h, hl => by
    rw [World.setCells]
    have h1 := heap_setCell_same w g o _ t v h
    have h2 := heap_setCells r (o + 1) (w.setCell ⟨g, o, none⟩ v) (l.set o v) (by simpa using h1) (by simp at hl ⊢; omega)
    rw [h2, splice_cons l o v r (by simpa using hl)]
theorem below_setCells' {B g : Nat} {a : World} (hg : B ≤ g) : ∀ (vs : List Value) (o : Nat) {w : World}, Below B a w → Below B a (w.setCells g o vs)
  | [], _, _, h => h
  | v :: r, o, w, h => by
    rw [World.setCells]
    exact below_setCells' hg r (o + 1) (h.setCell (p := ⟨g, o, none⟩) hg v)
theorem there_of {w : World} {g : Nat} {l : List Value} {t : TypeId} (h : w.heap[g]? = some (.cells l.toArray t (0, 0))) (o n : Nat) (hn : o + n ≤ l.length) : w.there g o n := fun j hj => by
  rw [cell_of_row w g (o + j) _ _ _ h, frozen_of_row w g (o + j) _ _ h]
  have : o + j < l.length := by omega
  simp [this]
/-- The cells of the first k structs, and behind them what lay there (M). -/
def fill {α : Type} (enc : α → List Value) (s : Nat) (M : List Value) (l : List α) (k : Nat) : List Value := (l.take k).flatMap enc ++ M.drop (k * s)
section
variable {α : Type} {enc : α → List Value} {M : List Value} {s : Nat}
theorem flat_len (he : ∀ a, (enc a).length = s) (l : List α) : (l.flatMap enc).length = l.length * s := by
  induction l with
  | nil => simp
  | cons a l ih => simp [he, ih, Nat.add_mul, Nat.add_comm]
theorem fill_len (he : ∀ a, (enc a).length = s) (l : List α) (k : Nat) (hk : k ≤ l.length) (hM : M.length = l.length * s) : (fill enc s M l k).length = l.length * s := by
  unfold fill
  rw [List.length_append, flat_len he, List.length_drop, List.length_take, Nat.min_eq_left hk, hM]
  have := Nat.mul_le_mul_right s hk
  omega
theorem fill_next (he : ∀ a, (enc a).length = s) (l : List α) (k : Nat) (hk : k < l.length) (hM : M.length = l.length * s) : splice (fill enc s M l k) (k * s) (enc l[k]) = fill enc s M l (k + 1) := by
  unfold fill
  have hks : k * s + s ≤ l.length * s := by
    have := Nat.mul_le_mul_right s hk
    rw [Nat.succ_mul] at this
    omega
  have e : M.drop (k * s) = (M.drop (k * s)).take s ++ M.drop ((k + 1) * s) := by
    rw [Nat.succ_mul, ← List.drop_drop]
    exact (List.take_append_drop ..).symm
  rw [show (l.take k).flatMap enc ++ M.drop (k * s) = (l.take k).flatMap enc ++ ((M.drop (k * s)).take s ++ M.drop ((k + 1) * s)) from by rw [← e], splice_mid _ _ _ _ _ (by rw [flat_len he, List.length_take, Nat.min_eq_left (by omega)]) (by rw [he, List.length_take, List.length_drop]; omega)]
  rw [List.take_succ_eq_append_getElem hk, List.flatMap_append]
  simp only [List.flatMap_cons, List.flatMap_nil, List.append_nil, List.append_assoc]
theorem fill_zero (l : List α) : fill enc s M l 0 = M := by simp [fill]
theorem fill_all (l : List α) (hM : M.length = l.length * s) : fill enc s M l l.length = l.flatMap enc := by
  unfold fill
  rw [List.take_length, List.drop_eq_nil_of_le (by omega)]
  simp
end
end Go.Proofs.YtolampkhohahlaaDoor.rows
