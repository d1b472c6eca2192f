/- A region that draws its order, whose operations read and whose callees leave old memory as it was: one walk, in the order of the text. Nothing here speaks of the program. -/
import Derived.Test.YtopfabbdcfonjaaLift
import Derived.Deep.Quiet
import Derived.BigQuiet
import Derived.Deep.RegionHeld
namespace Go.Proofs.Ytopfabbdcfonjaa.mid
open Go.ChangeShapes Go.WideShapes Go.ChangeAt Go.RowKit

open Classical in
/-- x, if below W's size it is as W was; else W. -/
noncomputable def mid (W x : World) : World := if Below W.heap.size W x then x else W
theorem mid_of {W x : World} (h : Below W.heap.size W x) : mid W x = x := by unfold mid; rw [if_pos h]
theorem mid_below (W x : World) : Below W.heap.size W (mid W x) := by
  by_cases h : Below W.heap.size W x
  · rw [mid_of h]; exact h
  · unfold mid; rw [if_neg h]; exact Below.refl _ _
/-- The class of worlds. -/
def In (W w : World) : Prop := ∃ x, w = mid W x
theorem In.of {W w : World} (h : Below W.heap.size W w) : In W w := ⟨w, (mid_of h).symm⟩
theorem In.out {W w : World} (h : In W w) : Below W.heap.size W w := by obtain ⟨x, rfl⟩ := h; exact mid_below W x

@[simp, go_sem] theorem cell_mid (W x : World) (a : Addr) (h : (W.cell? a).isSome = true) : (mid W x).cell? a = W.cell? a := by
  obtain ⟨u, hu⟩ := Option.isSome_iff_exists.1 h
  exact (mid_below W x).cell (World.block_lt_of_cell? W a hu)

theorem wp_region_mid {P : Program} {id : Nat} {Q : Exit → Act → World → Prop} {a : Act} {w : World} {l : List Oper} (hm : P.follows .mixedOrders = true) (hB : Region.lexB .any l.toArray = true)
    (h : wpQuiet P l.toArray (fun w' => ∃ x, w' = mid w x) (fun a' => ∀ w', (∃ x, w' = mid w x) → Q .normal a' w') l a) : (Code.region id l.toArray true).wp P Q a w :=
  wp_region_quiet (C := fun w' => ∃ x, w' = mid w x) hm hB (In.of ((Below.refl _ _).drew)) (by simpa using h)

/-- A callee's contract, met in a world of the class. -/
theorem quiet {P : Program} {f : FuncId} {args : Array Value} {W x : World} {v : Value}
    (h : Calls P f args (mid W x) fun e w' => e = .returned v ∧ Below (mid W x).heap.size (mid W x) w') : Calls P f args (mid W x) fun e w'' => e = .returned v ∧ ∃ y, w'' = mid W y :=
  h.mono fun _ _ ⟨he, hm⟩ => ⟨he, In.of ((mid_below W x).trans (hm.mono (mid_below W x).size))⟩
theorem quiet_same {P : Program} {f : FuncId} {args : Array Value} {W x : World} {v : Value}
    (h : Calls P f args (mid W x) fun e w' => e = .returned v ∧ mid W x = w') : Calls P f args (mid W x) fun e w'' => e = .returned v ∧ ∃ y, w'' = mid W y :=
  h.mono fun _ _ ⟨he, hm⟩ => ⟨he, x, hm.symm⟩
end Go.Proofs.Ytopfabbdcfonjaa.mid
