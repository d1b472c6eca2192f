/- A region that draws its order, whose operations read and whose callees leave old memory as it was: one walk, in the order of the text. Nothing here speaks of the program. -/
import Derived.Test.YtcacahokdnpboaaLift
import Derived.Deep.Quiet
import Derived.BigQuiet
import Derived.Deep.RegionHeld
namespace Go.Proofs.Ytcacahokdnpboaa.mid
open Go.ChangeShapes Go.WideShapes Go.ChangeAt Go.RowKit

/-- The worlds that are as W was below W's size. -/
structure Mid (W : World) where
  at_ : World
  is : Below W.heap.size W at_
instance (W : World) : Nonempty (Mid W) := ⟨⟨W, Below.refl _ _⟩⟩
/-- The class of worlds. -/
def In (W w : World) : Prop := ∃ x : Mid W, w = x.at_
theorem In.of {W w : World} (h : Below W.heap.size W w) : ∃ x : Mid W, w = x.at_ := ⟨⟨w, h⟩, rfl⟩
theorem In.out {W w : World} (h : ∃ x : Mid W, w = x.at_) : Below W.heap.size W w := by obtain ⟨x, rfl⟩ := h; exact x.is

@[simp, go_sem] theorem cell_mid {W : World} (x : Mid W) (a : Addr) (h : (W.cell? a).isSome = true) : x.at_.cell? a = W.cell? a := by
  obtain ⟨u, hu⟩ := Option.isSome_iff_exists.1 h
  exact x.is.cell (World.block_lt_of_cell? W a hu)

theorem wp_region_mid {P : Program} {id : Nat} {Q : Exit → Act → World → Prop} {a : Act} {w : World} {l : List Oper} (hm : P.follows .mixedOrders = true) (hB : Region.lexB .any l.toArray = true)
    (h : wpQuiet P l.toArray (fun w' => ∃ x : Mid w, w' = x.at_) (fun a' => ∀ w', (∃ x : Mid w, w' = x.at_) → Q .normal a' w') l a) : (Code.region id l.toArray true).wp P Q a w :=
  wp_region_quiet (C := fun w' => ∃ x : Mid w, w' = x.at_) hm hB (In.of ((Below.refl _ _).drew)) (by simpa using h)

/-- A callee's contract, met in a world of the class. -/
theorem quiet {P : Program} {f : FuncId} {args : Array Value} {W : World} {x : Mid W} {v : Value}
    (h : Calls P f args x.at_ fun e w' => e = .returned v ∧ Below x.at_.heap.size x.at_ w') : Calls P f args x.at_ fun e w'' => e = .returned v ∧ ∃ y : Mid W, w'' = y.at_ :=
  h.mono fun _ _ ⟨he, hm⟩ => ⟨he, In.of (x.is.trans (hm.mono x.is.size))⟩
theorem quiet_same {P : Program} {f : FuncId} {args : Array Value} {W : World} {x : Mid W} {v : Value}
    (h : Calls P f args x.at_ fun e w' => e = .returned v ∧ x.at_ = w') : Calls P f args x.at_ fun e w'' => e = .returned v ∧ ∃ y : Mid W, w'' = y.at_ :=
  h.mono fun _ _ ⟨he, hm⟩ => ⟨he, x, hm.symm⟩
end Go.Proofs.Ytcacahokdnpboaa.mid
