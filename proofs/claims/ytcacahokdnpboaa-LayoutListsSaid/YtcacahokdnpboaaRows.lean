/-
  No cell of these rows narrows 'for every input' (looked for: loops, veiled, ifaces, maps, wideKeys, modest, calm, conditions, laid).
  DERIVED. THE GIVEN ROWS OF THIS SEAT. 7 by the template 'for every input the law returns true; each argument reads behind the call as it read before'; 0 by the template 'total and deterministic' (their statements: YtcacahokdnpboaaTotals.lean).
  GIVEN WITH THE SEED: the statements are not yours to turn. If you find one false, say at which input.
  Laid BY PROGRAM, IN A SANDBOX (cutbox-rows.mjs): the forced cells as the released guide's own fill.sh prints them over the translation e5a5f45f2c27e00e… (all of the seat's roots in one cut). By AI agents, Wed Nov 11 2026. No macro, syntax, notation, axiom, sorry.
-/
import Derived.Test.YtcacahokdnpboaaChecked
import GoSem.Claim
import GoSem.ClaimJoined
import GoSem.ClaimMapViews
import Derived.JoinedTies
import Derived.KernelRfl
namespace Go.Proofs.Ytcacahokdnpboaa
/- THE CELL 'sum', in the pinned program and in every row, IS THE sha256 OF THE DUMP (.gsa) THAT YtcacahokdnpboaaProg.lean LOADS. Nothing in Lean hashes anything: it is a label: what it is worth is what the hold of that sum in a sandbox is worth. -/
noncomputable def Try.pinned : Pinned := { name := "ytcacahokdnpboaa", sum := "e5a5f45f2c27e00ee54d830af589217c1cc488171ddd0d0dceed93ee2d82c28d", checked := Try.checked }
namespace Rows
def none {H : Type} : Left H := { results := [], args := [] }

/-- 'hatstandlaw6.LayoutTells': WHATEVER THE INPUT: true; the input reads as it did. -/
def layoutTellsSpec : ChangeSpec := { name := "layoutTells", fn := fun _ => fun
  | [d1, d2, d3] => { results := [.lit (.bool true)], args := [d1, d2, d3] }
  | _ => none }
def layoutTellsRow : OpenClaim := { program := "ytcacahokdnpboaa", sum := "e5a5f45f2c27e00ee54d830af589217c1cc488171ddd0d0dceed93ee2d82c28d", func := "hatstand/hatstandlaw6.LayoutTells", spec := "layoutTells", apart := false }
def LayoutTellsSaid : Prop := layoutTellsRow.holds Try.pinned (OpenSpec.ofChange layoutTellsSpec)

/-- ITS FALSE NEIGHBOUR: 'it returns false'. Refute it at one input. -/
def layoutTellsWrong : ChangeSpec := { name := "layoutTells", fn := fun _ => fun
  | [d1, d2, d3] => { results := [.lit (.bool false)], args := [d1, d2, d3] }
  | _ => none }
def LayoutTellsWrongFalsely : Prop := layoutTellsRow.holds Try.pinned (OpenSpec.ofChange layoutTellsWrong)

/-- 'hatstandlaw6.LayoutChains': WHATEVER THE INPUT: true; the input reads as it did. -/
def layoutChainsSpec : ChangeSpec := { name := "layoutChains", fn := fun _ => fun
  | [d1, d2, d3] => { results := [.lit (.bool true)], args := [d1, d2, d3] }
  | _ => none }
def layoutChainsRow : OpenClaim := { program := "ytcacahokdnpboaa", sum := "e5a5f45f2c27e00ee54d830af589217c1cc488171ddd0d0dceed93ee2d82c28d", func := "hatstand/hatstandlaw6.LayoutChains", spec := "layoutChains", apart := false }
def LayoutChainsSaid : Prop := layoutChainsRow.holds Try.pinned (OpenSpec.ofChange layoutChainsSpec)

/-- ITS FALSE NEIGHBOUR: 'it returns false'. Refute it at one input. -/
def layoutChainsWrong : ChangeSpec := { name := "layoutChains", fn := fun _ => fun
  | [d1, d2, d3] => { results := [.lit (.bool false)], args := [d1, d2, d3] }
  | _ => none }
def LayoutChainsWrongFalsely : Prop := layoutChainsRow.holds Try.pinned (OpenSpec.ofChange layoutChainsWrong)

/-- 'hatstandlaw6.LayoutApart': WHATEVER THE INPUT: true; the input reads as it did. -/
def layoutApartSpec : ChangeSpec := { name := "layoutApart", fn := fun _ => fun
  | [d1, d2, d3] => { results := [.lit (.bool true)], args := [d1, d2, d3] }
  | _ => none }
def layoutApartRow : OpenClaim := { program := "ytcacahokdnpboaa", sum := "e5a5f45f2c27e00ee54d830af589217c1cc488171ddd0d0dceed93ee2d82c28d", func := "hatstand/hatstandlaw6.LayoutApart", spec := "layoutApart", apart := false }
def LayoutApartSaid : Prop := layoutApartRow.holds Try.pinned (OpenSpec.ofChange layoutApartSpec)

/-- ITS FALSE NEIGHBOUR: 'it returns false'. Refute it at one input. -/
def layoutApartWrong : ChangeSpec := { name := "layoutApart", fn := fun _ => fun
  | [d1, d2, d3] => { results := [.lit (.bool false)], args := [d1, d2, d3] }
  | _ => none }
def LayoutApartWrongFalsely : Prop := layoutApartRow.holds Try.pinned (OpenSpec.ofChange layoutApartWrong)

/-- 'hatstandlaw6.LayoutFresh': WHATEVER THE INPUT: true; the input reads as it did. -/
def layoutFreshSpec : ChangeSpec := { name := "layoutFresh", fn := fun _ => fun
  | [d1, d2, d3, d4] => { results := [.lit (.bool true)], args := [d1, d2, d3, d4] }
  | _ => none }
def layoutFreshRow : OpenClaim := { program := "ytcacahokdnpboaa", sum := "e5a5f45f2c27e00ee54d830af589217c1cc488171ddd0d0dceed93ee2d82c28d", func := "hatstand/hatstandlaw6.LayoutFresh", spec := "layoutFresh", apart := false }
def LayoutFreshSaid : Prop := layoutFreshRow.holds Try.pinned (OpenSpec.ofChange layoutFreshSpec)

/-- ITS FALSE NEIGHBOUR: 'it returns false'. Refute it at one input. -/
def layoutFreshWrong : ChangeSpec := { name := "layoutFresh", fn := fun _ => fun
  | [d1, d2, d3, d4] => { results := [.lit (.bool false)], args := [d1, d2, d3, d4] }
  | _ => none }
def LayoutFreshWrongFalsely : Prop := layoutFreshRow.holds Try.pinned (OpenSpec.ofChange layoutFreshWrong)

/-- 'hatstandlaw6.LayoutLists': WHATEVER THE INPUT: true; the input reads as it did. -/
def layoutListsSpec : ChangeSpec := { name := "layoutLists", fn := fun _ => fun
  | [d1, d2, d3, d4, d5] => { results := [.lit (.bool true)], args := [d1, d2, d3, d4, d5] }
  | _ => none }
def layoutListsRow : OpenClaim := { program := "ytcacahokdnpboaa", sum := "e5a5f45f2c27e00ee54d830af589217c1cc488171ddd0d0dceed93ee2d82c28d", func := "hatstand/hatstandlaw6.LayoutLists", spec := "layoutLists", apart := false }
def LayoutListsSaid : Prop := layoutListsRow.holds Try.pinned (OpenSpec.ofChange layoutListsSpec)

/-- ITS FALSE NEIGHBOUR: 'it returns false'. Refute it at one input. -/
def layoutListsWrong : ChangeSpec := { name := "layoutLists", fn := fun _ => fun
  | [d1, d2, d3, d4, d5] => { results := [.lit (.bool false)], args := [d1, d2, d3, d4, d5] }
  | _ => none }
def LayoutListsWrongFalsely : Prop := layoutListsRow.holds Try.pinned (OpenSpec.ofChange layoutListsWrong)

/-- 'hatstandlaw6.LayoutFollows': WHATEVER THE INPUT: true; the input reads as it did. -/
def layoutFollowsSpec : ChangeSpec := { name := "layoutFollows", fn := fun _ => fun
  | [d1, d2, d3] => { results := [.lit (.bool true)], args := [d1, d2, d3] }
  | _ => none }
def layoutFollowsRow : OpenClaim := { program := "ytcacahokdnpboaa", sum := "e5a5f45f2c27e00ee54d830af589217c1cc488171ddd0d0dceed93ee2d82c28d", func := "hatstand/hatstandlaw6.LayoutFollows", spec := "layoutFollows", apart := false }
def LayoutFollowsSaid : Prop := layoutFollowsRow.holds Try.pinned (OpenSpec.ofChange layoutFollowsSpec)

/-- ITS FALSE NEIGHBOUR: 'it returns false'. Refute it at one input. -/
def layoutFollowsWrong : ChangeSpec := { name := "layoutFollows", fn := fun _ => fun
  | [d1, d2, d3] => { results := [.lit (.bool false)], args := [d1, d2, d3] }
  | _ => none }
def LayoutFollowsWrongFalsely : Prop := layoutFollowsRow.holds Try.pinned (OpenSpec.ofChange layoutFollowsWrong)

/-- 'hatstandlaw6.LayoutGrows': WHATEVER THE INPUT: true; the input reads as it did. -/
def layoutGrowsSpec : ChangeSpec := { name := "layoutGrows", fn := fun _ => fun
  | [d1, d2, d3] => { results := [.lit (.bool true)], args := [d1, d2, d3] }
  | _ => none }
def layoutGrowsRow : OpenClaim := { program := "ytcacahokdnpboaa", sum := "e5a5f45f2c27e00ee54d830af589217c1cc488171ddd0d0dceed93ee2d82c28d", func := "hatstand/hatstandlaw6.LayoutGrows", spec := "layoutGrows", apart := false }
def LayoutGrowsSaid : Prop := layoutGrowsRow.holds Try.pinned (OpenSpec.ofChange layoutGrowsSpec)

/-- ITS FALSE NEIGHBOUR: 'it returns false'. Refute it at one input. -/
def layoutGrowsWrong : ChangeSpec := { name := "layoutGrows", fn := fun _ => fun
  | [d1, d2, d3] => { results := [.lit (.bool false)], args := [d1, d2, d3] }
  | _ => none }
def LayoutGrowsWrongFalsely : Prop := layoutGrowsRow.holds Try.pinned (OpenSpec.ofChange layoutGrowsWrong)

/- THE SECOND FORM. 'bulk': how many values and letters a reading holds, each counted each time it is reached (what is shared counts as often as it is met; a slice's spare places count too). A statement '..UptoSaid' is the law's where the arguments, and the package variables that the reading takes, are together of bulk at most 1048576: NARROWER than '..Said'. Prove '..Said' where nothing that the law and all that it calls make is longer than what came in: it says more and counts as full. Else prove '..UptoSaid'. A law counts once. -/
mutual
def uptoBulk {H : Type} : DataW H → Nat
  | .lit (.string bytes) => bytes.length + 1
  | .lit _ => 1
  | .nil => 1
  | .ptr d => uptoBulk d + 1
  | .slice elems spare => uptoBulkAll elems + uptoBulkAll spare + 1
  | .agg parts => uptoBulkAll parts + 1
  | .iface _ d => uptoBulk d + 1
  | .map entries => uptoBulkEntries entries + 1
  | .held _ => 1
def uptoBulkAll {H : Type} : List (DataW H) → Nat
  | [] => 0
  | d :: r => uptoBulk d + uptoBulkAll r
def uptoBulkEntries {H : Type} : List (Lit × DataW H) → Nat
  | [] => 0
  | x :: r => uptoBulkEntry x + uptoBulkEntries r
def uptoBulkEntry {H : Type} : Lit × DataW H → Nat
  | (.string bytes, d) => bytes.length + uptoBulk d + 1
  | (_, d) => uptoBulk d + 1
 end
def uptoSmall : (H : Type) → List (DataW H) → Bool := fun _ ds => decide (uptoBulkAll ds ≤ 1048576)
def OpenSpec.upto (s : _root_.Go.ChangeSpec) : _root_.Go.OpenSpec := { _root_.Go.OpenSpec.ofChange s with cond := some uptoSmall }

/-- 'hatstandlaw6.LayoutTells', WHERE WHAT IT READS IS OF BULK AT MOST 1048576: true; the input reads as it did. -/
def layoutTellsUptoRow : OpenClaim := { program := "ytcacahokdnpboaa", sum := "e5a5f45f2c27e00ee54d830af589217c1cc488171ddd0d0dceed93ee2d82c28d", func := "hatstand/hatstandlaw6.LayoutTells", spec := "layoutTells", apart := false, narrowed := true }
def LayoutTellsUptoSaid : Prop := layoutTellsUptoRow.holds Try.pinned (OpenSpec.upto layoutTellsSpec)

/-- 'hatstandlaw6.LayoutChains', WHERE WHAT IT READS IS OF BULK AT MOST 1048576: true; the input reads as it did. -/
def layoutChainsUptoRow : OpenClaim := { program := "ytcacahokdnpboaa", sum := "e5a5f45f2c27e00ee54d830af589217c1cc488171ddd0d0dceed93ee2d82c28d", func := "hatstand/hatstandlaw6.LayoutChains", spec := "layoutChains", apart := false, narrowed := true }
def LayoutChainsUptoSaid : Prop := layoutChainsUptoRow.holds Try.pinned (OpenSpec.upto layoutChainsSpec)

/-- 'hatstandlaw6.LayoutApart', WHERE WHAT IT READS IS OF BULK AT MOST 1048576: true; the input reads as it did. -/
def layoutApartUptoRow : OpenClaim := { program := "ytcacahokdnpboaa", sum := "e5a5f45f2c27e00ee54d830af589217c1cc488171ddd0d0dceed93ee2d82c28d", func := "hatstand/hatstandlaw6.LayoutApart", spec := "layoutApart", apart := false, narrowed := true }
def LayoutApartUptoSaid : Prop := layoutApartUptoRow.holds Try.pinned (OpenSpec.upto layoutApartSpec)

/-- 'hatstandlaw6.LayoutFresh', WHERE WHAT IT READS IS OF BULK AT MOST 1048576: true; the input reads as it did. -/
def layoutFreshUptoRow : OpenClaim := { program := "ytcacahokdnpboaa", sum := "e5a5f45f2c27e00ee54d830af589217c1cc488171ddd0d0dceed93ee2d82c28d", func := "hatstand/hatstandlaw6.LayoutFresh", spec := "layoutFresh", apart := false, narrowed := true }
def LayoutFreshUptoSaid : Prop := layoutFreshUptoRow.holds Try.pinned (OpenSpec.upto layoutFreshSpec)

/-- 'hatstandlaw6.LayoutLists', WHERE WHAT IT READS IS OF BULK AT MOST 1048576: true; the input reads as it did. -/
def layoutListsUptoRow : OpenClaim := { program := "ytcacahokdnpboaa", sum := "e5a5f45f2c27e00ee54d830af589217c1cc488171ddd0d0dceed93ee2d82c28d", func := "hatstand/hatstandlaw6.LayoutLists", spec := "layoutLists", apart := false, narrowed := true }
def LayoutListsUptoSaid : Prop := layoutListsUptoRow.holds Try.pinned (OpenSpec.upto layoutListsSpec)

/-- 'hatstandlaw6.LayoutFollows', WHERE WHAT IT READS IS OF BULK AT MOST 1048576: true; the input reads as it did. -/
def layoutFollowsUptoRow : OpenClaim := { program := "ytcacahokdnpboaa", sum := "e5a5f45f2c27e00ee54d830af589217c1cc488171ddd0d0dceed93ee2d82c28d", func := "hatstand/hatstandlaw6.LayoutFollows", spec := "layoutFollows", apart := false, narrowed := true }
def LayoutFollowsUptoSaid : Prop := layoutFollowsUptoRow.holds Try.pinned (OpenSpec.upto layoutFollowsSpec)

/-- 'hatstandlaw6.LayoutGrows', WHERE WHAT IT READS IS OF BULK AT MOST 1048576: true; the input reads as it did. -/
def layoutGrowsUptoRow : OpenClaim := { program := "ytcacahokdnpboaa", sum := "e5a5f45f2c27e00ee54d830af589217c1cc488171ddd0d0dceed93ee2d82c28d", func := "hatstand/hatstandlaw6.LayoutGrows", spec := "layoutGrows", apart := false, narrowed := true }
def LayoutGrowsUptoSaid : Prop := layoutGrowsUptoRow.holds Try.pinned (OpenSpec.upto layoutGrowsSpec)

end Rows
end Go.Proofs.Ytcacahokdnpboaa
