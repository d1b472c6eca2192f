/-
  No cell of these rows narrows 'for every input' (looked for: loops, veiled, ifaces, maps, wideKeys, modest, calm, conditions, laid).
  DERIVED. THE GIVEN ROWS OF THIS SEAT. 7 by the template 'for every input the law returns true; each argument reads behind the call as it read before'; 0 by the template 'total and deterministic' (their statements: YthncogpkhaheeaaTotals.lean).
  GIVEN WITH THE SEED: the statements are not yours to turn. If you find one false, say at which input.
  Laid BY PROGRAM, IN A SANDBOX (cutbox-rows.mjs): the forced cells as the released guide's own fill.sh prints them over the translation 0508cb2a53859ae1… (all of the seat's roots in one cut). By AI agents, Wed Nov 11 2026. No macro, syntax, notation, axiom, sorry.
-/
import Derived.Test.YthncogpkhaheeaaChecked
import GoSem.Claim
import GoSem.ClaimJoined
import GoSem.ClaimMapViews
import Derived.JoinedTies
import Derived.KernelRfl
namespace Go.Proofs.Ythncogpkhaheeaa
/- THE CELL 'sum', in the pinned program and in every row, IS THE sha256 OF THE DUMP (.gsa) THAT YthncogpkhaheeaaProg.lean LOADS. Nothing in Lean hashes anything: it is a label: what it is worth is what the hold of that sum in a sandbox is worth. -/
noncomputable def Try.pinned : Pinned := { name := "ythncogpkhaheeaa", sum := "0508cb2a53859ae15cf2ead1a261cc4cd5e973c0ccab05a44579255759828b92", checked := Try.checked }
namespace Rows
def none {H : Type} : Left H := { results := [], args := [] }

/-- 'hatstandlaw4.SourcePlays': WHATEVER THE INPUT: true; the input reads as it did. -/
def sourcePlaysSpec : ChangeSpec := { name := "sourcePlays", fn := fun _ => fun
  | [d1, d2, d3] => { results := [.lit (.bool true)], args := [d1, d2, d3] }
  | _ => none }
def sourcePlaysRow : OpenClaim := { program := "ythncogpkhaheeaa", sum := "0508cb2a53859ae15cf2ead1a261cc4cd5e973c0ccab05a44579255759828b92", func := "hatstand/hatstandlaw4.SourcePlays", spec := "sourcePlays", inPlace := ["math/bits.Add64"], apart := false }
def SourcePlaysSaid : Prop := sourcePlaysRow.holds Try.pinned (OpenSpec.ofChange sourcePlaysSpec)

/-- ITS FALSE NEIGHBOUR: 'it returns false'. Refute it at one input. -/
def sourcePlaysWrong : ChangeSpec := { name := "sourcePlays", fn := fun _ => fun
  | [d1, d2, d3] => { results := [.lit (.bool false)], args := [d1, d2, d3] }
  | _ => none }
def SourcePlaysWrongFalsely : Prop := sourcePlaysRow.holds Try.pinned (OpenSpec.ofChange sourcePlaysWrong)

/-- 'hatstandlaw4.SourceTime': WHATEVER THE INPUT: true; the input reads as it did. -/
def sourceTimeSpec : ChangeSpec := { name := "sourceTime", fn := fun _ => fun
  | [d] => { results := [.lit (.bool true)], args := [d] }
  | _ => none }
def sourceTimeRow : OpenClaim := { program := "ythncogpkhaheeaa", sum := "0508cb2a53859ae15cf2ead1a261cc4cd5e973c0ccab05a44579255759828b92", func := "hatstand/hatstandlaw4.SourceTime", spec := "sourceTime", inPlace := ["math/bits.Add64"], apart := false }
def SourceTimeSaid : Prop := sourceTimeRow.holds Try.pinned (OpenSpec.ofChange sourceTimeSpec)

/-- ITS FALSE NEIGHBOUR: 'it returns false'. Refute it at one input. -/
def sourceTimeWrong : ChangeSpec := { name := "sourceTime", fn := fun _ => fun
  | [d] => { results := [.lit (.bool false)], args := [d] }
  | _ => none }
def SourceTimeWrongFalsely : Prop := sourceTimeRow.holds Try.pinned (OpenSpec.ofChange sourceTimeWrong)

/-- 'hatstandlaw4.SourceOrder': WHATEVER THE INPUT: true; the input reads as it did. -/
def sourceOrderSpec : ChangeSpec := { name := "sourceOrder", fn := fun _ => fun
  | [d1, d2] => { results := [.lit (.bool true)], args := [d1, d2] }
  | _ => none }
def sourceOrderRow : OpenClaim := { program := "ythncogpkhaheeaa", sum := "0508cb2a53859ae15cf2ead1a261cc4cd5e973c0ccab05a44579255759828b92", func := "hatstand/hatstandlaw4.SourceOrder", spec := "sourceOrder", inPlace := ["math/bits.Add64"], apart := false }
def SourceOrderSaid : Prop := sourceOrderRow.holds Try.pinned (OpenSpec.ofChange sourceOrderSpec)

/-- ITS FALSE NEIGHBOUR: 'it returns false'. Refute it at one input. -/
def sourceOrderWrong : ChangeSpec := { name := "sourceOrder", fn := fun _ => fun
  | [d1, d2] => { results := [.lit (.bool false)], args := [d1, d2] }
  | _ => none }
def SourceOrderWrongFalsely : Prop := sourceOrderRow.holds Try.pinned (OpenSpec.ofChange sourceOrderWrong)

/-- 'hatstandlaw4.SourceDeadline': WHATEVER THE INPUT: true; the input reads as it did. -/
def sourceDeadlineSpec : ChangeSpec := { name := "sourceDeadline", fn := fun _ => fun
  | [d1, d2, d3] => { results := [.lit (.bool true)], args := [d1, d2, d3] }
  | _ => none }
def sourceDeadlineRow : OpenClaim := { program := "ythncogpkhaheeaa", sum := "0508cb2a53859ae15cf2ead1a261cc4cd5e973c0ccab05a44579255759828b92", func := "hatstand/hatstandlaw4.SourceDeadline", spec := "sourceDeadline", inPlace := ["math/bits.Add64"], apart := false }
def SourceDeadlineSaid : Prop := sourceDeadlineRow.holds Try.pinned (OpenSpec.ofChange sourceDeadlineSpec)

/-- ITS FALSE NEIGHBOUR: 'it returns false'. Refute it at one input. -/
def sourceDeadlineWrong : ChangeSpec := { name := "sourceDeadline", fn := fun _ => fun
  | [d1, d2, d3] => { results := [.lit (.bool false)], args := [d1, d2, d3] }
  | _ => none }
def SourceDeadlineWrongFalsely : Prop := sourceDeadlineRow.holds Try.pinned (OpenSpec.ofChange sourceDeadlineWrong)

/-- 'hatstandlaw4.SourceApart': WHATEVER THE INPUT: true; the input reads as it did. -/
def sourceApartSpec : ChangeSpec := { name := "sourceApart", fn := fun _ => fun
  | [d1, d2, d3] => { results := [.lit (.bool true)], args := [d1, d2, d3] }
  | _ => none }
def sourceApartRow : OpenClaim := { program := "ythncogpkhaheeaa", sum := "0508cb2a53859ae15cf2ead1a261cc4cd5e973c0ccab05a44579255759828b92", func := "hatstand/hatstandlaw4.SourceApart", spec := "sourceApart", inPlace := ["math/bits.Add64"], apart := false }
def SourceApartSaid : Prop := sourceApartRow.holds Try.pinned (OpenSpec.ofChange sourceApartSpec)

/-- ITS FALSE NEIGHBOUR: 'it returns false'. Refute it at one input. -/
def sourceApartWrong : ChangeSpec := { name := "sourceApart", fn := fun _ => fun
  | [d1, d2, d3] => { results := [.lit (.bool false)], args := [d1, d2, d3] }
  | _ => none }
def SourceApartWrongFalsely : Prop := sourceApartRow.holds Try.pinned (OpenSpec.ofChange sourceApartWrong)

/-- 'hatstandlaw4.SourceRanges': WHATEVER THE INPUT: true; the input reads as it did. -/
def sourceRangesSpec : ChangeSpec := { name := "sourceRanges", fn := fun _ => fun
  | [d1, d2] => { results := [.lit (.bool true)], args := [d1, d2] }
  | _ => none }
def sourceRangesRow : OpenClaim := { program := "ythncogpkhaheeaa", sum := "0508cb2a53859ae15cf2ead1a261cc4cd5e973c0ccab05a44579255759828b92", func := "hatstand/hatstandlaw4.SourceRanges", spec := "sourceRanges", inPlace := ["math/bits.Add64"], apart := false }
def SourceRangesSaid : Prop := sourceRangesRow.holds Try.pinned (OpenSpec.ofChange sourceRangesSpec)

/-- ITS FALSE NEIGHBOUR: 'it returns false'. Refute it at one input. -/
def sourceRangesWrong : ChangeSpec := { name := "sourceRanges", fn := fun _ => fun
  | [d1, d2] => { results := [.lit (.bool false)], args := [d1, d2] }
  | _ => none }
def SourceRangesWrongFalsely : Prop := sourceRangesRow.holds Try.pinned (OpenSpec.ofChange sourceRangesWrong)

/-- 'hatstandlaw4.SourceTicks': WHATEVER THE INPUT: true; the input reads as it did. -/
def sourceTicksSpec : ChangeSpec := { name := "sourceTicks", fn := fun _ => fun
  | [d] => { results := [.lit (.bool true)], args := [d] }
  | _ => none }
def sourceTicksRow : OpenClaim := { program := "ythncogpkhaheeaa", sum := "0508cb2a53859ae15cf2ead1a261cc4cd5e973c0ccab05a44579255759828b92", func := "hatstand/hatstandlaw4.SourceTicks", spec := "sourceTicks", inPlace := ["math/bits.Add64"], apart := false }
def SourceTicksSaid : Prop := sourceTicksRow.holds Try.pinned (OpenSpec.ofChange sourceTicksSpec)

/-- ITS FALSE NEIGHBOUR: 'it returns false'. Refute it at one input. -/
def sourceTicksWrong : ChangeSpec := { name := "sourceTicks", fn := fun _ => fun
  | [d] => { results := [.lit (.bool false)], args := [d] }
  | _ => none }
def SourceTicksWrongFalsely : Prop := sourceTicksRow.holds Try.pinned (OpenSpec.ofChange sourceTicksWrong)

/- THE SECOND FORM. 'bulk': how many values and letters a reading holds, each counted each time it is reached (what is shared counts as often as it is met; a slice's spare places count too). A statement '..UptoSaid' is the law's where the arguments, and the package variables that the reading takes, are together of bulk at most 1048576: NARROWER than '..Said'. Prove '..Said' where nothing that the law and all that it calls make is longer than what came in: it says more and counts as full. Else prove '..UptoSaid'. A law counts once. -/
mutual
def uptoBulk {H : Type} : DataW H → Nat
  | .lit (.string bytes) => bytes.length + 1
  | .lit _ => 1
  | .nil => 1
  | .ptr d => uptoBulk d + 1
  | .slice elems spare => uptoBulkAll elems + uptoBulkAll spare + 1
  | .agg parts => uptoBulkAll parts + 1
  | .iface _ d => uptoBulk d + 1
  | .map entries => uptoBulkEntries entries + 1
  | .held _ => 1
def uptoBulkAll {H : Type} : List (DataW H) → Nat
  | [] => 0
  | d :: r => uptoBulk d + uptoBulkAll r
def uptoBulkEntries {H : Type} : List (Lit × DataW H) → Nat
  | [] => 0
  | x :: r => uptoBulkEntry x + uptoBulkEntries r
def uptoBulkEntry {H : Type} : Lit × DataW H → Nat
  | (.string bytes, d) => bytes.length + uptoBulk d + 1
  | (_, d) => uptoBulk d + 1
 end
def uptoSmall : (H : Type) → List (DataW H) → Bool := fun _ ds => decide (uptoBulkAll ds ≤ 1048576)
def OpenSpec.upto (s : _root_.Go.ChangeSpec) : _root_.Go.OpenSpec := { _root_.Go.OpenSpec.ofChange s with cond := some uptoSmall }

/-- 'hatstandlaw4.SourcePlays', WHERE WHAT IT READS IS OF BULK AT MOST 1048576: true; the input reads as it did. -/
def sourcePlaysUptoRow : OpenClaim := { program := "ythncogpkhaheeaa", sum := "0508cb2a53859ae15cf2ead1a261cc4cd5e973c0ccab05a44579255759828b92", func := "hatstand/hatstandlaw4.SourcePlays", spec := "sourcePlays", inPlace := ["math/bits.Add64"], apart := false, narrowed := true }
def SourcePlaysUptoSaid : Prop := sourcePlaysUptoRow.holds Try.pinned (OpenSpec.upto sourcePlaysSpec)

/-- 'hatstandlaw4.SourceTime', WHERE WHAT IT READS IS OF BULK AT MOST 1048576: true; the input reads as it did. -/
def sourceTimeUptoRow : OpenClaim := { program := "ythncogpkhaheeaa", sum := "0508cb2a53859ae15cf2ead1a261cc4cd5e973c0ccab05a44579255759828b92", func := "hatstand/hatstandlaw4.SourceTime", spec := "sourceTime", inPlace := ["math/bits.Add64"], apart := false, narrowed := true }
def SourceTimeUptoSaid : Prop := sourceTimeUptoRow.holds Try.pinned (OpenSpec.upto sourceTimeSpec)

/-- 'hatstandlaw4.SourceOrder', WHERE WHAT IT READS IS OF BULK AT MOST 1048576: true; the input reads as it did. -/
def sourceOrderUptoRow : OpenClaim := { program := "ythncogpkhaheeaa", sum := "0508cb2a53859ae15cf2ead1a261cc4cd5e973c0ccab05a44579255759828b92", func := "hatstand/hatstandlaw4.SourceOrder", spec := "sourceOrder", inPlace := ["math/bits.Add64"], apart := false, narrowed := true }
def SourceOrderUptoSaid : Prop := sourceOrderUptoRow.holds Try.pinned (OpenSpec.upto sourceOrderSpec)

/-- 'hatstandlaw4.SourceDeadline', WHERE WHAT IT READS IS OF BULK AT MOST 1048576: true; the input reads as it did. -/
def sourceDeadlineUptoRow : OpenClaim := { program := "ythncogpkhaheeaa", sum := "0508cb2a53859ae15cf2ead1a261cc4cd5e973c0ccab05a44579255759828b92", func := "hatstand/hatstandlaw4.SourceDeadline", spec := "sourceDeadline", inPlace := ["math/bits.Add64"], apart := false, narrowed := true }
def SourceDeadlineUptoSaid : Prop := sourceDeadlineUptoRow.holds Try.pinned (OpenSpec.upto sourceDeadlineSpec)

/-- 'hatstandlaw4.SourceApart', WHERE WHAT IT READS IS OF BULK AT MOST 1048576: true; the input reads as it did. -/
def sourceApartUptoRow : OpenClaim := { program := "ythncogpkhaheeaa", sum := "0508cb2a53859ae15cf2ead1a261cc4cd5e973c0ccab05a44579255759828b92", func := "hatstand/hatstandlaw4.SourceApart", spec := "sourceApart", inPlace := ["math/bits.Add64"], apart := false, narrowed := true }
def SourceApartUptoSaid : Prop := sourceApartUptoRow.holds Try.pinned (OpenSpec.upto sourceApartSpec)

/-- 'hatstandlaw4.SourceRanges', WHERE WHAT IT READS IS OF BULK AT MOST 1048576: true; the input reads as it did. -/
def sourceRangesUptoRow : OpenClaim := { program := "ythncogpkhaheeaa", sum := "0508cb2a53859ae15cf2ead1a261cc4cd5e973c0ccab05a44579255759828b92", func := "hatstand/hatstandlaw4.SourceRanges", spec := "sourceRanges", inPlace := ["math/bits.Add64"], apart := false, narrowed := true }
def SourceRangesUptoSaid : Prop := sourceRangesUptoRow.holds Try.pinned (OpenSpec.upto sourceRangesSpec)

/-- 'hatstandlaw4.SourceTicks', WHERE WHAT IT READS IS OF BULK AT MOST 1048576: true; the input reads as it did. -/
def sourceTicksUptoRow : OpenClaim := { program := "ythncogpkhaheeaa", sum := "0508cb2a53859ae15cf2ead1a261cc4cd5e973c0ccab05a44579255759828b92", func := "hatstand/hatstandlaw4.SourceTicks", spec := "sourceTicks", inPlace := ["math/bits.Add64"], apart := false, narrowed := true }
def SourceTicksUptoSaid : Prop := sourceTicksUptoRow.holds Try.pinned (OpenSpec.upto sourceTicksSpec)

end Rows
end Go.Proofs.Ythncogpkhaheeaa
