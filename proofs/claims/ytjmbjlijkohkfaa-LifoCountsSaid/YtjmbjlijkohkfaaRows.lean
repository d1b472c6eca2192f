/-
  No cell of these rows narrows 'for every input' (looked for: loops, veiled, ifaces, maps, wideKeys, modest, calm, conditions, laid).
  DERIVED. THE GIVEN ROWS OF THIS SEAT. 7 by the template 'for every input the law returns true; each argument reads behind the call as it read before'; 0 by the template 'total and deterministic' (their statements: YtjmbjlijkohkfaaTotals.lean).
  GIVEN WITH THE SEED: the statements are not yours to turn. If you find one false, say at which input.
  Laid BY PROGRAM, IN A SANDBOX (cutbox-rows.mjs): the forced cells as the released guide's own fill.sh prints them over the translation db40609941b1b77e… (all of the seat's roots in one cut). By AI agents, Wed Nov 11 2026. No macro, syntax, notation, axiom, sorry.
-/
import Derived.Test.YtjmbjlijkohkfaaChecked
import GoSem.Claim
import GoSem.ClaimJoined
import GoSem.ClaimMapViews
import Derived.JoinedTies
import Derived.KernelRfl
namespace Go.Proofs.Ytjmbjlijkohkfaa
/- THE CELL 'sum', in the pinned program and in every row, IS THE sha256 OF THE DUMP (.gsa) THAT YtjmbjlijkohkfaaProg.lean LOADS. Nothing in Lean hashes anything: it is a label: what it is worth is what the hold of that sum in a sandbox is worth. -/
noncomputable def Try.pinned : Pinned := { name := "ytjmbjlijkohkfaa", sum := "db40609941b1b77ee1891591d8e1493850328f94b192102e679345be95e455d7", checked := Try.checked }
namespace Rows
def none {H : Type} : Left H := { results := [], args := [] }

/-- 'hatstandlaw5.LifoTells': WHATEVER THE INPUT: true; the input reads as it did. -/
def lifoTellsSpec : ChangeSpec := { name := "lifoTells", fn := fun _ => fun
  | [d1, d2, d3] => { results := [.lit (.bool true)], args := [d1, d2, d3] }
  | _ => none }
def lifoTellsRow : OpenClaim := { program := "ytjmbjlijkohkfaa", sum := "db40609941b1b77ee1891591d8e1493850328f94b192102e679345be95e455d7", func := "hatstand/hatstandlaw5.LifoTells", spec := "lifoTells", unfollowed := true, recurses := true, apart := false }
def LifoTellsSaid : Prop := lifoTellsRow.holds Try.pinned (OpenSpec.ofChange lifoTellsSpec)

/-- ITS FALSE NEIGHBOUR: 'it returns false'. Refute it at one input. -/
def lifoTellsWrong : ChangeSpec := { name := "lifoTells", fn := fun _ => fun
  | [d1, d2, d3] => { results := [.lit (.bool false)], args := [d1, d2, d3] }
  | _ => none }
def LifoTellsWrongFalsely : Prop := lifoTellsRow.holds Try.pinned (OpenSpec.ofChange lifoTellsWrong)

/-- 'hatstandlaw5.LifoBack': WHATEVER THE INPUT: true; the input reads as it did. -/
def lifoBackSpec : ChangeSpec := { name := "lifoBack", fn := fun _ => fun
  | [d1, d2, d3] => { results := [.lit (.bool true)], args := [d1, d2, d3] }
  | _ => none }
def lifoBackRow : OpenClaim := { program := "ytjmbjlijkohkfaa", sum := "db40609941b1b77ee1891591d8e1493850328f94b192102e679345be95e455d7", func := "hatstand/hatstandlaw5.LifoBack", spec := "lifoBack", unfollowed := true, recurses := true, apart := false }
def LifoBackSaid : Prop := lifoBackRow.holds Try.pinned (OpenSpec.ofChange lifoBackSpec)

/-- ITS FALSE NEIGHBOUR: 'it returns false'. Refute it at one input. -/
def lifoBackWrong : ChangeSpec := { name := "lifoBack", fn := fun _ => fun
  | [d1, d2, d3] => { results := [.lit (.bool false)], args := [d1, d2, d3] }
  | _ => none }
def LifoBackWrongFalsely : Prop := lifoBackRow.holds Try.pinned (OpenSpec.ofChange lifoBackWrong)

/-- 'hatstandlaw5.LifoRuns': WHATEVER THE INPUT: true; the input reads as it did. -/
def lifoRunsSpec : ChangeSpec := { name := "lifoRuns", fn := fun _ => fun
  | [d1, d2, d3, d4] => { results := [.lit (.bool true)], args := [d1, d2, d3, d4] }
  | _ => none }
def lifoRunsRow : OpenClaim := { program := "ytjmbjlijkohkfaa", sum := "db40609941b1b77ee1891591d8e1493850328f94b192102e679345be95e455d7", func := "hatstand/hatstandlaw5.LifoRuns", spec := "lifoRuns", unfollowed := true, recurses := true, apart := false }
def LifoRunsSaid : Prop := lifoRunsRow.holds Try.pinned (OpenSpec.ofChange lifoRunsSpec)

/-- ITS FALSE NEIGHBOUR: 'it returns false'. Refute it at one input. -/
def lifoRunsWrong : ChangeSpec := { name := "lifoRuns", fn := fun _ => fun
  | [d1, d2, d3, d4] => { results := [.lit (.bool false)], args := [d1, d2, d3, d4] }
  | _ => none }
def LifoRunsWrongFalsely : Prop := lifoRunsRow.holds Try.pinned (OpenSpec.ofChange lifoRunsWrong)

/-- 'hatstandlaw5.LifoSpoils': WHATEVER THE INPUT: true; the input reads as it did. -/
def lifoSpoilsSpec : ChangeSpec := { name := "lifoSpoils", fn := fun _ => fun
  | [d1, d2, d3, d4, d5] => { results := [.lit (.bool true)], args := [d1, d2, d3, d4, d5] }
  | _ => none }
def lifoSpoilsRow : OpenClaim := { program := "ytjmbjlijkohkfaa", sum := "db40609941b1b77ee1891591d8e1493850328f94b192102e679345be95e455d7", func := "hatstand/hatstandlaw5.LifoSpoils", spec := "lifoSpoils", unfollowed := true, recurses := true, apart := false }
def LifoSpoilsSaid : Prop := lifoSpoilsRow.holds Try.pinned (OpenSpec.ofChange lifoSpoilsSpec)

/-- ITS FALSE NEIGHBOUR: 'it returns false'. Refute it at one input. -/
def lifoSpoilsWrong : ChangeSpec := { name := "lifoSpoils", fn := fun _ => fun
  | [d1, d2, d3, d4, d5] => { results := [.lit (.bool false)], args := [d1, d2, d3, d4, d5] }
  | _ => none }
def LifoSpoilsWrongFalsely : Prop := lifoSpoilsRow.holds Try.pinned (OpenSpec.ofChange lifoSpoilsWrong)

/-- 'hatstandlaw5.LifoCounts': WHATEVER THE INPUT: true; the input reads as it did. -/
def lifoCountsSpec : ChangeSpec := { name := "lifoCounts", fn := fun _ => fun
  | [d1, d2] => { results := [.lit (.bool true)], args := [d1, d2] }
  | _ => none }
def lifoCountsRow : OpenClaim := { program := "ytjmbjlijkohkfaa", sum := "db40609941b1b77ee1891591d8e1493850328f94b192102e679345be95e455d7", func := "hatstand/hatstandlaw5.LifoCounts", spec := "lifoCounts", unfollowed := true, recurses := true, apart := false }
def LifoCountsSaid : Prop := lifoCountsRow.holds Try.pinned (OpenSpec.ofChange lifoCountsSpec)

/-- ITS FALSE NEIGHBOUR: 'it returns false'. Refute it at one input. -/
def lifoCountsWrong : ChangeSpec := { name := "lifoCounts", fn := fun _ => fun
  | [d1, d2] => { results := [.lit (.bool false)], args := [d1, d2] }
  | _ => none }
def LifoCountsWrongFalsely : Prop := lifoCountsRow.holds Try.pinned (OpenSpec.ofChange lifoCountsWrong)

/-- 'hatstandlaw5.LifoWider': WHATEVER THE INPUT: true; the input reads as it did. -/
def lifoWiderSpec : ChangeSpec := { name := "lifoWider", fn := fun _ => fun
  | [d1, d2, d3] => { results := [.lit (.bool true)], args := [d1, d2, d3] }
  | _ => none }
def lifoWiderRow : OpenClaim := { program := "ytjmbjlijkohkfaa", sum := "db40609941b1b77ee1891591d8e1493850328f94b192102e679345be95e455d7", func := "hatstand/hatstandlaw5.LifoWider", spec := "lifoWider", unfollowed := true, recurses := true, apart := false }
def LifoWiderSaid : Prop := lifoWiderRow.holds Try.pinned (OpenSpec.ofChange lifoWiderSpec)

/-- ITS FALSE NEIGHBOUR: 'it returns false'. Refute it at one input. -/
def lifoWiderWrong : ChangeSpec := { name := "lifoWider", fn := fun _ => fun
  | [d1, d2, d3] => { results := [.lit (.bool false)], args := [d1, d2, d3] }
  | _ => none }
def LifoWiderWrongFalsely : Prop := lifoWiderRow.holds Try.pinned (OpenSpec.ofChange lifoWiderWrong)

/-- 'hatstandlaw5.LifoUnder': WHATEVER THE INPUT: true; the input reads as it did. -/
def lifoUnderSpec : ChangeSpec := { name := "lifoUnder", fn := fun _ => fun
  | [d1, d2] => { results := [.lit (.bool true)], args := [d1, d2] }
  | _ => none }
def lifoUnderRow : OpenClaim := { program := "ytjmbjlijkohkfaa", sum := "db40609941b1b77ee1891591d8e1493850328f94b192102e679345be95e455d7", func := "hatstand/hatstandlaw5.LifoUnder", spec := "lifoUnder", unfollowed := true, recurses := true, apart := false }
def LifoUnderSaid : Prop := lifoUnderRow.holds Try.pinned (OpenSpec.ofChange lifoUnderSpec)

/-- ITS FALSE NEIGHBOUR: 'it returns false'. Refute it at one input. -/
def lifoUnderWrong : ChangeSpec := { name := "lifoUnder", fn := fun _ => fun
  | [d1, d2] => { results := [.lit (.bool false)], args := [d1, d2] }
  | _ => none }
def LifoUnderWrongFalsely : Prop := lifoUnderRow.holds Try.pinned (OpenSpec.ofChange lifoUnderWrong)

/- THE SECOND FORM. 'bulk': how many values and letters a reading holds, each counted each time it is reached (what is shared counts as often as it is met; a slice's spare places count too). A statement '..UptoSaid' is the law's where the arguments, and the package variables that the reading takes, are together of bulk at most 1048576: NARROWER than '..Said'. Prove '..Said' where nothing that the law and all that it calls make is longer than what came in: it says more and counts as full. Else prove '..UptoSaid'. A law counts once. -/
mutual
def uptoBulk {H : Type} : DataW H → Nat
  | .lit (.string bytes) => bytes.length + 1
  | .lit _ => 1
  | .nil => 1
  | .ptr d => uptoBulk d + 1
  | .slice elems spare => uptoBulkAll elems + uptoBulkAll spare + 1
  | .agg parts => uptoBulkAll parts + 1
  | .iface _ d => uptoBulk d + 1
  | .map entries => uptoBulkEntries entries + 1
  | .held _ => 1
def uptoBulkAll {H : Type} : List (DataW H) → Nat
  | [] => 0
  | d :: r => uptoBulk d + uptoBulkAll r
def uptoBulkEntries {H : Type} : List (Lit × DataW H) → Nat
  | [] => 0
  | x :: r => uptoBulkEntry x + uptoBulkEntries r
def uptoBulkEntry {H : Type} : Lit × DataW H → Nat
  | (.string bytes, d) => bytes.length + uptoBulk d + 1
  | (_, d) => uptoBulk d + 1
 end
def uptoSmall : (H : Type) → List (DataW H) → Bool := fun _ ds => decide (uptoBulkAll ds ≤ 1048576)
def OpenSpec.upto (s : _root_.Go.ChangeSpec) : _root_.Go.OpenSpec := { _root_.Go.OpenSpec.ofChange s with cond := some uptoSmall }

/-- 'hatstandlaw5.LifoTells', WHERE WHAT IT READS IS OF BULK AT MOST 1048576: true; the input reads as it did. -/
def lifoTellsUptoRow : OpenClaim := { program := "ytjmbjlijkohkfaa", sum := "db40609941b1b77ee1891591d8e1493850328f94b192102e679345be95e455d7", func := "hatstand/hatstandlaw5.LifoTells", spec := "lifoTells", unfollowed := true, recurses := true, apart := false, narrowed := true }
def LifoTellsUptoSaid : Prop := lifoTellsUptoRow.holds Try.pinned (OpenSpec.upto lifoTellsSpec)

/-- 'hatstandlaw5.LifoBack', WHERE WHAT IT READS IS OF BULK AT MOST 1048576: true; the input reads as it did. -/
def lifoBackUptoRow : OpenClaim := { program := "ytjmbjlijkohkfaa", sum := "db40609941b1b77ee1891591d8e1493850328f94b192102e679345be95e455d7", func := "hatstand/hatstandlaw5.LifoBack", spec := "lifoBack", unfollowed := true, recurses := true, apart := false, narrowed := true }
def LifoBackUptoSaid : Prop := lifoBackUptoRow.holds Try.pinned (OpenSpec.upto lifoBackSpec)

/-- 'hatstandlaw5.LifoRuns', WHERE WHAT IT READS IS OF BULK AT MOST 1048576: true; the input reads as it did. -/
def lifoRunsUptoRow : OpenClaim := { program := "ytjmbjlijkohkfaa", sum := "db40609941b1b77ee1891591d8e1493850328f94b192102e679345be95e455d7", func := "hatstand/hatstandlaw5.LifoRuns", spec := "lifoRuns", unfollowed := true, recurses := true, apart := false, narrowed := true }
def LifoRunsUptoSaid : Prop := lifoRunsUptoRow.holds Try.pinned (OpenSpec.upto lifoRunsSpec)

/-- 'hatstandlaw5.LifoSpoils', WHERE WHAT IT READS IS OF BULK AT MOST 1048576: true; the input reads as it did. -/
def lifoSpoilsUptoRow : OpenClaim := { program := "ytjmbjlijkohkfaa", sum := "db40609941b1b77ee1891591d8e1493850328f94b192102e679345be95e455d7", func := "hatstand/hatstandlaw5.LifoSpoils", spec := "lifoSpoils", unfollowed := true, recurses := true, apart := false, narrowed := true }
def LifoSpoilsUptoSaid : Prop := lifoSpoilsUptoRow.holds Try.pinned (OpenSpec.upto lifoSpoilsSpec)

/-- 'hatstandlaw5.LifoCounts', WHERE WHAT IT READS IS OF BULK AT MOST 1048576: true; the input reads as it did. -/
def lifoCountsUptoRow : OpenClaim := { program := "ytjmbjlijkohkfaa", sum := "db40609941b1b77ee1891591d8e1493850328f94b192102e679345be95e455d7", func := "hatstand/hatstandlaw5.LifoCounts", spec := "lifoCounts", unfollowed := true, recurses := true, apart := false, narrowed := true }
def LifoCountsUptoSaid : Prop := lifoCountsUptoRow.holds Try.pinned (OpenSpec.upto lifoCountsSpec)

/-- 'hatstandlaw5.LifoWider', WHERE WHAT IT READS IS OF BULK AT MOST 1048576: true; the input reads as it did. -/
def lifoWiderUptoRow : OpenClaim := { program := "ytjmbjlijkohkfaa", sum := "db40609941b1b77ee1891591d8e1493850328f94b192102e679345be95e455d7", func := "hatstand/hatstandlaw5.LifoWider", spec := "lifoWider", unfollowed := true, recurses := true, apart := false, narrowed := true }
def LifoWiderUptoSaid : Prop := lifoWiderUptoRow.holds Try.pinned (OpenSpec.upto lifoWiderSpec)

/-- 'hatstandlaw5.LifoUnder', WHERE WHAT IT READS IS OF BULK AT MOST 1048576: true; the input reads as it did. -/
def lifoUnderUptoRow : OpenClaim := { program := "ytjmbjlijkohkfaa", sum := "db40609941b1b77ee1891591d8e1493850328f94b192102e679345be95e455d7", func := "hatstand/hatstandlaw5.LifoUnder", spec := "lifoUnder", unfollowed := true, recurses := true, apart := false, narrowed := true }
def LifoUnderUptoSaid : Prop := lifoUnderUptoRow.holds Try.pinned (OpenSpec.upto lifoUnderSpec)

end Rows
end Go.Proofs.Ytjmbjlijkohkfaa
