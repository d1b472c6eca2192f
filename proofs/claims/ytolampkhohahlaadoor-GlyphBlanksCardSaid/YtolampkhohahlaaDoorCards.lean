/-
  DERIVED. GIVEN WITH THE SEED: THE CARDS: each row of YtolampkhohahlaaDoorRows.lean that lists a variable, with what it lists TIED to the program's text (the seventh form; the later family's looks); each row that meets fmt, with fmt's text TOLD by the authors' own Lean function (tested against real Go, not proved from fmt's source: count such statements apart). THE CARD IS WHAT COUNTS. Prove the row's statement (the work); the ties are given (YtolampkhohahlaaDoorTie.lean); close each card by the builder's one call (the guide's Derived/Test/ToyasCard.lean, 'card_holds'). Laid BY PROGRAM, IN A SANDBOX (cutbox-door.mjs). By AI agents, Wed Nov 11 2026. No macro, syntax, notation, axiom, sorry.
-/
import Derived.Test.YtolampkhohahlaaDoorRows
import GoSem.ClaimSeven
namespace Go.Proofs.YtolampkhohahlaaDoor
namespace Rows

/-- THE TIED CARD OF 'hatstandlaw3.GlyphTells'. -/
def glyphTellsCard : Claim7 := { stood := { row := glyphTellsRow, standIns := [], harness := (true, "6daf729b1977977da8d1d794d788428e77ebb8672b9e3c6d203ce9bb8b7ef934"), looks := false }, kinds := [], alts := [], laidByText := true, laidKinds := [.data, .data, .data], laidTests := true, laidLooks := .later }
def GlyphTellsCardSaid : Prop := Claim7.holds Tryd.pinned (.plain (OpenSpec.ofChange glyphTellsSpec)) glyphTellsCard

/-- THE TIED CARD OF 'hatstandlaw3.GlyphBack'. -/
def glyphBackCard : Claim7 := { stood := { row := glyphBackRow, standIns := [], harness := (true, "6daf729b1977977da8d1d794d788428e77ebb8672b9e3c6d203ce9bb8b7ef934"), looks := false }, kinds := [], alts := [], laidByText := true, laidKinds := [.data, .data, .data], laidTests := true, laidLooks := .later }
def GlyphBackCardSaid : Prop := Claim7.holds Tryd.pinned (.plain (OpenSpec.ofChange glyphBackSpec)) glyphBackCard

/-- THE TIED CARD OF 'hatstandlaw3.GlyphBlanks'. -/
def glyphBlanksCard : Claim7 := { stood := { row := glyphBlanksRow, standIns := [], harness := (true, "6daf729b1977977da8d1d794d788428e77ebb8672b9e3c6d203ce9bb8b7ef934"), looks := false }, kinds := [], alts := [], laidByText := true, laidKinds := [.data, .data, .data], laidTests := true, laidLooks := .later }
def GlyphBlanksCardSaid : Prop := Claim7.holds Tryd.pinned (.plain (OpenSpec.ofChange glyphBlanksSpec)) glyphBlanksCard

/-- THE TIED CARD OF 'hatstandlaw3.GlyphErrs'. -/
def glyphErrsCard : Claim7 := { stood := { row := glyphErrsRow, standIns := [], harness := (true, "6daf729b1977977da8d1d794d788428e77ebb8672b9e3c6d203ce9bb8b7ef934"), looks := false }, kinds := [], alts := [], laidByText := true, laidKinds := [.data, .data, .data], laidTests := true, laidLooks := .later }
def GlyphErrsCardSaid : Prop := Claim7.holds Tryd.pinned (.plain (OpenSpec.ofChange glyphErrsSpec)) glyphErrsCard

/-- THE TIED CARD OF 'hatstandlaw3.GlyphOnce'. -/
def glyphOnceCard : Claim7 := { stood := { row := glyphOnceRow, standIns := [], harness := (true, "6daf729b1977977da8d1d794d788428e77ebb8672b9e3c6d203ce9bb8b7ef934"), looks := false }, kinds := [], alts := [], laidByText := true, laidKinds := [.data, .data, .data], laidTests := true, laidLooks := .later }
def GlyphOnceCardSaid : Prop := Claim7.holds Tryd.pinned (.plain (OpenSpec.ofChange glyphOnceSpec)) glyphOnceCard

/-- THE SECOND FORM's CARD OF 'hatstandlaw3.GlyphTells'. -/
def glyphTellsUptoCard : Claim7 := { stood := { row := glyphTellsUptoRow, standIns := [], harness := (true, "6daf729b1977977da8d1d794d788428e77ebb8672b9e3c6d203ce9bb8b7ef934"), looks := false }, kinds := [], alts := [], laidByText := true, laidKinds := [.data, .data, .data], laidTests := true, laidLooks := .later }
def GlyphTellsUptoCardSaid : Prop := Claim7.holds Tryd.pinned (.plain (OpenSpec.upto glyphTellsSpec)) glyphTellsUptoCard

/-- THE SECOND FORM's CARD OF 'hatstandlaw3.GlyphBack'. -/
def glyphBackUptoCard : Claim7 := { stood := { row := glyphBackUptoRow, standIns := [], harness := (true, "6daf729b1977977da8d1d794d788428e77ebb8672b9e3c6d203ce9bb8b7ef934"), looks := false }, kinds := [], alts := [], laidByText := true, laidKinds := [.data, .data, .data], laidTests := true, laidLooks := .later }
def GlyphBackUptoCardSaid : Prop := Claim7.holds Tryd.pinned (.plain (OpenSpec.upto glyphBackSpec)) glyphBackUptoCard

/-- THE SECOND FORM's CARD OF 'hatstandlaw3.GlyphBlanks'. -/
def glyphBlanksUptoCard : Claim7 := { stood := { row := glyphBlanksUptoRow, standIns := [], harness := (true, "6daf729b1977977da8d1d794d788428e77ebb8672b9e3c6d203ce9bb8b7ef934"), looks := false }, kinds := [], alts := [], laidByText := true, laidKinds := [.data, .data, .data], laidTests := true, laidLooks := .later }
def GlyphBlanksUptoCardSaid : Prop := Claim7.holds Tryd.pinned (.plain (OpenSpec.upto glyphBlanksSpec)) glyphBlanksUptoCard

/-- THE SECOND FORM's CARD OF 'hatstandlaw3.GlyphErrs'. -/
def glyphErrsUptoCard : Claim7 := { stood := { row := glyphErrsUptoRow, standIns := [], harness := (true, "6daf729b1977977da8d1d794d788428e77ebb8672b9e3c6d203ce9bb8b7ef934"), looks := false }, kinds := [], alts := [], laidByText := true, laidKinds := [.data, .data, .data], laidTests := true, laidLooks := .later }
def GlyphErrsUptoCardSaid : Prop := Claim7.holds Tryd.pinned (.plain (OpenSpec.upto glyphErrsSpec)) glyphErrsUptoCard

/-- THE SECOND FORM's CARD OF 'hatstandlaw3.GlyphOnce'. -/
def glyphOnceUptoCard : Claim7 := { stood := { row := glyphOnceUptoRow, standIns := [], harness := (true, "6daf729b1977977da8d1d794d788428e77ebb8672b9e3c6d203ce9bb8b7ef934"), looks := false }, kinds := [], alts := [], laidByText := true, laidKinds := [.data, .data, .data], laidTests := true, laidLooks := .later }
def GlyphOnceUptoCardSaid : Prop := Claim7.holds Tryd.pinned (.plain (OpenSpec.upto glyphOnceSpec)) glyphOnceUptoCard
end Rows
end Go.Proofs.YtolampkhohahlaaDoor
