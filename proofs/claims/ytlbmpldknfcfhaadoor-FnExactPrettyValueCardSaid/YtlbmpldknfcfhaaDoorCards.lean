/-
  DERIVED. GIVEN WITH THE SEED: THE CARDS: each row of YtlbmpldknfcfhaaDoorRows.lean that lists a variable, with what it lists TIED to the program's text (the seventh form; the later family's looks); each row that meets fmt, with fmt's text TOLD by the authors' own Lean function (tested against real Go, not proved from fmt's source: count such statements apart). THE CARD IS WHAT COUNTS. Prove the row's statement (the work); the ties are given (YtlbmpldknfcfhaaDoorTie.lean); close each card by the builder's one call (the guide's Derived/Test/ToyasCard.lean, 'card_holds'). Laid BY PROGRAM, IN A SANDBOX (cutbox-door.mjs). By AI agents, Wed Nov 11 2026. No macro, syntax, notation, axiom, sorry.
-/
import Derived.Test.YtlbmpldknfcfhaaDoorRows
import GoSem.ClaimSeven
namespace Go.Proofs.YtlbmpldknfcfhaaDoor
namespace Rows

/-- THE TIED CARD OF 'laws.FnExactPrettyValue'. -/
def fnExactPrettyValueCard : Claim7 := { stood := { row := fnExactPrettyValueRow, standIns := [], harness := (true, "4f7187b85836e674dedeadb75176167ec71348797a9127890efac137d100a5ab"), looks := false }, kinds := [], alts := [], laidByText := true, laidKinds := [.data, .data, .data], laidTests := true, laidLooks := .later }
def FnExactPrettyValueCardSaid : Prop := Claim7.holds Tryd.pinned (.plain (OpenSpec.ofChange fnExactPrettyValueSpec)) fnExactPrettyValueCard

/-- THE TIED CARD OF 'laws.FnExactFlatText'. -/
def fnExactFlatTextCard : Claim7 := { stood := { row := fnExactFlatTextRow, standIns := [], harness := (true, "4f7187b85836e674dedeadb75176167ec71348797a9127890efac137d100a5ab"), looks := false }, kinds := [], alts := [], laidByText := true, laidKinds := [.data, .data, .data], laidTests := true, laidLooks := .later }
def FnExactFlatTextCardSaid : Prop := Claim7.holds Tryd.pinned (.plain (OpenSpec.ofChange fnExactFlatTextSpec)) fnExactFlatTextCard

/-- THE TIED CARD OF 'laws.FnExactSizeText'. -/
def fnExactSizeTextCard : Claim7 := { stood := { row := fnExactSizeTextRow, standIns := [], harness := (true, "4f7187b85836e674dedeadb75176167ec71348797a9127890efac137d100a5ab"), looks := false }, kinds := [], alts := [], laidByText := true, laidKinds := [.data, .data, .data], laidTests := true, laidLooks := .later }
def FnExactSizeTextCardSaid : Prop := Claim7.holds Tryd.pinned (.plain (OpenSpec.ofChange fnExactSizeTextSpec)) fnExactSizeTextCard

/-- THE SECOND FORM's CARD OF 'laws.FnExactPrettyValue'. -/
def fnExactPrettyValueUptoCard : Claim7 := { stood := { row := fnExactPrettyValueUptoRow, standIns := [], harness := (true, "4f7187b85836e674dedeadb75176167ec71348797a9127890efac137d100a5ab"), looks := false }, kinds := [], alts := [], laidByText := true, laidKinds := [.data, .data, .data], laidTests := true, laidLooks := .later }
def FnExactPrettyValueUptoCardSaid : Prop := Claim7.holds Tryd.pinned (.plain (OpenSpec.upto fnExactPrettyValueSpec)) fnExactPrettyValueUptoCard

/-- THE SECOND FORM's CARD OF 'laws.FnExactFlatText'. -/
def fnExactFlatTextUptoCard : Claim7 := { stood := { row := fnExactFlatTextUptoRow, standIns := [], harness := (true, "4f7187b85836e674dedeadb75176167ec71348797a9127890efac137d100a5ab"), looks := false }, kinds := [], alts := [], laidByText := true, laidKinds := [.data, .data, .data], laidTests := true, laidLooks := .later }
def FnExactFlatTextUptoCardSaid : Prop := Claim7.holds Tryd.pinned (.plain (OpenSpec.upto fnExactFlatTextSpec)) fnExactFlatTextUptoCard

/-- THE SECOND FORM's CARD OF 'laws.FnExactSizeText'. -/
def fnExactSizeTextUptoCard : Claim7 := { stood := { row := fnExactSizeTextUptoRow, standIns := [], harness := (true, "4f7187b85836e674dedeadb75176167ec71348797a9127890efac137d100a5ab"), looks := false }, kinds := [], alts := [], laidByText := true, laidKinds := [.data, .data, .data], laidTests := true, laidLooks := .later }
def FnExactSizeTextUptoCardSaid : Prop := Claim7.holds Tryd.pinned (.plain (OpenSpec.upto fnExactSizeTextSpec)) fnExactSizeTextUptoCard
end Rows
end Go.Proofs.YtlbmpldknfcfhaaDoor
