/-
  DERIVED. GIVEN WITH THE SEED: THE CARDS: each row of YtfcglmkbfdfaeaaDoorRows.lean that lists a variable, with what it lists TIED to the program's text (the seventh form; the later family's looks); each row that meets fmt, with fmt's text TOLD by the authors' own Lean function (tested against real Go, not proved from fmt's source: count such statements apart). THE CARD IS WHAT COUNTS. Prove the row's statement (the work); the ties are given (YtfcglmkbfdfaeaaDoorTie.lean); close each card by the builder's one call (the guide's Derived/Test/ToyasCard.lean, 'card_holds'). Laid BY PROGRAM, IN A SANDBOX (cutbox-door.mjs). By AI agents, Wed Nov 11 2026. No macro, syntax, notation, axiom, sorry.
-/
import Derived.Test.YtfcglmkbfdfaeaaDoorRows
import GoSem.ClaimSeven
namespace Go.Proofs.YtfcglmkbfdfaeaaDoor
namespace Rows

/-- THE TIED CARD OF 'laws.FnAllPaths'. -/
def fnAllPathsCard : Claim7 := { stood := { row := fnAllPathsRow, standIns := [], harness := (true, "4c9e375dcb6804b89e19588a9b8511b27547e64b8f73038b9c52c1fb19ff7941"), looks := false }, kinds := [], alts := [], laidByText := true, laidKinds := [.data, .data, .data], laidTests := true, laidLooks := .later }
def FnAllPathsCardSaid : Prop := Claim7.holds Tryd.pinned (.plain (OpenSpec.ofChange fnAllPathsSpec)) fnAllPathsCard

/-- THE SECOND FORM's CARD OF 'laws.FnAllPaths'. -/
def fnAllPathsUptoCard : Claim7 := { stood := { row := fnAllPathsUptoRow, standIns := [], harness := (true, "4c9e375dcb6804b89e19588a9b8511b27547e64b8f73038b9c52c1fb19ff7941"), looks := false }, kinds := [], alts := [], laidByText := true, laidKinds := [.data, .data, .data], laidTests := true, laidLooks := .later }
def FnAllPathsUptoCardSaid : Prop := Claim7.holds Tryd.pinned (.plain (OpenSpec.upto fnAllPathsSpec)) fnAllPathsUptoCard
end Rows
end Go.Proofs.YtfcglmkbfdfaeaaDoor
