/-
  DERIVED. GIVEN WITH THE SEED: THE CARDS: each row of YtgjbibkppofjfaaDoorRows.lean that lists a variable, with what it lists TIED to the program's text (the seventh form; the later family's looks); each row that meets fmt, with fmt's text TOLD by the authors' own Lean function (tested against real Go, not proved from fmt's source: count such statements apart). THE CARD IS WHAT COUNTS. Prove the row's statement (the work); the ties are given (YtgjbibkppofjfaaDoorTie.lean); close each card by the builder's one call (the guide's Derived/Test/ToyasCard.lean, 'card_holds'). Laid BY PROGRAM, IN A SANDBOX (cutbox-door.mjs). By AI agents, Wed Nov 11 2026. No macro, syntax, notation, axiom, sorry.
-/
import Derived.Test.YtgjbibkppofjfaaDoorRows
import GoSem.ClaimSeven
namespace Go.Proofs.YtgjbibkppofjfaaDoor
namespace Rows

/-- THE TIED CARD OF 'laws.FnExactPeepCode'. -/
def fnExactPeepCodeCard : Claim7 := { stood := { row := fnExactPeepCodeRow, standIns := [], harness := (true, "1968f03ea102e07d471c6eaa671f3e96d2a4cb6436091fcf0c78837c23bb19b3"), looks := false }, kinds := [], alts := [], laidByText := true, laidKinds := [.data], laidTests := true, laidLooks := .later }
def FnExactPeepCodeCardSaid : Prop := Claim7.holds Tryd.pinned (.plain (OpenSpec.ofChange fnExactPeepCodeSpec)) fnExactPeepCodeCard

/-- THE SECOND FORM's CARD OF 'laws.FnExactPeepCode'. -/
def fnExactPeepCodeUptoCard : Claim7 := { stood := { row := fnExactPeepCodeUptoRow, standIns := [], harness := (true, "1968f03ea102e07d471c6eaa671f3e96d2a4cb6436091fcf0c78837c23bb19b3"), looks := false }, kinds := [], alts := [], laidByText := true, laidKinds := [.data], laidTests := true, laidLooks := .later }
def FnExactPeepCodeUptoCardSaid : Prop := Claim7.holds Tryd.pinned (.plain (OpenSpec.upto fnExactPeepCodeSpec)) fnExactPeepCodeUptoCard
end Rows
end Go.Proofs.YtgjbibkppofjfaaDoor
