/-
  DERIVED. GIVEN WITH THE SEED: THE CARDS: each row of YtakdlcgiieaieaaDoorRows.lean that lists a variable, with what it lists TIED to the program's text (the seventh form; the later family's looks); each row that meets fmt, with fmt's text TOLD by the authors' own Lean function (tested against real Go, not proved from fmt's source: count such statements apart). THE CARD IS WHAT COUNTS. Prove the row's statement (the work); the ties are given (YtakdlcgiieaieaaDoorTie.lean); close each card by the builder's one call (the guide's Derived/Test/ToyasCard.lean, 'card_holds'). Laid BY PROGRAM, IN A SANDBOX (cutbox-door.mjs). By AI agents, Wed Nov 11 2026. No macro, syntax, notation, axiom, sorry.
-/
import Derived.Test.YtakdlcgiieaieaaDoorRows
import GoSem.ClaimSeven
namespace Go.Proofs.YtakdlcgiieaieaaDoor
namespace Rows

/-- THE TIED CARD OF 'laws.FnExactFormatEdits'. -/
def fnExactFormatEditsCard : Claim7 := { stood := { row := fnExactFormatEditsRow, standIns := [], harness := (true, "debbec3873c3c6002737cb8ba955abd34fd43f8f65b017c2293d7f3e7a8a82c4"), looks := false }, kinds := [], alts := [], laidByText := true, laidKinds := [.data, .data, .data], laidTests := true, laidLooks := .later }
def FnExactFormatEditsCardSaid : Prop := Claim7.holds Tryd.pinned (.plain (OpenSpec.ofChange fnExactFormatEditsSpec)) fnExactFormatEditsCard

/-- THE SECOND FORM's CARD OF 'laws.FnExactFormatEdits'. -/
def fnExactFormatEditsUptoCard : Claim7 := { stood := { row := fnExactFormatEditsUptoRow, standIns := [], harness := (true, "debbec3873c3c6002737cb8ba955abd34fd43f8f65b017c2293d7f3e7a8a82c4"), looks := false }, kinds := [], alts := [], laidByText := true, laidKinds := [.data, .data, .data], laidTests := true, laidLooks := .later }
def FnExactFormatEditsUptoCardSaid : Prop := Claim7.holds Tryd.pinned (.plain (OpenSpec.upto fnExactFormatEditsSpec)) fnExactFormatEditsUptoCard
end Rows
end Go.Proofs.YtakdlcgiieaieaaDoor
