/-
  DERIVED. GIVEN WITH THE SEED: THE CARDS: each row of YtejibmfenlcbiaaDoorRows.lean that lists a variable, with what it lists TIED to the program's text (the seventh form; the later family's looks); each row that meets fmt, with fmt's text TOLD by the authors' own Lean function (tested against real Go, not proved from fmt's source: count such statements apart). THE CARD IS WHAT COUNTS. Prove the row's statement (the work); the ties are given (YtejibmfenlcbiaaDoorTie.lean); close each card by the builder's one call (the guide's Derived/Test/ToyasCard.lean, 'card_holds'). Laid BY PROGRAM, IN A SANDBOX (cutbox-door.mjs). By AI agents, Wed Nov 11 2026. No macro, syntax, notation, axiom, sorry.
-/
import Derived.Test.YtejibmfenlcbiaaDoorRows
import GoSem.ClaimSeven
namespace Go.Proofs.YtejibmfenlcbiaaDoor
namespace Rows

/-- THE TIED CARD OF 'laws.FnExactEncodeAll'. -/
def fnExactEncodeAllCard : Claim7 := { stood := { row := fnExactEncodeAllRow, standIns := [], harness := (true, "1495cd6d763ea566c4858cafbafc4f6720cca38b28a8ceb546a2906b7374f91a"), looks := false }, kinds := [], alts := [], laidByText := true, laidKinds := [.data, .data, .data], laidTests := true, laidLooks := .later }
def FnExactEncodeAllCardSaid : Prop := Claim7.holds Tryd.pinned (.plain (OpenSpec.ofChange fnExactEncodeAllSpec)) fnExactEncodeAllCard

/-- THE SECOND FORM's CARD OF 'laws.FnExactEncodeAll'. -/
def fnExactEncodeAllUptoCard : Claim7 := { stood := { row := fnExactEncodeAllUptoRow, standIns := [], harness := (true, "1495cd6d763ea566c4858cafbafc4f6720cca38b28a8ceb546a2906b7374f91a"), looks := false }, kinds := [], alts := [], laidByText := true, laidKinds := [.data, .data, .data], laidTests := true, laidLooks := .later }
def FnExactEncodeAllUptoCardSaid : Prop := Claim7.holds Tryd.pinned (.plain (OpenSpec.upto fnExactEncodeAllSpec)) fnExactEncodeAllUptoCard
end Rows
end Go.Proofs.YtejibmfenlcbiaaDoor
