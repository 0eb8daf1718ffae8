/-
  DERIVED. GIVEN WITH THE SEED: THE CARDS: each row of YtepfdlbnnkojbaaGreatDoorRows.lean that lists a variable, with what it lists TIED to the program's text (the seventh form; the later family's looks); each row that meets fmt, with fmt's text TOLD by the authors' own Lean function (tested against real Go, not proved from fmt's source: count such statements apart). THE CARD IS WHAT COUNTS. Prove the row's statement (the work); the ties are given (YtepfdlbnnkojbaaGreatDoorTie.lean); close each card by the builder's one call (the guide's Derived/Test/ToyasCard.lean, 'card_holds'). Laid BY PROGRAM, IN A SANDBOX (cutbox-door.mjs). By AI agents, Wed Nov 11 2026. No macro, syntax, notation, axiom, sorry.
-/
import Derived.Test.YtepfdlbnnkojbaaGreatDoorRows
import GoSem.ClaimSeven
namespace Go.Proofs.YtepfdlbnnkojbaaGreatDoor
namespace Rows

/-- THE TIED CARD OF 'laws.FnExactDecodeValue'. -/
def fnExactDecodeValueCard : Claim7 := { stood := { row := fnExactDecodeValueRow, standIns := [], harness := (true, "67e6c92ddb1128163d5ead89d48795bf7ab934eaf868c35ac32495b0df9c4ff3"), looks := true }, kinds := [], alts := [], laidByText := true, laidKinds := [.data, .data, .data, .handle, .sentinel, .sentinel], laidTests := true, laidLooks := .later }
def FnExactDecodeValueCardSaid : Prop := Claim7.holds Tryz.pinned (.plain (OpenSpec.ofChange fnExactDecodeValueSpec)) fnExactDecodeValueCard

/-- THE TIED CARD OF 'laws.FnExactDecodeLines'. -/
def fnExactDecodeLinesCard : Claim7 := { stood := { row := fnExactDecodeLinesRow, standIns := [], harness := (true, "67e6c92ddb1128163d5ead89d48795bf7ab934eaf868c35ac32495b0df9c4ff3"), looks := true }, kinds := [], alts := [], laidByText := true, laidKinds := [.data, .data, .data, .data, .handle, .sentinel, .sentinel, .pinned], laidTests := true, laidLooks := .later }
def FnExactDecodeLinesCardSaid : Prop := Claim7.holds Tryz.pinned (.plain (OpenSpec.ofChange fnExactDecodeLinesSpec)) fnExactDecodeLinesCard

/-- THE SECOND FORM's CARD OF 'laws.FnExactDecodeValue'. -/
def fnExactDecodeValueUptoCard : Claim7 := { stood := { row := fnExactDecodeValueUptoRow, standIns := [], harness := (true, "67e6c92ddb1128163d5ead89d48795bf7ab934eaf868c35ac32495b0df9c4ff3"), looks := true }, kinds := [], alts := [], laidByText := true, laidKinds := [.data, .data, .data, .handle, .sentinel, .sentinel], laidTests := true, laidLooks := .later }
def FnExactDecodeValueUptoCardSaid : Prop := Claim7.holds Tryz.pinned (.plain (OpenSpec.upto fnExactDecodeValueSpec)) fnExactDecodeValueUptoCard

/-- THE SECOND FORM's CARD OF 'laws.FnExactDecodeLines'. -/
def fnExactDecodeLinesUptoCard : Claim7 := { stood := { row := fnExactDecodeLinesUptoRow, standIns := [], harness := (true, "67e6c92ddb1128163d5ead89d48795bf7ab934eaf868c35ac32495b0df9c4ff3"), looks := true }, kinds := [], alts := [], laidByText := true, laidKinds := [.data, .data, .data, .data, .handle, .sentinel, .sentinel, .pinned], laidTests := true, laidLooks := .later }
def FnExactDecodeLinesUptoCardSaid : Prop := Claim7.holds Tryz.pinned (.plain (OpenSpec.upto fnExactDecodeLinesSpec)) fnExactDecodeLinesUptoCard
end Rows
end Go.Proofs.YtepfdlbnnkojbaaGreatDoor
