/-
  DERIVED. GIVEN WITH THE SEED: THE CARDS: each row of YtmiiceihcdbfhaaDoorRows.lean that lists a variable, with what it lists TIED to the program's text (the seventh form; the later family's looks); each row that meets fmt, with fmt's text TOLD by the authors' own Lean function (tested against real Go, not proved from fmt's source: count such statements apart). THE CARD IS WHAT COUNTS. Prove the row's statement (the work); the ties are given (YtmiiceihcdbfhaaDoorTie.lean); close each card by the builder's one call (the guide's Derived/Test/ToyasCard.lean, 'card_holds'). Laid BY PROGRAM, IN A SANDBOX (cutbox-door.mjs). By AI agents, Wed Nov 11 2026. No macro, syntax, notation, axiom, sorry.
-/
import Derived.Test.YtmiiceihcdbfhaaDoorRows
import GoSem.ClaimSeven
namespace Go.Proofs.YtmiiceihcdbfhaaDoor
namespace Rows

/-- THE TIED CARD OF 'laws.FnExactEncodeValue'. -/
def fnExactEncodeValueCard : Claim7 := { stood := { row := fnExactEncodeValueRow, standIns := [], harness := (true, "9ffde7cd3f13a173640a249b6e6e72bbb77053187b178dd611d90b20070b8a50"), looks := true }, kinds := [], alts := [], laidByText := true, laidKinds := [.data, .data, .data], laidTests := true, laidLooks := .later }
def FnExactEncodeValueCardSaid : Prop := Claim7.holds Tryd.pinned (.plain (OpenSpec.ofChange fnExactEncodeValueSpec)) fnExactEncodeValueCard

/-- THE TIED CARD OF 'laws.FnExactDecodeNumber'. -/
def fnExactDecodeNumberCard : Claim7 := { stood := { row := fnExactDecodeNumberRow, standIns := [], harness := (true, "9ffde7cd3f13a173640a249b6e6e72bbb77053187b178dd611d90b20070b8a50"), looks := true }, kinds := [], alts := [], laidByText := true, laidKinds := [.data, .data, .data, .sentinel, .sentinel], laidTests := true, laidLooks := .later }
def FnExactDecodeNumberCardSaid : Prop := Claim7.holds Tryd.pinned (.plain (OpenSpec.ofChange fnExactDecodeNumberSpec)) fnExactDecodeNumberCard

/-- THE TIED CARD OF 'laws.FnExactEncodeAll'. -/
def fnExactEncodeAllCard : Claim7 := { stood := { row := fnExactEncodeAllRow, standIns := [], harness := (true, "9ffde7cd3f13a173640a249b6e6e72bbb77053187b178dd611d90b20070b8a50"), looks := true }, kinds := [], alts := [], laidByText := true, laidKinds := [.data, .data, .data], laidTests := true, laidLooks := .later }
def FnExactEncodeAllCardSaid : Prop := Claim7.holds Tryd.pinned (.plain (OpenSpec.ofChange fnExactEncodeAllSpec)) fnExactEncodeAllCard

/-- THE SECOND FORM's CARD OF 'laws.FnExactEncodeValue'. -/
def fnExactEncodeValueUptoCard : Claim7 := { stood := { row := fnExactEncodeValueUptoRow, standIns := [], harness := (true, "9ffde7cd3f13a173640a249b6e6e72bbb77053187b178dd611d90b20070b8a50"), looks := true }, kinds := [], alts := [], laidByText := true, laidKinds := [.data, .data, .data], laidTests := true, laidLooks := .later }
def FnExactEncodeValueUptoCardSaid : Prop := Claim7.holds Tryd.pinned (.plain (OpenSpec.upto fnExactEncodeValueSpec)) fnExactEncodeValueUptoCard

/-- THE SECOND FORM's CARD OF 'laws.FnExactDecodeNumber'. -/
def fnExactDecodeNumberUptoCard : Claim7 := { stood := { row := fnExactDecodeNumberUptoRow, standIns := [], harness := (true, "9ffde7cd3f13a173640a249b6e6e72bbb77053187b178dd611d90b20070b8a50"), looks := true }, kinds := [], alts := [], laidByText := true, laidKinds := [.data, .data, .data, .sentinel, .sentinel], laidTests := true, laidLooks := .later }
def FnExactDecodeNumberUptoCardSaid : Prop := Claim7.holds Tryd.pinned (.plain (OpenSpec.upto fnExactDecodeNumberSpec)) fnExactDecodeNumberUptoCard

/-- THE SECOND FORM's CARD OF 'laws.FnExactEncodeAll'. -/
def fnExactEncodeAllUptoCard : Claim7 := { stood := { row := fnExactEncodeAllUptoRow, standIns := [], harness := (true, "9ffde7cd3f13a173640a249b6e6e72bbb77053187b178dd611d90b20070b8a50"), looks := true }, kinds := [], alts := [], laidByText := true, laidKinds := [.data, .data, .data], laidTests := true, laidLooks := .later }
def FnExactEncodeAllUptoCardSaid : Prop := Claim7.holds Tryd.pinned (.plain (OpenSpec.upto fnExactEncodeAllSpec)) fnExactEncodeAllUptoCard
end Rows
end Go.Proofs.YtmiiceihcdbfhaaDoor
