/-
  DERIVED. GIVEN WITH THE SEED: THE CARDS: each row of YtcglddahphkcpaaGreatDoorRows.lean that lists a variable, with what it lists TIED to the program's text (the seventh form; the later family's looks); each row that meets fmt, with fmt's text TOLD by the authors' own Lean function (tested against real Go, not proved from fmt's source: count such statements apart). THE CARD IS WHAT COUNTS. Prove the row's statement (the work); the ties are given (YtcglddahphkcpaaGreatDoorTie.lean); close each card by the builder's one call (the guide's Derived/Test/ToyasCard.lean, 'card_holds'). Laid BY PROGRAM, IN A SANDBOX (cutbox-door.mjs). By AI agents, Wed Nov 11 2026. No macro, syntax, notation, axiom, sorry.
-/
import Derived.Test.YtcglddahphkcpaaGreatDoorRows
import GoSem.ClaimSeven
namespace Go.Proofs.YtcglddahphkcpaaGreatDoor
namespace Rows

/-- THE TIED CARD OF 'laws.FnExactFromStream'. -/
def fnExactFromStreamCard : Claim7 := { stood := { row := fnExactFromStreamRow, standIns := [], harness := (true, "bd17397b3ea2f8008802a652cbba58bc667a2297c0ee9e53990c82e3fe901202"), looks := true }, kinds := [], alts := [], laidByText := true, laidKinds := [.data, .data, .data], laidTests := true, laidLooks := .later }
def FnExactFromStreamCardSaid : Prop := Claim7.holds Tryz.pinned (.plain (OpenSpec.ofChange fnExactFromStreamSpec)) fnExactFromStreamCard

/-- THE TIED CARD OF 'laws.FnExactUnflatText'. -/
def fnExactUnflatTextCard : Claim7 := { stood := { row := fnExactUnflatTextRow, standIns := [], harness := (true, "bd17397b3ea2f8008802a652cbba58bc667a2297c0ee9e53990c82e3fe901202"), looks := true }, kinds := [], alts := [], laidByText := true, laidKinds := [.data, .data, .data, .data, .sentinel, .sentinel, .pinned], laidTests := true, laidLooks := .later }
def FnExactUnflatTextCardSaid : Prop := Claim7.holds Tryz.pinned (.plain (OpenSpec.ofChange fnExactUnflatTextSpec)) fnExactUnflatTextCard

/-- THE TIED CARD OF 'laws.FnStreams'. -/
def fnStreamsCard : Claim7 := { stood := { row := fnStreamsRow, standIns := [], harness := (true, "bd17397b3ea2f8008802a652cbba58bc667a2297c0ee9e53990c82e3fe901202"), looks := true }, kinds := [], alts := [], laidByText := true, laidKinds := [.data, .data, .data], laidTests := true, laidLooks := .later }
def FnStreamsCardSaid : Prop := Claim7.holds Tryz.pinned (.plain (OpenSpec.ofChange fnStreamsSpec)) fnStreamsCard

/-- THE TIED CARD OF 'laws.FnPrints'. -/
def fnPrintsCard : Claim7 := { stood := { row := fnPrintsRow, standIns := [], harness := (true, "bd17397b3ea2f8008802a652cbba58bc667a2297c0ee9e53990c82e3fe901202"), looks := true }, kinds := [], alts := [], laidByText := true, laidKinds := [.data, .data, .data, .data, .handle, .sentinel, .sentinel, .pinned], laidTests := true, laidLooks := .later }
def FnPrintsCardSaid : Prop := Claim7.holds Tryz.pinned (.plain (OpenSpec.ofChange fnPrintsSpec)) fnPrintsCard

/-- THE SECOND FORM's CARD OF 'laws.FnExactFromStream'. -/
def fnExactFromStreamUptoCard : Claim7 := { stood := { row := fnExactFromStreamUptoRow, standIns := [], harness := (true, "bd17397b3ea2f8008802a652cbba58bc667a2297c0ee9e53990c82e3fe901202"), looks := true }, kinds := [], alts := [], laidByText := true, laidKinds := [.data, .data, .data], laidTests := true, laidLooks := .later }
def FnExactFromStreamUptoCardSaid : Prop := Claim7.holds Tryz.pinned (.plain (OpenSpec.upto fnExactFromStreamSpec)) fnExactFromStreamUptoCard

/-- THE SECOND FORM's CARD OF 'laws.FnExactUnflatText'. -/
def fnExactUnflatTextUptoCard : Claim7 := { stood := { row := fnExactUnflatTextUptoRow, standIns := [], harness := (true, "bd17397b3ea2f8008802a652cbba58bc667a2297c0ee9e53990c82e3fe901202"), looks := true }, kinds := [], alts := [], laidByText := true, laidKinds := [.data, .data, .data, .data, .sentinel, .sentinel, .pinned], laidTests := true, laidLooks := .later }
def FnExactUnflatTextUptoCardSaid : Prop := Claim7.holds Tryz.pinned (.plain (OpenSpec.upto fnExactUnflatTextSpec)) fnExactUnflatTextUptoCard

/-- THE SECOND FORM's CARD OF 'laws.FnStreams'. -/
def fnStreamsUptoCard : Claim7 := { stood := { row := fnStreamsUptoRow, standIns := [], harness := (true, "bd17397b3ea2f8008802a652cbba58bc667a2297c0ee9e53990c82e3fe901202"), looks := true }, kinds := [], alts := [], laidByText := true, laidKinds := [.data, .data, .data], laidTests := true, laidLooks := .later }
def FnStreamsUptoCardSaid : Prop := Claim7.holds Tryz.pinned (.plain (OpenSpec.upto fnStreamsSpec)) fnStreamsUptoCard

/-- THE SECOND FORM's CARD OF 'laws.FnPrints'. -/
def fnPrintsUptoCard : Claim7 := { stood := { row := fnPrintsUptoRow, standIns := [], harness := (true, "bd17397b3ea2f8008802a652cbba58bc667a2297c0ee9e53990c82e3fe901202"), looks := true }, kinds := [], alts := [], laidByText := true, laidKinds := [.data, .data, .data, .data, .handle, .sentinel, .sentinel, .pinned], laidTests := true, laidLooks := .later }
def FnPrintsUptoCardSaid : Prop := Claim7.holds Tryz.pinned (.plain (OpenSpec.upto fnPrintsSpec)) fnPrintsUptoCard
end Rows
end Go.Proofs.YtcglddahphkcpaaGreatDoor
