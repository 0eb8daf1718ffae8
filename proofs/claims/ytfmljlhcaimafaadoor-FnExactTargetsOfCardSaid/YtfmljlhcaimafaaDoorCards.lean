/-
  DERIVED. GIVEN WITH THE SEED: THE CARDS: each row of YtfmljlhcaimafaaDoorRows.lean that lists a variable, with what it lists TIED to the program's text (the seventh form; the later family's looks); each row that meets fmt, with fmt's text TOLD by the authors' own Lean function (tested against real Go, not proved from fmt's source: count such statements apart). THE CARD IS WHAT COUNTS. Prove the row's statement (the work); the ties are given (YtfmljlhcaimafaaDoorTie.lean); close each card by the builder's one call (the guide's Derived/Test/ToyasCard.lean, 'card_holds'). Laid BY PROGRAM, IN A SANDBOX (cutbox-door.mjs). By AI agents, Wed Nov 11 2026. No macro, syntax, notation, axiom, sorry.
-/
import Derived.Test.YtfmljlhcaimafaaDoorRows
import GoSem.ClaimSeven
namespace Go.Proofs.YtfmljlhcaimafaaDoor
namespace Rows

/-- THE TIED CARD OF 'laws.FnExactCodeFault'. -/
def fnExactCodeFaultCard : Claim7 := { stood := { row := fnExactCodeFaultRow, standIns := [], harness := (true, "00af7fb6340898d1bf9a67d10f775299a98bc6488d3b997aae4701a645b86337"), looks := false }, kinds := [], alts := [], laidByText := true, laidKinds := [.data], laidTests := true, laidLooks := .later }
def FnExactCodeFaultCardSaid : Prop := Claim7.holds Tryd.pinned (.plain (OpenSpec.ofChange fnExactCodeFaultSpec)) fnExactCodeFaultCard

/-- THE TIED CARD OF 'laws.FnExactHeightsOf'. -/
def fnExactHeightsOfCard : Claim7 := { stood := { row := fnExactHeightsOfRow, standIns := [], harness := (true, "00af7fb6340898d1bf9a67d10f775299a98bc6488d3b997aae4701a645b86337"), looks := false }, kinds := [], alts := [], laidByText := true, laidKinds := [.data], laidTests := true, laidLooks := .later }
def FnExactHeightsOfCardSaid : Prop := Claim7.holds Tryd.pinned (.plain (OpenSpec.ofChange fnExactHeightsOfSpec)) fnExactHeightsOfCard

/-- THE TIED CARD OF 'laws.FnExactCodeText'. -/
def fnExactCodeTextCard : Claim7 := { stood := { row := fnExactCodeTextRow, standIns := [], harness := (true, "00af7fb6340898d1bf9a67d10f775299a98bc6488d3b997aae4701a645b86337"), looks := false }, kinds := [], alts := [], laidByText := true, laidKinds := [.data, .data, .data, .data], laidTests := true, laidLooks := .later }
def FnExactCodeTextCardSaid : Prop := Claim7.holds Tryd.pinned (.plain (OpenSpec.ofChange fnExactCodeTextSpec)) fnExactCodeTextCard

/-- THE TIED CARD OF 'laws.FnExactTargetsOf'. -/
def fnExactTargetsOfCard : Claim7 := { stood := { row := fnExactTargetsOfRow, standIns := [], harness := (true, "00af7fb6340898d1bf9a67d10f775299a98bc6488d3b997aae4701a645b86337"), looks := false }, kinds := [], alts := [], laidByText := true, laidKinds := [.data], laidTests := true, laidLooks := .later }
def FnExactTargetsOfCardSaid : Prop := Claim7.holds Tryd.pinned (.plain (OpenSpec.ofChange fnExactTargetsOfSpec)) fnExactTargetsOfCard

/-- THE SECOND FORM's CARD OF 'laws.FnExactCodeFault'. -/
def fnExactCodeFaultUptoCard : Claim7 := { stood := { row := fnExactCodeFaultUptoRow, standIns := [], harness := (true, "00af7fb6340898d1bf9a67d10f775299a98bc6488d3b997aae4701a645b86337"), looks := false }, kinds := [], alts := [], laidByText := true, laidKinds := [.data], laidTests := true, laidLooks := .later }
def FnExactCodeFaultUptoCardSaid : Prop := Claim7.holds Tryd.pinned (.plain (OpenSpec.upto fnExactCodeFaultSpec)) fnExactCodeFaultUptoCard

/-- THE SECOND FORM's CARD OF 'laws.FnExactHeightsOf'. -/
def fnExactHeightsOfUptoCard : Claim7 := { stood := { row := fnExactHeightsOfUptoRow, standIns := [], harness := (true, "00af7fb6340898d1bf9a67d10f775299a98bc6488d3b997aae4701a645b86337"), looks := false }, kinds := [], alts := [], laidByText := true, laidKinds := [.data], laidTests := true, laidLooks := .later }
def FnExactHeightsOfUptoCardSaid : Prop := Claim7.holds Tryd.pinned (.plain (OpenSpec.upto fnExactHeightsOfSpec)) fnExactHeightsOfUptoCard

/-- THE SECOND FORM's CARD OF 'laws.FnExactCodeText'. -/
def fnExactCodeTextUptoCard : Claim7 := { stood := { row := fnExactCodeTextUptoRow, standIns := [], harness := (true, "00af7fb6340898d1bf9a67d10f775299a98bc6488d3b997aae4701a645b86337"), looks := false }, kinds := [], alts := [], laidByText := true, laidKinds := [.data, .data, .data, .data], laidTests := true, laidLooks := .later }
def FnExactCodeTextUptoCardSaid : Prop := Claim7.holds Tryd.pinned (.plain (OpenSpec.upto fnExactCodeTextSpec)) fnExactCodeTextUptoCard

/-- THE SECOND FORM's CARD OF 'laws.FnExactTargetsOf'. -/
def fnExactTargetsOfUptoCard : Claim7 := { stood := { row := fnExactTargetsOfUptoRow, standIns := [], harness := (true, "00af7fb6340898d1bf9a67d10f775299a98bc6488d3b997aae4701a645b86337"), looks := false }, kinds := [], alts := [], laidByText := true, laidKinds := [.data], laidTests := true, laidLooks := .later }
def FnExactTargetsOfUptoCardSaid : Prop := Claim7.holds Tryd.pinned (.plain (OpenSpec.upto fnExactTargetsOfSpec)) fnExactTargetsOfUptoCard
end Rows
end Go.Proofs.YtfmljlhcaimafaaDoor
