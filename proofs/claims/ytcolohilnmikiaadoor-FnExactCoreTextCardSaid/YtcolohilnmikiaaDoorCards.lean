/-
  DERIVED. GIVEN WITH THE SEED: THE CARDS: each row of YtcolohilnmikiaaDoorRows.lean that lists a variable, with what it lists TIED to the program's text (the seventh form; the later family's looks); each row that meets fmt, with fmt's text TOLD by the authors' own Lean function (tested against real Go, not proved from fmt's source: count such statements apart). THE CARD IS WHAT COUNTS. Prove the row's statement (the work); the ties are given (YtcolohilnmikiaaDoorTie.lean); close each card by the builder's one call (the guide's Derived/Test/ToyasCard.lean, 'card_holds'). Laid BY PROGRAM, IN A SANDBOX (cutbox-door.mjs). By AI agents, Wed Nov 11 2026. No macro, syntax, notation, axiom, sorry.
-/
import Derived.Test.YtcolohilnmikiaaDoorRows
import GoSem.ClaimSeven
namespace Go.Proofs.YtcolohilnmikiaaDoor
namespace Rows

/-- THE TIED CARD OF 'laws.FnExactFormatProgram'. -/
def fnExactFormatProgramCard : Claim7 := { stood := { row := fnExactFormatProgramRow, standIns := [], harness := (true, "f48fe9088a21cbf237c61073062c7a309286a630ded2538a6ea298c9f85c7108"), looks := false }, kinds := [], alts := [], laidByText := true, laidKinds := [.data, .data, .data], laidTests := true, laidLooks := .later }
def FnExactFormatProgramCardSaid : Prop := Claim7.holds Tryd.pinned (.plain (OpenSpec.ofChange fnExactFormatProgramSpec)) fnExactFormatProgramCard

/-- THE TIED CARD OF 'laws.FnExactCoreText'. -/
def fnExactCoreTextCard : Claim7 := { stood := { row := fnExactCoreTextRow, standIns := [], harness := (true, "f48fe9088a21cbf237c61073062c7a309286a630ded2538a6ea298c9f85c7108"), looks := false }, kinds := [], alts := [], laidByText := true, laidKinds := [.data, .data, .data], laidTests := true, laidLooks := .later }
def FnExactCoreTextCardSaid : Prop := Claim7.holds Tryd.pinned (.plain (OpenSpec.ofChange fnExactCoreTextSpec)) fnExactCoreTextCard

/-- THE SECOND FORM's CARD OF 'laws.FnExactFormatProgram'. -/
def fnExactFormatProgramUptoCard : Claim7 := { stood := { row := fnExactFormatProgramUptoRow, standIns := [], harness := (true, "f48fe9088a21cbf237c61073062c7a309286a630ded2538a6ea298c9f85c7108"), looks := false }, kinds := [], alts := [], laidByText := true, laidKinds := [.data, .data, .data], laidTests := true, laidLooks := .later }
def FnExactFormatProgramUptoCardSaid : Prop := Claim7.holds Tryd.pinned (.plain (OpenSpec.upto fnExactFormatProgramSpec)) fnExactFormatProgramUptoCard

/-- THE SECOND FORM's CARD OF 'laws.FnExactCoreText'. -/
def fnExactCoreTextUptoCard : Claim7 := { stood := { row := fnExactCoreTextUptoRow, standIns := [], harness := (true, "f48fe9088a21cbf237c61073062c7a309286a630ded2538a6ea298c9f85c7108"), looks := false }, kinds := [], alts := [], laidByText := true, laidKinds := [.data, .data, .data], laidTests := true, laidLooks := .later }
def FnExactCoreTextUptoCardSaid : Prop := Claim7.holds Tryd.pinned (.plain (OpenSpec.upto fnExactCoreTextSpec)) fnExactCoreTextUptoCard
end Rows
end Go.Proofs.YtcolohilnmikiaaDoor
