/-
  NARROWER THAN 'FOR EVERY INPUT', by the rows' own cells (each row's printed sentence says how): FnExactPeepCode: laid.
  DERIVED. THE GIVEN ROWS OF THIS SEAT. 1 by the template 'for every input the law returns true; each argument reads behind the call as it read before'; 0 by the template 'total and deterministic' (their statements: YtgjbibkppofjfaaDoorTotals.lean).
  GIVEN WITH THE SEED: the statements are not yours to turn. If you find one false, say at which input.
  Laid BY PROGRAM, IN A SANDBOX (cutbox-rows.mjs): the forced cells as the released guide's own fill.sh prints them over the translation 915bddfbb4436fe2… (all of the seat's roots in one cut). By AI agents, Wed Nov 11 2026. No macro, syntax, notation, axiom, sorry.
-/
import Derived.Test.YtgjbibkppofjfaaDoorChecked
import GoSem.Claim
import GoSem.ClaimJoined
import GoSem.ClaimMapViews
import Derived.JoinedTies
import Derived.KernelRfl
namespace Go.Proofs.YtgjbibkppofjfaaDoor
/- THE CELL 'sum', in the pinned program and in every row, IS THE sha256 OF THE DUMP (.gsa) THAT YtgjbibkppofjfaaDoorProg.lean LOADS. Nothing in Lean hashes anything: it is a label: what it is worth is what the hold of that sum in a sandbox is worth. -/
noncomputable def Tryd.pinned : Pinned := { name := "ytgjbibkppofjfaadoor", sum := "915bddfbb4436fe27cdae72f09804b89f72012344430d071c39e50cfee2e723c", checked := Tryd.checked }
namespace Rows
def none {H : Type} : Left H := { results := [], args := [] }

/- WHAT THE LISTED PACKAGE-LEVEL VARIABLES READ AS WHEN THE CALL BEGINS. Each datum BY PROGRAM (the guide's laid-datum.mjs) off the statement by which the dump's own 'gosem.cut.vars' lays the variable. In a bare row this is a premise. The card (YtgjbibkppofjfaaDoorCards.lean) ties it to the program's text. -/
def laid_loop_example_g00166_impl_inShapes {H : Type} : DataW H := .agg [.agg [.lit (.string []), .lit (.int .i64 0), .lit (.bool false), .lit (.int .i64 0), .lit (.int .i64 0), .lit (.bool false)], .agg [.lit (.string [100, 117, 112]), .lit (.int .i64 0), .lit (.bool false), .lit (.int .i64 1), .lit (.int .i64 2), .lit (.bool false)], .agg [.lit (.string [112, 111, 112]), .lit (.int .i64 0), .lit (.bool false), .lit (.int .i64 1), .lit (.int .i64 0), .lit (.bool false)], .agg [.lit (.string [112, 117, 115, 104]), .lit (.int .i64 0), .lit (.bool true), .lit (.int .i64 0), .lit (.int .i64 1), .lit (.bool false)], .agg [.lit (.string [115, 119, 97, 112]), .lit (.int .i64 0), .lit (.bool false), .lit (.int .i64 2), .lit (.int .i64 2), .lit (.bool false)], .agg [.lit (.string [98, 105, 110]), .lit (.int .i64 1), .lit (.bool false), .lit (.int .i64 2), .lit (.int .i64 1), .lit (.bool false)], .agg [.lit (.string [97, 116]), .lit (.int .i64 0), .lit (.bool false), .lit (.int .i64 2), .lit (.int .i64 1), .lit (.bool false)], .agg [.lit (.string [101, 97, 99, 104]), .lit (.int .i64 0), .lit (.bool false), .lit (.int .i64 1), .lit (.int .i64 1), .lit (.bool false)], .agg [.lit (.string [100, 111]), .lit (.int .i64 2), .lit (.bool false), .lit (.int .i64 1), .lit (.int .i64 1), .lit (.bool false)], .agg [.lit (.string [109, 101, 109, 98, 101, 114]), .lit (.int .i64 0), .lit (.bool true), .lit (.int .i64 2), .lit (.int .i64 1), .lit (.bool false)], .agg [.lit (.string [106, 117, 109, 112]), .lit (.int .i64 3), .lit (.bool false), .lit (.int .i64 0), .lit (.int .i64 0), .lit (.bool true)], .agg [.lit (.string [117, 110, 108, 101, 115, 115]), .lit (.int .i64 3), .lit (.bool false), .lit (.int .i64 1), .lit (.int .i64 0), .lit (.bool false)], .agg [.lit (.string [102, 111, 114, 107]), .lit (.int .i64 3), .lit (.bool false), .lit (.int .i64 0), .lit (.int .i64 0), .lit (.bool false)], .agg [.lit (.string [116, 114, 121]), .lit (.int .i64 3), .lit (.bool false), .lit (.int .i64 0), .lit (.int .i64 0), .lit (.bool false)], .agg [.lit (.string [97, 108, 116]), .lit (.int .i64 3), .lit (.bool false), .lit (.int .i64 0), .lit (.int .i64 0), .lit (.bool false)], .agg [.lit (.string [98, 97, 99, 107]), .lit (.int .i64 0), .lit (.bool false), .lit (.int .i64 0), .lit (.int .i64 0), .lit (.bool true)], .agg [.lit (.string [115, 116, 111, 114, 101]), .lit (.int .i64 4), .lit (.bool false), .lit (.int .i64 1), .lit (.int .i64 0), .lit (.bool false)], .agg [.lit (.string [108, 111, 97, 100]), .lit (.int .i64 4), .lit (.bool false), .lit (.int .i64 0), .lit (.int .i64 1), .lit (.bool false)], .agg [.lit (.string [97, 112, 112, 101, 110, 100]), .lit (.int .i64 4), .lit (.bool false), .lit (.int .i64 1), .lit (.int .i64 0), .lit (.bool false)], .agg [.lit (.string [101, 109, 105, 116]), .lit (.int .i64 0), .lit (.bool false), .lit (.int .i64 1), .lit (.int .i64 0), .lit (.bool true)]]

/-- 'laws.FnExactPeepCode': WHATEVER THE INPUT: true; the input reads as it did. -/
def fnExactPeepCodeSpec : ChangeSpec := { name := "fnExactPeepCode", vars := ["loop.example/g00166/impl.inShapes"], fn := fun _ => fun
  | [d1, d2, g1] => { results := [.lit (.bool true)], args := [d1, d2], vars := [g1] }
  | _ => none }
def fnExactPeepCodeRow : OpenClaim := { program := "ytgjbibkppofjfaadoor", sum := "915bddfbb4436fe27cdae72f09804b89f72012344430d071c39e50cfee2e723c", func := "loop.example/g00166/laws.FnExactPeepCode", spec := "fnExactPeepCode", unfollowed := true, recurses := true, named := ["loop.example/g00166/impl.inShapes"], apart := false, laid := [("loop.example/g00166/impl.inShapes", laid_loop_example_g00166_impl_inShapes)] }
def FnExactPeepCodeSaid : Prop := fnExactPeepCodeRow.holds Tryd.pinned (OpenSpec.ofChange fnExactPeepCodeSpec)

/-- ITS FALSE NEIGHBOUR: 'it returns false'. Refute it at one input. -/
def fnExactPeepCodeWrong : ChangeSpec := { name := "fnExactPeepCode", vars := ["loop.example/g00166/impl.inShapes"], fn := fun _ => fun
  | [d1, d2, g1] => { results := [.lit (.bool false)], args := [d1, d2], vars := [g1] }
  | _ => none }
def FnExactPeepCodeWrongFalsely : Prop := fnExactPeepCodeRow.holds Tryd.pinned (OpenSpec.ofChange fnExactPeepCodeWrong)

/- THE SECOND FORM. 'bulk': how many values and letters a reading holds, each counted each time it is reached (what is shared counts as often as it is met; a slice's spare places count too). A statement '..UptoSaid' is the law's where the arguments, and the package variables that the reading takes, are together of bulk at most 1048576: NARROWER than '..Said'. Prove '..Said' where nothing that the law and all that it calls make is longer than what came in: it says more and counts as full. Else prove '..UptoSaid'. A law counts once. -/
mutual
def uptoBulk {H : Type} : DataW H → Nat
  | .lit (.string bytes) => bytes.length + 1
  | .lit _ => 1
  | .nil => 1
  | .ptr d => uptoBulk d + 1
  | .slice elems spare => uptoBulkAll elems + uptoBulkAll spare + 1
  | .agg parts => uptoBulkAll parts + 1
  | .iface _ d => uptoBulk d + 1
  | .map entries => uptoBulkEntries entries + 1
  | .held _ => 1
def uptoBulkAll {H : Type} : List (DataW H) → Nat
  | [] => 0
  | d :: r => uptoBulk d + uptoBulkAll r
def uptoBulkEntries {H : Type} : List (Lit × DataW H) → Nat
  | [] => 0
  | x :: r => uptoBulkEntry x + uptoBulkEntries r
def uptoBulkEntry {H : Type} : Lit × DataW H → Nat
  | (.string bytes, d) => bytes.length + uptoBulk d + 1
  | (_, d) => uptoBulk d + 1
 end
def uptoSmall : (H : Type) → List (DataW H) → Bool := fun _ ds => decide (uptoBulkAll ds ≤ 1048576)
def OpenSpec.upto (s : _root_.Go.ChangeSpec) : _root_.Go.OpenSpec := { _root_.Go.OpenSpec.ofChange s with cond := some uptoSmall }

/-- 'laws.FnExactPeepCode', WHERE WHAT IT READS IS OF BULK AT MOST 1048576: true; the input reads as it did. -/
def fnExactPeepCodeUptoRow : OpenClaim := { program := "ytgjbibkppofjfaadoor", sum := "915bddfbb4436fe27cdae72f09804b89f72012344430d071c39e50cfee2e723c", func := "loop.example/g00166/laws.FnExactPeepCode", spec := "fnExactPeepCode", unfollowed := true, recurses := true, named := ["loop.example/g00166/impl.inShapes"], apart := false, laid := [("loop.example/g00166/impl.inShapes", laid_loop_example_g00166_impl_inShapes)], narrowed := true }
def FnExactPeepCodeUptoSaid : Prop := fnExactPeepCodeUptoRow.holds Tryd.pinned (OpenSpec.upto fnExactPeepCodeSpec)

end Rows
end Go.Proofs.YtgjbibkppofjfaaDoor
