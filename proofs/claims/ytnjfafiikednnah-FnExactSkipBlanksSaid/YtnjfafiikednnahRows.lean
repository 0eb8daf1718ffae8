/-
  No cell of these rows narrows 'for every input' (looked for: loops, veiled, ifaces, maps, wideKeys, modest, calm, conditions, laid).
  DERIVED. THE GIVEN ROWS OF THIS SEAT. 3 by the template 'for every input the law returns true; each argument reads behind the call as it read before'; 0 by the template 'total and deterministic' (their statements: YtnjfafiikednnahTotals.lean).
  GIVEN WITH THE SEED: the statements are not yours to turn. If you find one false, say at which input.
  Laid BY PROGRAM, IN A SANDBOX (cutbox-rows.mjs): the forced cells as the released guide's own fill.sh prints them over the translation 7d3633d8aafadb3f… (all of the seat's roots in one cut). By AI agents, Wed Nov 11 2026. No macro, syntax, notation, axiom, sorry.
-/
import Derived.Test.YtnjfafiikednnahChecked
import GoSem.Claim
import GoSem.ClaimJoined
import GoSem.ClaimMapViews
import Derived.JoinedTies
import Derived.KernelRfl
namespace Go.Proofs.Ytnjfafiikednnah
/- THE CELL 'sum', in the pinned program and in every row, IS THE sha256 OF THE DUMP (.gsa) THAT YtnjfafiikednnahProg.lean LOADS. Nothing in Lean hashes anything: it is a label: what it is worth is what the hold of that sum in a sandbox is worth. -/
noncomputable def Try.pinned : Pinned := { name := "ytnjfafiikednnah", sum := "7d3633d8aafadb3f4df432c623a3572c295005441fccccba543f55cdbbee3e48", checked := Try.checked }
namespace Rows
def none {H : Type} : Left H := { results := [], args := [] }

/-- 'laws.FnExactEncodeString': WHATEVER THE INPUT: true; the input reads as it did. -/
def fnExactEncodeStringSpec : ChangeSpec := { name := "fnExactEncodeString", fn := fun _ => fun
  | [d] => { results := [.lit (.bool true)], args := [d] }
  | _ => none }
def fnExactEncodeStringRow : OpenClaim := { program := "ytnjfafiikednnah", sum := "7d3633d8aafadb3f4df432c623a3572c295005441fccccba543f55cdbbee3e48", func := "loop.example/g00166/laws.FnExactEncodeString", spec := "fnExactEncodeString", apart := false }
def FnExactEncodeStringSaid : Prop := fnExactEncodeStringRow.holds Try.pinned (OpenSpec.ofChange fnExactEncodeStringSpec)

/-- ITS FALSE NEIGHBOUR: 'it returns false'. Refute it at one input. -/
def fnExactEncodeStringWrong : ChangeSpec := { name := "fnExactEncodeString", fn := fun _ => fun
  | [d] => { results := [.lit (.bool false)], args := [d] }
  | _ => none }
def FnExactEncodeStringWrongFalsely : Prop := fnExactEncodeStringRow.holds Try.pinned (OpenSpec.ofChange fnExactEncodeStringWrong)

/-- 'laws.FnExactSkipBlanks': WHATEVER THE INPUT: true; the input reads as it did. -/
def fnExactSkipBlanksSpec : ChangeSpec := { name := "fnExactSkipBlanks", fn := fun _ => fun
  | [d1, d2] => { results := [.lit (.bool true)], args := [d1, d2] }
  | _ => none }
def fnExactSkipBlanksRow : OpenClaim := { program := "ytnjfafiikednnah", sum := "7d3633d8aafadb3f4df432c623a3572c295005441fccccba543f55cdbbee3e48", func := "loop.example/g00166/laws.FnExactSkipBlanks", spec := "fnExactSkipBlanks", apart := false }
def FnExactSkipBlanksSaid : Prop := fnExactSkipBlanksRow.holds Try.pinned (OpenSpec.ofChange fnExactSkipBlanksSpec)

/-- ITS FALSE NEIGHBOUR: 'it returns false'. Refute it at one input. -/
def fnExactSkipBlanksWrong : ChangeSpec := { name := "fnExactSkipBlanks", fn := fun _ => fun
  | [d1, d2] => { results := [.lit (.bool false)], args := [d1, d2] }
  | _ => none }
def FnExactSkipBlanksWrongFalsely : Prop := fnExactSkipBlanksRow.holds Try.pinned (OpenSpec.ofChange fnExactSkipBlanksWrong)

/-- 'laws.FnExactGetKey': WHATEVER THE INPUT: true; the input reads as it did. -/
def fnExactGetKeySpec : ChangeSpec := { name := "fnExactGetKey", fn := fun _ => fun
  | [d1, d2] => { results := [.lit (.bool true)], args := [d1, d2] }
  | _ => none }
def fnExactGetKeyRow : OpenClaim := { program := "ytnjfafiikednnah", sum := "7d3633d8aafadb3f4df432c623a3572c295005441fccccba543f55cdbbee3e48", func := "loop.example/g00166/laws.FnExactGetKey", spec := "fnExactGetKey", recurses := true, apart := false }
def FnExactGetKeySaid : Prop := fnExactGetKeyRow.holds Try.pinned (OpenSpec.ofChange fnExactGetKeySpec)

/-- ITS FALSE NEIGHBOUR: 'it returns false'. Refute it at one input. -/
def fnExactGetKeyWrong : ChangeSpec := { name := "fnExactGetKey", fn := fun _ => fun
  | [d1, d2] => { results := [.lit (.bool false)], args := [d1, d2] }
  | _ => none }
def FnExactGetKeyWrongFalsely : Prop := fnExactGetKeyRow.holds Try.pinned (OpenSpec.ofChange fnExactGetKeyWrong)

/- THE SECOND FORM. 'bulk': how many values and letters a reading holds, each counted each time it is reached (what is shared counts as often as it is met; a slice's spare places count too). A statement '..UptoSaid' is the law's where the arguments, and the package variables that the reading takes, are together of bulk at most 1048576: NARROWER than '..Said'. Prove '..Said' where nothing that the law and all that it calls make is longer than what came in: it says more and counts as full. Else prove '..UptoSaid'. A law counts once. -/
mutual
def uptoBulk {H : Type} : DataW H → Nat
  | .lit (.string bytes) => bytes.length + 1
  | .lit _ => 1
  | .nil => 1
  | .ptr d => uptoBulk d + 1
  | .slice elems spare => uptoBulkAll elems + uptoBulkAll spare + 1
  | .agg parts => uptoBulkAll parts + 1
  | .iface _ d => uptoBulk d + 1
  | .map entries => uptoBulkEntries entries + 1
  | .held _ => 1
def uptoBulkAll {H : Type} : List (DataW H) → Nat
  | [] => 0
  | d :: r => uptoBulk d + uptoBulkAll r
def uptoBulkEntries {H : Type} : List (Lit × DataW H) → Nat
  | [] => 0
  | x :: r => uptoBulkEntry x + uptoBulkEntries r
def uptoBulkEntry {H : Type} : Lit × DataW H → Nat
  | (.string bytes, d) => bytes.length + uptoBulk d + 1
  | (_, d) => uptoBulk d + 1
 end
def uptoSmall : (H : Type) → List (DataW H) → Bool := fun _ ds => decide (uptoBulkAll ds ≤ 1048576)
def OpenSpec.upto (s : _root_.Go.ChangeSpec) : _root_.Go.OpenSpec := { _root_.Go.OpenSpec.ofChange s with cond := some uptoSmall }

/-- 'laws.FnExactEncodeString', WHERE WHAT IT READS IS OF BULK AT MOST 1048576: true; the input reads as it did. -/
def fnExactEncodeStringUptoRow : OpenClaim := { program := "ytnjfafiikednnah", sum := "7d3633d8aafadb3f4df432c623a3572c295005441fccccba543f55cdbbee3e48", func := "loop.example/g00166/laws.FnExactEncodeString", spec := "fnExactEncodeString", apart := false, narrowed := true }
def FnExactEncodeStringUptoSaid : Prop := fnExactEncodeStringUptoRow.holds Try.pinned (OpenSpec.upto fnExactEncodeStringSpec)

/-- 'laws.FnExactSkipBlanks', WHERE WHAT IT READS IS OF BULK AT MOST 1048576: true; the input reads as it did. -/
def fnExactSkipBlanksUptoRow : OpenClaim := { program := "ytnjfafiikednnah", sum := "7d3633d8aafadb3f4df432c623a3572c295005441fccccba543f55cdbbee3e48", func := "loop.example/g00166/laws.FnExactSkipBlanks", spec := "fnExactSkipBlanks", apart := false, narrowed := true }
def FnExactSkipBlanksUptoSaid : Prop := fnExactSkipBlanksUptoRow.holds Try.pinned (OpenSpec.upto fnExactSkipBlanksSpec)

/-- 'laws.FnExactGetKey', WHERE WHAT IT READS IS OF BULK AT MOST 1048576: true; the input reads as it did. -/
def fnExactGetKeyUptoRow : OpenClaim := { program := "ytnjfafiikednnah", sum := "7d3633d8aafadb3f4df432c623a3572c295005441fccccba543f55cdbbee3e48", func := "loop.example/g00166/laws.FnExactGetKey", spec := "fnExactGetKey", recurses := true, apart := false, narrowed := true }
def FnExactGetKeyUptoSaid : Prop := fnExactGetKeyUptoRow.holds Try.pinned (OpenSpec.upto fnExactGetKeySpec)

end Rows
end Go.Proofs.Ytnjfafiikednnah
