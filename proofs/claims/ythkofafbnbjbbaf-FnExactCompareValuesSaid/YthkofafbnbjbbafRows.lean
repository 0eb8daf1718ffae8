/-
  No cell of these rows narrows 'for every input' (looked for: loops, veiled, ifaces, maps, wideKeys, modest, calm, conditions, laid).
  DERIVED. THE GIVEN ROWS OF THIS SEAT. 6 by the template 'for every input the law returns true; each argument reads behind the call as it read before'; 0 by the template 'total and deterministic' (their statements: YthkofafbnbjbbafTotals.lean).
  GIVEN WITH THE SEED: the statements are not yours to turn. If you find one false, say at which input.
  Laid BY PROGRAM, IN A SANDBOX (cutbox-rows.mjs): the forced cells as the released guide's own fill.sh prints them over the translation e0352998762b5df5… (all of the seat's roots in one cut). By AI agents, Wed Nov 11 2026. No macro, syntax, notation, axiom, sorry.
-/
import Derived.Test.YthkofafbnbjbbafChecked
import GoSem.Claim
import GoSem.ClaimJoined
import GoSem.ClaimMapViews
import Derived.JoinedTies
import Derived.KernelRfl
namespace Go.Proofs.Ythkofafbnbjbbaf
/- THE CELL 'sum', in the pinned program and in every row, IS THE sha256 OF THE DUMP (.gsa) THAT YthkofafbnbjbbafProg.lean LOADS. Nothing in Lean hashes anything: it is a label: what it is worth is what the hold of that sum in a sandbox is worth. -/
noncomputable def Try.pinned : Pinned := { name := "ythkofafbnbjbbaf", sum := "e0352998762b5df5f096d69129c1314c877b405526f343580489043183c66101", checked := Try.checked }
namespace Rows
def none {H : Type} : Left H := { results := [], args := [] }

/-- 'laws.FnExactChildrenAt': WHATEVER THE INPUT: true; the input reads as it did. -/
def fnExactChildrenAtSpec : ChangeSpec := { name := "fnExactChildrenAt", fn := fun _ => fun
  | [d1, d2] => { results := [.lit (.bool true)], args := [d1, d2] }
  | _ => none }
def fnExactChildrenAtRow : OpenClaim := { program := "ythkofafbnbjbbaf", sum := "e0352998762b5df5f096d69129c1314c877b405526f343580489043183c66101", func := "loop.example/g00166/laws.FnExactChildrenAt", spec := "fnExactChildrenAt", recurses := true, apart := false }
def FnExactChildrenAtSaid : Prop := fnExactChildrenAtRow.holds Try.pinned (OpenSpec.ofChange fnExactChildrenAtSpec)

/-- ITS FALSE NEIGHBOUR: 'it returns false'. Refute it at one input. -/
def fnExactChildrenAtWrong : ChangeSpec := { name := "fnExactChildrenAt", fn := fun _ => fun
  | [d1, d2] => { results := [.lit (.bool false)], args := [d1, d2] }
  | _ => none }
def FnExactChildrenAtWrongFalsely : Prop := fnExactChildrenAtRow.holds Try.pinned (OpenSpec.ofChange fnExactChildrenAtWrong)

/-- 'laws.FnExactPartAt': WHATEVER THE INPUT: true; the input reads as it did. -/
def fnExactPartAtSpec : ChangeSpec := { name := "fnExactPartAt", fn := fun _ => fun
  | [d1, d2] => { results := [.lit (.bool true)], args := [d1, d2] }
  | _ => none }
def fnExactPartAtRow : OpenClaim := { program := "ythkofafbnbjbbaf", sum := "e0352998762b5df5f096d69129c1314c877b405526f343580489043183c66101", func := "loop.example/g00166/laws.FnExactPartAt", spec := "fnExactPartAt", recurses := true, apart := false }
def FnExactPartAtSaid : Prop := fnExactPartAtRow.holds Try.pinned (OpenSpec.ofChange fnExactPartAtSpec)

/-- ITS FALSE NEIGHBOUR: 'it returns false'. Refute it at one input. -/
def fnExactPartAtWrong : ChangeSpec := { name := "fnExactPartAt", fn := fun _ => fun
  | [d1, d2] => { results := [.lit (.bool false)], args := [d1, d2] }
  | _ => none }
def FnExactPartAtWrongFalsely : Prop := fnExactPartAtRow.holds Try.pinned (OpenSpec.ofChange fnExactPartAtWrong)

/-- 'laws.FnExactCompareValues': WHATEVER THE INPUT: true; the input reads as it did. -/
def fnExactCompareValuesSpec : ChangeSpec := { name := "fnExactCompareValues", fn := fun _ => fun
  | [d1, d2] => { results := [.lit (.bool true)], args := [d1, d2] }
  | _ => none }
def fnExactCompareValuesRow : OpenClaim := { program := "ythkofafbnbjbbaf", sum := "e0352998762b5df5f096d69129c1314c877b405526f343580489043183c66101", func := "loop.example/g00166/laws.FnExactCompareValues", spec := "fnExactCompareValues", inPlace := ["internal/bytealg.abigen_runtime_cmpstring"], recurses := true, apart := false }
def FnExactCompareValuesSaid : Prop := fnExactCompareValuesRow.holds Try.pinned (OpenSpec.ofChange fnExactCompareValuesSpec)

/-- ITS FALSE NEIGHBOUR: 'it returns false'. Refute it at one input. -/
def fnExactCompareValuesWrong : ChangeSpec := { name := "fnExactCompareValues", fn := fun _ => fun
  | [d1, d2] => { results := [.lit (.bool false)], args := [d1, d2] }
  | _ => none }
def FnExactCompareValuesWrongFalsely : Prop := fnExactCompareValuesRow.holds Try.pinned (OpenSpec.ofChange fnExactCompareValuesWrong)

/-- 'laws.FnExactSameValues': WHATEVER THE INPUT: true; the input reads as it did. -/
def fnExactSameValuesSpec : ChangeSpec := { name := "fnExactSameValues", fn := fun _ => fun
  | [d1, d2] => { results := [.lit (.bool true)], args := [d1, d2] }
  | _ => none }
def fnExactSameValuesRow : OpenClaim := { program := "ythkofafbnbjbbaf", sum := "e0352998762b5df5f096d69129c1314c877b405526f343580489043183c66101", func := "loop.example/g00166/laws.FnExactSameValues", spec := "fnExactSameValues", inPlace := ["internal/bytealg.abigen_runtime_cmpstring"], recurses := true, apart := false }
def FnExactSameValuesSaid : Prop := fnExactSameValuesRow.holds Try.pinned (OpenSpec.ofChange fnExactSameValuesSpec)

/-- ITS FALSE NEIGHBOUR: 'it returns false'. Refute it at one input. -/
def fnExactSameValuesWrong : ChangeSpec := { name := "fnExactSameValues", fn := fun _ => fun
  | [d1, d2] => { results := [.lit (.bool false)], args := [d1, d2] }
  | _ => none }
def FnExactSameValuesWrongFalsely : Prop := fnExactSameValuesRow.holds Try.pinned (OpenSpec.ofChange fnExactSameValuesWrong)

/-- 'laws.FnExactNumberValue': WHATEVER THE INPUT: true; the input reads as it did. -/
def fnExactNumberValueSpec : ChangeSpec := { name := "fnExactNumberValue", fn := fun _ => fun
  | [d] => { results := [.lit (.bool true)], args := [d] }
  | _ => none }
def fnExactNumberValueRow : OpenClaim := { program := "ythkofafbnbjbbaf", sum := "e0352998762b5df5f096d69129c1314c877b405526f343580489043183c66101", func := "loop.example/g00166/laws.FnExactNumberValue", spec := "fnExactNumberValue", apart := false }
def FnExactNumberValueSaid : Prop := fnExactNumberValueRow.holds Try.pinned (OpenSpec.ofChange fnExactNumberValueSpec)

/-- ITS FALSE NEIGHBOUR: 'it returns false'. Refute it at one input. -/
def fnExactNumberValueWrong : ChangeSpec := { name := "fnExactNumberValue", fn := fun _ => fun
  | [d] => { results := [.lit (.bool false)], args := [d] }
  | _ => none }
def FnExactNumberValueWrongFalsely : Prop := fnExactNumberValueRow.holds Try.pinned (OpenSpec.ofChange fnExactNumberValueWrong)

/-- 'laws.FnExactStringValue': WHATEVER THE INPUT: true; the input reads as it did. -/
def fnExactStringValueSpec : ChangeSpec := { name := "fnExactStringValue", fn := fun _ => fun
  | [d] => { results := [.lit (.bool true)], args := [d] }
  | _ => none }
def fnExactStringValueRow : OpenClaim := { program := "ythkofafbnbjbbaf", sum := "e0352998762b5df5f096d69129c1314c877b405526f343580489043183c66101", func := "loop.example/g00166/laws.FnExactStringValue", spec := "fnExactStringValue", apart := false }
def FnExactStringValueSaid : Prop := fnExactStringValueRow.holds Try.pinned (OpenSpec.ofChange fnExactStringValueSpec)

/-- ITS FALSE NEIGHBOUR: 'it returns false'. Refute it at one input. -/
def fnExactStringValueWrong : ChangeSpec := { name := "fnExactStringValue", fn := fun _ => fun
  | [d] => { results := [.lit (.bool false)], args := [d] }
  | _ => none }
def FnExactStringValueWrongFalsely : Prop := fnExactStringValueRow.holds Try.pinned (OpenSpec.ofChange fnExactStringValueWrong)

/- THE SECOND FORM. 'bulk': how many values and letters a reading holds, each counted each time it is reached (what is shared counts as often as it is met; a slice's spare places count too). A statement '..UptoSaid' is the law's where the arguments, and the package variables that the reading takes, are together of bulk at most 1048576: NARROWER than '..Said'. Prove '..Said' where nothing that the law and all that it calls make is longer than what came in: it says more and counts as full. Else prove '..UptoSaid'. A law counts once. -/
mutual
def uptoBulk {H : Type} : DataW H → Nat
  | .lit (.string bytes) => bytes.length + 1
  | .lit _ => 1
  | .nil => 1
  | .ptr d => uptoBulk d + 1
  | .slice elems spare => uptoBulkAll elems + uptoBulkAll spare + 1
  | .agg parts => uptoBulkAll parts + 1
  | .iface _ d => uptoBulk d + 1
  | .map entries => uptoBulkEntries entries + 1
  | .held _ => 1
def uptoBulkAll {H : Type} : List (DataW H) → Nat
  | [] => 0
  | d :: r => uptoBulk d + uptoBulkAll r
def uptoBulkEntries {H : Type} : List (Lit × DataW H) → Nat
  | [] => 0
  | x :: r => uptoBulkEntry x + uptoBulkEntries r
def uptoBulkEntry {H : Type} : Lit × DataW H → Nat
  | (.string bytes, d) => bytes.length + uptoBulk d + 1
  | (_, d) => uptoBulk d + 1
 end
def uptoSmall : (H : Type) → List (DataW H) → Bool := fun _ ds => decide (uptoBulkAll ds ≤ 1048576)
def OpenSpec.upto (s : _root_.Go.ChangeSpec) : _root_.Go.OpenSpec := { _root_.Go.OpenSpec.ofChange s with cond := some uptoSmall }

/-- 'laws.FnExactChildrenAt', WHERE WHAT IT READS IS OF BULK AT MOST 1048576: true; the input reads as it did. -/
def fnExactChildrenAtUptoRow : OpenClaim := { program := "ythkofafbnbjbbaf", sum := "e0352998762b5df5f096d69129c1314c877b405526f343580489043183c66101", func := "loop.example/g00166/laws.FnExactChildrenAt", spec := "fnExactChildrenAt", recurses := true, apart := false, narrowed := true }
def FnExactChildrenAtUptoSaid : Prop := fnExactChildrenAtUptoRow.holds Try.pinned (OpenSpec.upto fnExactChildrenAtSpec)

/-- 'laws.FnExactPartAt', WHERE WHAT IT READS IS OF BULK AT MOST 1048576: true; the input reads as it did. -/
def fnExactPartAtUptoRow : OpenClaim := { program := "ythkofafbnbjbbaf", sum := "e0352998762b5df5f096d69129c1314c877b405526f343580489043183c66101", func := "loop.example/g00166/laws.FnExactPartAt", spec := "fnExactPartAt", recurses := true, apart := false, narrowed := true }
def FnExactPartAtUptoSaid : Prop := fnExactPartAtUptoRow.holds Try.pinned (OpenSpec.upto fnExactPartAtSpec)

/-- 'laws.FnExactCompareValues', WHERE WHAT IT READS IS OF BULK AT MOST 1048576: true; the input reads as it did. -/
def fnExactCompareValuesUptoRow : OpenClaim := { program := "ythkofafbnbjbbaf", sum := "e0352998762b5df5f096d69129c1314c877b405526f343580489043183c66101", func := "loop.example/g00166/laws.FnExactCompareValues", spec := "fnExactCompareValues", inPlace := ["internal/bytealg.abigen_runtime_cmpstring"], recurses := true, apart := false, narrowed := true }
def FnExactCompareValuesUptoSaid : Prop := fnExactCompareValuesUptoRow.holds Try.pinned (OpenSpec.upto fnExactCompareValuesSpec)

/-- 'laws.FnExactSameValues', WHERE WHAT IT READS IS OF BULK AT MOST 1048576: true; the input reads as it did. -/
def fnExactSameValuesUptoRow : OpenClaim := { program := "ythkofafbnbjbbaf", sum := "e0352998762b5df5f096d69129c1314c877b405526f343580489043183c66101", func := "loop.example/g00166/laws.FnExactSameValues", spec := "fnExactSameValues", inPlace := ["internal/bytealg.abigen_runtime_cmpstring"], recurses := true, apart := false, narrowed := true }
def FnExactSameValuesUptoSaid : Prop := fnExactSameValuesUptoRow.holds Try.pinned (OpenSpec.upto fnExactSameValuesSpec)

/-- 'laws.FnExactNumberValue', WHERE WHAT IT READS IS OF BULK AT MOST 1048576: true; the input reads as it did. -/
def fnExactNumberValueUptoRow : OpenClaim := { program := "ythkofafbnbjbbaf", sum := "e0352998762b5df5f096d69129c1314c877b405526f343580489043183c66101", func := "loop.example/g00166/laws.FnExactNumberValue", spec := "fnExactNumberValue", apart := false, narrowed := true }
def FnExactNumberValueUptoSaid : Prop := fnExactNumberValueUptoRow.holds Try.pinned (OpenSpec.upto fnExactNumberValueSpec)

/-- 'laws.FnExactStringValue', WHERE WHAT IT READS IS OF BULK AT MOST 1048576: true; the input reads as it did. -/
def fnExactStringValueUptoRow : OpenClaim := { program := "ythkofafbnbjbbaf", sum := "e0352998762b5df5f096d69129c1314c877b405526f343580489043183c66101", func := "loop.example/g00166/laws.FnExactStringValue", spec := "fnExactStringValue", apart := false, narrowed := true }
def FnExactStringValueUptoSaid : Prop := fnExactStringValueUptoRow.holds Try.pinned (OpenSpec.upto fnExactStringValueSpec)

end Rows
end Go.Proofs.Ythkofafbnbjbbaf
