/-
  No cell of these rows narrows 'for every input' (looked for: loops, veiled, ifaces, maps, wideKeys, modest, calm, conditions, laid).
  DERIVED. THE GIVEN ROWS OF THIS SEAT. 4 by the template 'for every input the law returns true; each argument reads behind the call as it read before'; 0 by the template 'total and deterministic' (their statements: YticjccpkgapijagTotals.lean).
  GIVEN WITH THE SEED: the statements are not yours to turn. If you find one false, say at which input.
  Laid BY PROGRAM, IN A SANDBOX (cutbox-rows.mjs): the forced cells as the released guide's own fill.sh prints them over the translation 9ff95fd6dd7d9111… (all of the seat's roots in one cut). By AI agents, Wed Nov 11 2026. No macro, syntax, notation, axiom, sorry.
-/
import Derived.Test.YticjccpkgapijagChecked
import GoSem.Claim
import GoSem.ClaimJoined
import GoSem.ClaimMapViews
import Derived.JoinedTies
import Derived.KernelRfl
namespace Go.Proofs.Yticjccpkgapijag
/- THE CELL 'sum', in the pinned program and in every row, IS THE sha256 OF THE DUMP (.gsa) THAT YticjccpkgapijagProg.lean LOADS. Nothing in Lean hashes anything: it is a label: what it is worth is what the hold of that sum in a sandbox is worth. -/
noncomputable def Try.pinned : Pinned := { name := "yticjccpkgapijag", sum := "9ff95fd6dd7d91116ecee616fe8bb94853c0c3d9ddb0c6bd875c4eda59f233d6", checked := Try.checked }
namespace Rows
def none {H : Type} : Left H := { results := [], args := [] }

/-- 'laws.FnExactArrayValue': WHATEVER THE INPUT: true; the input reads as it did. -/
def fnExactArrayValueSpec : ChangeSpec := { name := "fnExactArrayValue", fn := fun _ => fun
  | [d] => { results := [.lit (.bool true)], args := [d] }
  | _ => none }
def fnExactArrayValueRow : OpenClaim := { program := "yticjccpkgapijag", sum := "9ff95fd6dd7d91116ecee616fe8bb94853c0c3d9ddb0c6bd875c4eda59f233d6", func := "loop.example/g00166/laws.FnExactArrayValue", spec := "fnExactArrayValue", recurses := true, apart := false }
def FnExactArrayValueSaid : Prop := fnExactArrayValueRow.holds Try.pinned (OpenSpec.ofChange fnExactArrayValueSpec)

/-- ITS FALSE NEIGHBOUR: 'it returns false'. Refute it at one input. -/
def fnExactArrayValueWrong : ChangeSpec := { name := "fnExactArrayValue", fn := fun _ => fun
  | [d] => { results := [.lit (.bool false)], args := [d] }
  | _ => none }
def FnExactArrayValueWrongFalsely : Prop := fnExactArrayValueRow.holds Try.pinned (OpenSpec.ofChange fnExactArrayValueWrong)

/-- 'laws.FnExactObjectValue': WHATEVER THE INPUT: true; the input reads as it did. -/
def fnExactObjectValueSpec : ChangeSpec := { name := "fnExactObjectValue", fn := fun _ => fun
  | [d1, d2] => { results := [.lit (.bool true)], args := [d1, d2] }
  | _ => none }
def fnExactObjectValueRow : OpenClaim := { program := "yticjccpkgapijag", sum := "9ff95fd6dd7d91116ecee616fe8bb94853c0c3d9ddb0c6bd875c4eda59f233d6", func := "loop.example/g00166/laws.FnExactObjectValue", spec := "fnExactObjectValue", inPlace := ["internal/bytealg.abigen_runtime_cmpstring"], unfollowed := true, recurses := true, apart := false }
def FnExactObjectValueSaid : Prop := fnExactObjectValueRow.holds Try.pinned (OpenSpec.ofChange fnExactObjectValueSpec)

/-- ITS FALSE NEIGHBOUR: 'it returns false'. Refute it at one input. -/
def fnExactObjectValueWrong : ChangeSpec := { name := "fnExactObjectValue", fn := fun _ => fun
  | [d1, d2] => { results := [.lit (.bool false)], args := [d1, d2] }
  | _ => none }
def FnExactObjectValueWrongFalsely : Prop := fnExactObjectValueRow.holds Try.pinned (OpenSpec.ofChange fnExactObjectValueWrong)

/-- 'laws.FnExactTruthy': WHATEVER THE INPUT: true; the input reads as it did. -/
def fnExactTruthySpec : ChangeSpec := { name := "fnExactTruthy", fn := fun _ => fun
  | [d] => { results := [.lit (.bool true)], args := [d] }
  | _ => none }
def fnExactTruthyRow : OpenClaim := { program := "yticjccpkgapijag", sum := "9ff95fd6dd7d91116ecee616fe8bb94853c0c3d9ddb0c6bd875c4eda59f233d6", func := "loop.example/g00166/laws.FnExactTruthy", spec := "fnExactTruthy", recurses := true, apart := false }
def FnExactTruthySaid : Prop := fnExactTruthyRow.holds Try.pinned (OpenSpec.ofChange fnExactTruthySpec)

/-- ITS FALSE NEIGHBOUR: 'it returns false'. Refute it at one input. -/
def fnExactTruthyWrong : ChangeSpec := { name := "fnExactTruthy", fn := fun _ => fun
  | [d] => { results := [.lit (.bool false)], args := [d] }
  | _ => none }
def FnExactTruthyWrongFalsely : Prop := fnExactTruthyRow.holds Try.pinned (OpenSpec.ofChange fnExactTruthyWrong)

/-- 'laws.FnExactDepthOf': WHATEVER THE INPUT: true; the input reads as it did. -/
def fnExactDepthOfSpec : ChangeSpec := { name := "fnExactDepthOf", fn := fun _ => fun
  | [d] => { results := [.lit (.bool true)], args := [d] }
  | _ => none }
def fnExactDepthOfRow : OpenClaim := { program := "yticjccpkgapijag", sum := "9ff95fd6dd7d91116ecee616fe8bb94853c0c3d9ddb0c6bd875c4eda59f233d6", func := "loop.example/g00166/laws.FnExactDepthOf", spec := "fnExactDepthOf", recurses := true, apart := false }
def FnExactDepthOfSaid : Prop := fnExactDepthOfRow.holds Try.pinned (OpenSpec.ofChange fnExactDepthOfSpec)

/-- ITS FALSE NEIGHBOUR: 'it returns false'. Refute it at one input. -/
def fnExactDepthOfWrong : ChangeSpec := { name := "fnExactDepthOf", fn := fun _ => fun
  | [d] => { results := [.lit (.bool false)], args := [d] }
  | _ => none }
def FnExactDepthOfWrongFalsely : Prop := fnExactDepthOfRow.holds Try.pinned (OpenSpec.ofChange fnExactDepthOfWrong)

/- THE SECOND FORM. 'bulk': how many values and letters a reading holds, each counted each time it is reached (what is shared counts as often as it is met; a slice's spare places count too). A statement '..UptoSaid' is the law's where the arguments, and the package variables that the reading takes, are together of bulk at most 1048576: NARROWER than '..Said'. Prove '..Said' where nothing that the law and all that it calls make is longer than what came in: it says more and counts as full. Else prove '..UptoSaid'. A law counts once. -/
mutual
def uptoBulk {H : Type} : DataW H → Nat
  | .lit (.string bytes) => bytes.length + 1
  | .lit _ => 1
  | .nil => 1
  | .ptr d => uptoBulk d + 1
  | .slice elems spare => uptoBulkAll elems + uptoBulkAll spare + 1
  | .agg parts => uptoBulkAll parts + 1
  | .iface _ d => uptoBulk d + 1
  | .map entries => uptoBulkEntries entries + 1
  | .held _ => 1
def uptoBulkAll {H : Type} : List (DataW H) → Nat
  | [] => 0
  | d :: r => uptoBulk d + uptoBulkAll r
def uptoBulkEntries {H : Type} : List (Lit × DataW H) → Nat
  | [] => 0
  | x :: r => uptoBulkEntry x + uptoBulkEntries r
def uptoBulkEntry {H : Type} : Lit × DataW H → Nat
  | (.string bytes, d) => bytes.length + uptoBulk d + 1
  | (_, d) => uptoBulk d + 1
 end
def uptoSmall : (H : Type) → List (DataW H) → Bool := fun _ ds => decide (uptoBulkAll ds ≤ 1048576)
def OpenSpec.upto (s : _root_.Go.ChangeSpec) : _root_.Go.OpenSpec := { _root_.Go.OpenSpec.ofChange s with cond := some uptoSmall }

/-- 'laws.FnExactArrayValue', WHERE WHAT IT READS IS OF BULK AT MOST 1048576: true; the input reads as it did. -/
def fnExactArrayValueUptoRow : OpenClaim := { program := "yticjccpkgapijag", sum := "9ff95fd6dd7d91116ecee616fe8bb94853c0c3d9ddb0c6bd875c4eda59f233d6", func := "loop.example/g00166/laws.FnExactArrayValue", spec := "fnExactArrayValue", recurses := true, apart := false, narrowed := true }
def FnExactArrayValueUptoSaid : Prop := fnExactArrayValueUptoRow.holds Try.pinned (OpenSpec.upto fnExactArrayValueSpec)

/-- 'laws.FnExactObjectValue', WHERE WHAT IT READS IS OF BULK AT MOST 1048576: true; the input reads as it did. -/
def fnExactObjectValueUptoRow : OpenClaim := { program := "yticjccpkgapijag", sum := "9ff95fd6dd7d91116ecee616fe8bb94853c0c3d9ddb0c6bd875c4eda59f233d6", func := "loop.example/g00166/laws.FnExactObjectValue", spec := "fnExactObjectValue", inPlace := ["internal/bytealg.abigen_runtime_cmpstring"], unfollowed := true, recurses := true, apart := false, narrowed := true }
def FnExactObjectValueUptoSaid : Prop := fnExactObjectValueUptoRow.holds Try.pinned (OpenSpec.upto fnExactObjectValueSpec)

/-- 'laws.FnExactTruthy', WHERE WHAT IT READS IS OF BULK AT MOST 1048576: true; the input reads as it did. -/
def fnExactTruthyUptoRow : OpenClaim := { program := "yticjccpkgapijag", sum := "9ff95fd6dd7d91116ecee616fe8bb94853c0c3d9ddb0c6bd875c4eda59f233d6", func := "loop.example/g00166/laws.FnExactTruthy", spec := "fnExactTruthy", recurses := true, apart := false, narrowed := true }
def FnExactTruthyUptoSaid : Prop := fnExactTruthyUptoRow.holds Try.pinned (OpenSpec.upto fnExactTruthySpec)

/-- 'laws.FnExactDepthOf', WHERE WHAT IT READS IS OF BULK AT MOST 1048576: true; the input reads as it did. -/
def fnExactDepthOfUptoRow : OpenClaim := { program := "yticjccpkgapijag", sum := "9ff95fd6dd7d91116ecee616fe8bb94853c0c3d9ddb0c6bd875c4eda59f233d6", func := "loop.example/g00166/laws.FnExactDepthOf", spec := "fnExactDepthOf", recurses := true, apart := false, narrowed := true }
def FnExactDepthOfUptoSaid : Prop := fnExactDepthOfUptoRow.holds Try.pinned (OpenSpec.upto fnExactDepthOfSpec)

end Rows
end Go.Proofs.Yticjccpkgapijag
