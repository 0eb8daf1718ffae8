/-
  No cell of these rows narrows 'for every input' (looked for: loops, veiled, ifaces, maps, wideKeys, modest, calm, conditions, laid).
  DERIVED. THE GIVEN ROWS OF THIS SEAT. 6 by the template 'for every input the law returns true; each argument reads behind the call as it read before'; 0 by the template 'total and deterministic' (their statements: YtheofnndigpjpaaTotals.lean).
  GIVEN WITH THE SEED: the statements are not yours to turn. If you find one false, say at which input.
  Laid BY PROGRAM, IN A SANDBOX (cutbox-rows.mjs): the forced cells as the released guide's own fill.sh prints them over the translation 406f81b253d3e4b8… (all of the seat's roots in one cut). By AI agents, Wed Nov 11 2026. No macro, syntax, notation, axiom, sorry.
-/
import Derived.Test.YtheofnndigpjpaaChecked
import GoSem.Claim
import GoSem.ClaimJoined
import GoSem.ClaimMapViews
import Derived.JoinedTies
import Derived.KernelRfl
namespace Go.Proofs.Ytheofnndigpjpaa
/- THE CELL 'sum', in the pinned program and in every row, IS THE sha256 OF THE DUMP (.gsa) THAT YtheofnndigpjpaaProg.lean LOADS. Nothing in Lean hashes anything: it is a label: what it is worth is what the hold of that sum in a sandbox is worth. -/
noncomputable def Try.pinned : Pinned := { name := "ytheofnndigpjpaa", sum := "406f81b253d3e4b8878bd574d3a3cbec3394c11df89431cea23cd85afbb7a390", checked := Try.checked }
namespace Rows
def none {H : Type} : Left H := { results := [], args := [] }

/-- 'laws.FnExactPathFault': WHATEVER THE INPUT: true; the input reads as it did. -/
def fnExactPathFaultSpec : ChangeSpec := { name := "fnExactPathFault", fn := fun _ => fun
  | [d] => { results := [.lit (.bool true)], args := [d] }
  | _ => none }
def fnExactPathFaultRow : OpenClaim := { program := "ytheofnndigpjpaa", sum := "406f81b253d3e4b8878bd574d3a3cbec3394c11df89431cea23cd85afbb7a390", func := "loop.example/g00166/laws.FnExactPathFault", spec := "fnExactPathFault", recurses := true, apart := false }
def FnExactPathFaultSaid : Prop := fnExactPathFaultRow.holds Try.pinned (OpenSpec.ofChange fnExactPathFaultSpec)

/-- ITS FALSE NEIGHBOUR: 'it returns false'. Refute it at one input. -/
def fnExactPathFaultWrong : ChangeSpec := { name := "fnExactPathFault", fn := fun _ => fun
  | [d] => { results := [.lit (.bool false)], args := [d] }
  | _ => none }
def FnExactPathFaultWrongFalsely : Prop := fnExactPathFaultRow.holds Try.pinned (OpenSpec.ofChange fnExactPathFaultWrong)

/-- 'laws.FnExactGetPath': WHATEVER THE INPUT: true; the input reads as it did. -/
def fnExactGetPathSpec : ChangeSpec := { name := "fnExactGetPath", fn := fun _ => fun
  | [d1, d2] => { results := [.lit (.bool true)], args := [d1, d2] }
  | _ => none }
def fnExactGetPathRow : OpenClaim := { program := "ytheofnndigpjpaa", sum := "406f81b253d3e4b8878bd574d3a3cbec3394c11df89431cea23cd85afbb7a390", func := "loop.example/g00166/laws.FnExactGetPath", spec := "fnExactGetPath", recurses := true, apart := false }
def FnExactGetPathSaid : Prop := fnExactGetPathRow.holds Try.pinned (OpenSpec.ofChange fnExactGetPathSpec)

/-- ITS FALSE NEIGHBOUR: 'it returns false'. Refute it at one input. -/
def fnExactGetPathWrong : ChangeSpec := { name := "fnExactGetPath", fn := fun _ => fun
  | [d1, d2] => { results := [.lit (.bool false)], args := [d1, d2] }
  | _ => none }
def FnExactGetPathWrongFalsely : Prop := fnExactGetPathRow.holds Try.pinned (OpenSpec.ofChange fnExactGetPathWrong)

/-- 'laws.FnExactSetPath': WHATEVER THE INPUT: true; the input reads as it did. -/
def fnExactSetPathSpec : ChangeSpec := { name := "fnExactSetPath", fn := fun _ => fun
  | [d1, d2, d3] => { results := [.lit (.bool true)], args := [d1, d2, d3] }
  | _ => none }
def fnExactSetPathRow : OpenClaim := { program := "ytheofnndigpjpaa", sum := "406f81b253d3e4b8878bd574d3a3cbec3394c11df89431cea23cd85afbb7a390", func := "loop.example/g00166/laws.FnExactSetPath", spec := "fnExactSetPath", inPlace := ["internal/bytealg.abigen_runtime_cmpstring"], unfollowed := true, recurses := true, apart := false }
def FnExactSetPathSaid : Prop := fnExactSetPathRow.holds Try.pinned (OpenSpec.ofChange fnExactSetPathSpec)

/-- ITS FALSE NEIGHBOUR: 'it returns false'. Refute it at one input. -/
def fnExactSetPathWrong : ChangeSpec := { name := "fnExactSetPath", fn := fun _ => fun
  | [d1, d2, d3] => { results := [.lit (.bool false)], args := [d1, d2, d3] }
  | _ => none }
def FnExactSetPathWrongFalsely : Prop := fnExactSetPathRow.holds Try.pinned (OpenSpec.ofChange fnExactSetPathWrong)

/-- 'laws.FnExactDropPath': WHATEVER THE INPUT: true; the input reads as it did. -/
def fnExactDropPathSpec : ChangeSpec := { name := "fnExactDropPath", fn := fun _ => fun
  | [d1, d2] => { results := [.lit (.bool true)], args := [d1, d2] }
  | _ => none }
def fnExactDropPathRow : OpenClaim := { program := "ytheofnndigpjpaa", sum := "406f81b253d3e4b8878bd574d3a3cbec3394c11df89431cea23cd85afbb7a390", func := "loop.example/g00166/laws.FnExactDropPath", spec := "fnExactDropPath", inPlace := ["internal/bytealg.abigen_runtime_cmpstring"], unfollowed := true, recurses := true, apart := false }
def FnExactDropPathSaid : Prop := fnExactDropPathRow.holds Try.pinned (OpenSpec.ofChange fnExactDropPathSpec)

/-- ITS FALSE NEIGHBOUR: 'it returns false'. Refute it at one input. -/
def fnExactDropPathWrong : ChangeSpec := { name := "fnExactDropPath", fn := fun _ => fun
  | [d1, d2] => { results := [.lit (.bool false)], args := [d1, d2] }
  | _ => none }
def FnExactDropPathWrongFalsely : Prop := fnExactDropPathRow.holds Try.pinned (OpenSpec.ofChange fnExactDropPathWrong)

/-- 'laws.FnExactPathsIn': WHATEVER THE INPUT: true; the input reads as it did. -/
def fnExactPathsInSpec : ChangeSpec := { name := "fnExactPathsIn", fn := fun _ => fun
  | [d] => { results := [.lit (.bool true)], args := [d] }
  | _ => none }
def fnExactPathsInRow : OpenClaim := { program := "ytheofnndigpjpaa", sum := "406f81b253d3e4b8878bd574d3a3cbec3394c11df89431cea23cd85afbb7a390", func := "loop.example/g00166/laws.FnExactPathsIn", spec := "fnExactPathsIn", unfollowed := true, recurses := true, apart := false }
def FnExactPathsInSaid : Prop := fnExactPathsInRow.holds Try.pinned (OpenSpec.ofChange fnExactPathsInSpec)

/-- ITS FALSE NEIGHBOUR: 'it returns false'. Refute it at one input. -/
def fnExactPathsInWrong : ChangeSpec := { name := "fnExactPathsIn", fn := fun _ => fun
  | [d] => { results := [.lit (.bool false)], args := [d] }
  | _ => none }
def FnExactPathsInWrongFalsely : Prop := fnExactPathsInRow.holds Try.pinned (OpenSpec.ofChange fnExactPathsInWrong)

/-- 'laws.FnExactLeavesIn': WHATEVER THE INPUT: true; the input reads as it did. -/
def fnExactLeavesInSpec : ChangeSpec := { name := "fnExactLeavesIn", fn := fun _ => fun
  | [d] => { results := [.lit (.bool true)], args := [d] }
  | _ => none }
def fnExactLeavesInRow : OpenClaim := { program := "ytheofnndigpjpaa", sum := "406f81b253d3e4b8878bd574d3a3cbec3394c11df89431cea23cd85afbb7a390", func := "loop.example/g00166/laws.FnExactLeavesIn", spec := "fnExactLeavesIn", unfollowed := true, recurses := true, apart := false }
def FnExactLeavesInSaid : Prop := fnExactLeavesInRow.holds Try.pinned (OpenSpec.ofChange fnExactLeavesInSpec)

/-- ITS FALSE NEIGHBOUR: 'it returns false'. Refute it at one input. -/
def fnExactLeavesInWrong : ChangeSpec := { name := "fnExactLeavesIn", fn := fun _ => fun
  | [d] => { results := [.lit (.bool false)], args := [d] }
  | _ => none }
def FnExactLeavesInWrongFalsely : Prop := fnExactLeavesInRow.holds Try.pinned (OpenSpec.ofChange fnExactLeavesInWrong)

/- THE SECOND FORM. 'bulk': how many values and letters a reading holds, each counted each time it is reached (what is shared counts as often as it is met; a slice's spare places count too). A statement '..UptoSaid' is the law's where the arguments, and the package variables that the reading takes, are together of bulk at most 1048576: NARROWER than '..Said'. Prove '..Said' where nothing that the law and all that it calls make is longer than what came in: it says more and counts as full. Else prove '..UptoSaid'. A law counts once. -/
mutual
def uptoBulk {H : Type} : DataW H → Nat
  | .lit (.string bytes) => bytes.length + 1
  | .lit _ => 1
  | .nil => 1
  | .ptr d => uptoBulk d + 1
  | .slice elems spare => uptoBulkAll elems + uptoBulkAll spare + 1
  | .agg parts => uptoBulkAll parts + 1
  | .iface _ d => uptoBulk d + 1
  | .map entries => uptoBulkEntries entries + 1
  | .held _ => 1
def uptoBulkAll {H : Type} : List (DataW H) → Nat
  | [] => 0
  | d :: r => uptoBulk d + uptoBulkAll r
def uptoBulkEntries {H : Type} : List (Lit × DataW H) → Nat
  | [] => 0
  | x :: r => uptoBulkEntry x + uptoBulkEntries r
def uptoBulkEntry {H : Type} : Lit × DataW H → Nat
  | (.string bytes, d) => bytes.length + uptoBulk d + 1
  | (_, d) => uptoBulk d + 1
 end
def uptoSmall : (H : Type) → List (DataW H) → Bool := fun _ ds => decide (uptoBulkAll ds ≤ 1048576)
def OpenSpec.upto (s : _root_.Go.ChangeSpec) : _root_.Go.OpenSpec := { _root_.Go.OpenSpec.ofChange s with cond := some uptoSmall }

/-- 'laws.FnExactPathFault', WHERE WHAT IT READS IS OF BULK AT MOST 1048576: true; the input reads as it did. -/
def fnExactPathFaultUptoRow : OpenClaim := { program := "ytheofnndigpjpaa", sum := "406f81b253d3e4b8878bd574d3a3cbec3394c11df89431cea23cd85afbb7a390", func := "loop.example/g00166/laws.FnExactPathFault", spec := "fnExactPathFault", recurses := true, apart := false, narrowed := true }
def FnExactPathFaultUptoSaid : Prop := fnExactPathFaultUptoRow.holds Try.pinned (OpenSpec.upto fnExactPathFaultSpec)

/-- 'laws.FnExactGetPath', WHERE WHAT IT READS IS OF BULK AT MOST 1048576: true; the input reads as it did. -/
def fnExactGetPathUptoRow : OpenClaim := { program := "ytheofnndigpjpaa", sum := "406f81b253d3e4b8878bd574d3a3cbec3394c11df89431cea23cd85afbb7a390", func := "loop.example/g00166/laws.FnExactGetPath", spec := "fnExactGetPath", recurses := true, apart := false, narrowed := true }
def FnExactGetPathUptoSaid : Prop := fnExactGetPathUptoRow.holds Try.pinned (OpenSpec.upto fnExactGetPathSpec)

/-- 'laws.FnExactSetPath', WHERE WHAT IT READS IS OF BULK AT MOST 1048576: true; the input reads as it did. -/
def fnExactSetPathUptoRow : OpenClaim := { program := "ytheofnndigpjpaa", sum := "406f81b253d3e4b8878bd574d3a3cbec3394c11df89431cea23cd85afbb7a390", func := "loop.example/g00166/laws.FnExactSetPath", spec := "fnExactSetPath", inPlace := ["internal/bytealg.abigen_runtime_cmpstring"], unfollowed := true, recurses := true, apart := false, narrowed := true }
def FnExactSetPathUptoSaid : Prop := fnExactSetPathUptoRow.holds Try.pinned (OpenSpec.upto fnExactSetPathSpec)

/-- 'laws.FnExactDropPath', WHERE WHAT IT READS IS OF BULK AT MOST 1048576: true; the input reads as it did. -/
def fnExactDropPathUptoRow : OpenClaim := { program := "ytheofnndigpjpaa", sum := "406f81b253d3e4b8878bd574d3a3cbec3394c11df89431cea23cd85afbb7a390", func := "loop.example/g00166/laws.FnExactDropPath", spec := "fnExactDropPath", inPlace := ["internal/bytealg.abigen_runtime_cmpstring"], unfollowed := true, recurses := true, apart := false, narrowed := true }
def FnExactDropPathUptoSaid : Prop := fnExactDropPathUptoRow.holds Try.pinned (OpenSpec.upto fnExactDropPathSpec)

/-- 'laws.FnExactPathsIn', WHERE WHAT IT READS IS OF BULK AT MOST 1048576: true; the input reads as it did. -/
def fnExactPathsInUptoRow : OpenClaim := { program := "ytheofnndigpjpaa", sum := "406f81b253d3e4b8878bd574d3a3cbec3394c11df89431cea23cd85afbb7a390", func := "loop.example/g00166/laws.FnExactPathsIn", spec := "fnExactPathsIn", unfollowed := true, recurses := true, apart := false, narrowed := true }
def FnExactPathsInUptoSaid : Prop := fnExactPathsInUptoRow.holds Try.pinned (OpenSpec.upto fnExactPathsInSpec)

/-- 'laws.FnExactLeavesIn', WHERE WHAT IT READS IS OF BULK AT MOST 1048576: true; the input reads as it did. -/
def fnExactLeavesInUptoRow : OpenClaim := { program := "ytheofnndigpjpaa", sum := "406f81b253d3e4b8878bd574d3a3cbec3394c11df89431cea23cd85afbb7a390", func := "loop.example/g00166/laws.FnExactLeavesIn", spec := "fnExactLeavesIn", unfollowed := true, recurses := true, apart := false, narrowed := true }
def FnExactLeavesInUptoSaid : Prop := fnExactLeavesInUptoRow.holds Try.pinned (OpenSpec.upto fnExactLeavesInSpec)

end Rows
end Go.Proofs.Ytheofnndigpjpaa
