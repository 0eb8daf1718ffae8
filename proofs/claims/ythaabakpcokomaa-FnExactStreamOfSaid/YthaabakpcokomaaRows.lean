/-
  No cell of these rows narrows 'for every input' (looked for: loops, veiled, ifaces, maps, wideKeys, modest, calm, conditions, laid).
  DERIVED. THE GIVEN ROWS OF THIS SEAT. 7 by the template 'for every input the law returns true; each argument reads behind the call as it read before'; 0 by the template 'total and deterministic' (their statements: YthaabakpcokomaaTotals.lean).
  GIVEN WITH THE SEED: the statements are not yours to turn. If you find one false, say at which input.
  Laid BY PROGRAM, IN A SANDBOX (cutbox-rows.mjs): the forced cells as the released guide's own fill.sh prints them over the translation 640ebcd4bf289fb0… (all of the seat's roots in one cut). By AI agents, Wed Nov 11 2026. No macro, syntax, notation, axiom, sorry.
-/
import Derived.Test.YthaabakpcokomaaChecked
import GoSem.Claim
import GoSem.ClaimJoined
import GoSem.ClaimMapViews
import Derived.JoinedTies
import Derived.KernelRfl
namespace Go.Proofs.Ythaabakpcokomaa
/- THE CELL 'sum', in the pinned program and in every row, IS THE sha256 OF THE DUMP (.gsa) THAT YthaabakpcokomaaProg.lean LOADS. Nothing in Lean hashes anything: it is a label: what it is worth is what the hold of that sum in a sandbox is worth. -/
noncomputable def Try.pinned : Pinned := { name := "ythaabakpcokomaa", sum := "640ebcd4bf289fb0eb39cb6ee64c4851e72bf5aed486a8c96f90bd5e4e10533c", checked := Try.checked }
namespace Rows
def none {H : Type} : Left H := { results := [], args := [] }

/-- 'laws.FnExactPathsIn': WHATEVER THE INPUT: true; the input reads as it did. -/
def fnExactPathsInSpec : ChangeSpec := { name := "fnExactPathsIn", fn := fun _ => fun
  | [d] => { results := [.lit (.bool true)], args := [d] }
  | _ => none }
def fnExactPathsInRow : OpenClaim := { program := "ythaabakpcokomaa", sum := "640ebcd4bf289fb0eb39cb6ee64c4851e72bf5aed486a8c96f90bd5e4e10533c", func := "loop.example/g00166/laws.FnExactPathsIn", spec := "fnExactPathsIn", unfollowed := true, recurses := true, apart := false }
def FnExactPathsInSaid : Prop := fnExactPathsInRow.holds Try.pinned (OpenSpec.ofChange fnExactPathsInSpec)

/-- ITS FALSE NEIGHBOUR: 'it returns false'. Refute it at one input. -/
def fnExactPathsInWrong : ChangeSpec := { name := "fnExactPathsIn", fn := fun _ => fun
  | [d] => { results := [.lit (.bool false)], args := [d] }
  | _ => none }
def FnExactPathsInWrongFalsely : Prop := fnExactPathsInRow.holds Try.pinned (OpenSpec.ofChange fnExactPathsInWrong)

/-- 'laws.FnExactLeavesIn': WHATEVER THE INPUT: true; the input reads as it did. -/
def fnExactLeavesInSpec : ChangeSpec := { name := "fnExactLeavesIn", fn := fun _ => fun
  | [d] => { results := [.lit (.bool true)], args := [d] }
  | _ => none }
def fnExactLeavesInRow : OpenClaim := { program := "ythaabakpcokomaa", sum := "640ebcd4bf289fb0eb39cb6ee64c4851e72bf5aed486a8c96f90bd5e4e10533c", func := "loop.example/g00166/laws.FnExactLeavesIn", spec := "fnExactLeavesIn", unfollowed := true, recurses := true, apart := false }
def FnExactLeavesInSaid : Prop := fnExactLeavesInRow.holds Try.pinned (OpenSpec.ofChange fnExactLeavesInSpec)

/-- ITS FALSE NEIGHBOUR: 'it returns false'. Refute it at one input. -/
def fnExactLeavesInWrong : ChangeSpec := { name := "fnExactLeavesIn", fn := fun _ => fun
  | [d] => { results := [.lit (.bool false)], args := [d] }
  | _ => none }
def FnExactLeavesInWrongFalsely : Prop := fnExactLeavesInRow.holds Try.pinned (OpenSpec.ofChange fnExactLeavesInWrong)

/-- 'laws.FnExactMergeValues': WHATEVER THE INPUT: true; the input reads as it did. -/
def fnExactMergeValuesSpec : ChangeSpec := { name := "fnExactMergeValues", fn := fun _ => fun
  | [d1, d2] => { results := [.lit (.bool true)], args := [d1, d2] }
  | _ => none }
def fnExactMergeValuesRow : OpenClaim := { program := "ythaabakpcokomaa", sum := "640ebcd4bf289fb0eb39cb6ee64c4851e72bf5aed486a8c96f90bd5e4e10533c", func := "loop.example/g00166/laws.FnExactMergeValues", spec := "fnExactMergeValues", inPlace := ["internal/bytealg.abigen_runtime_cmpstring"], unfollowed := true, recurses := true, apart := false }
def FnExactMergeValuesSaid : Prop := fnExactMergeValuesRow.holds Try.pinned (OpenSpec.ofChange fnExactMergeValuesSpec)

/-- ITS FALSE NEIGHBOUR: 'it returns false'. Refute it at one input. -/
def fnExactMergeValuesWrong : ChangeSpec := { name := "fnExactMergeValues", fn := fun _ => fun
  | [d1, d2] => { results := [.lit (.bool false)], args := [d1, d2] }
  | _ => none }
def FnExactMergeValuesWrongFalsely : Prop := fnExactMergeValuesRow.holds Try.pinned (OpenSpec.ofChange fnExactMergeValuesWrong)

/-- 'laws.FnExactCountSame': WHATEVER THE INPUT: true; the input reads as it did. -/
def fnExactCountSameSpec : ChangeSpec := { name := "fnExactCountSame", fn := fun _ => fun
  | [d1, d2] => { results := [.lit (.bool true)], args := [d1, d2] }
  | _ => none }
def fnExactCountSameRow : OpenClaim := { program := "ythaabakpcokomaa", sum := "640ebcd4bf289fb0eb39cb6ee64c4851e72bf5aed486a8c96f90bd5e4e10533c", func := "loop.example/g00166/laws.FnExactCountSame", spec := "fnExactCountSame", inPlace := ["internal/bytealg.abigen_runtime_cmpstring"], unfollowed := true, recurses := true, apart := false }
def FnExactCountSameSaid : Prop := fnExactCountSameRow.holds Try.pinned (OpenSpec.ofChange fnExactCountSameSpec)

/-- ITS FALSE NEIGHBOUR: 'it returns false'. Refute it at one input. -/
def fnExactCountSameWrong : ChangeSpec := { name := "fnExactCountSame", fn := fun _ => fun
  | [d1, d2] => { results := [.lit (.bool false)], args := [d1, d2] }
  | _ => none }
def FnExactCountSameWrongFalsely : Prop := fnExactCountSameRow.holds Try.pinned (OpenSpec.ofChange fnExactCountSameWrong)

/-- 'laws.FnExactStreamOf': WHATEVER THE INPUT: true; the input reads as it did. -/
def fnExactStreamOfSpec : ChangeSpec := { name := "fnExactStreamOf", fn := fun _ => fun
  | [d] => { results := [.lit (.bool true)], args := [d] }
  | _ => none }
def fnExactStreamOfRow : OpenClaim := { program := "ythaabakpcokomaa", sum := "640ebcd4bf289fb0eb39cb6ee64c4851e72bf5aed486a8c96f90bd5e4e10533c", func := "loop.example/g00166/laws.FnExactStreamOf", spec := "fnExactStreamOf", recurses := true, apart := false }
def FnExactStreamOfSaid : Prop := fnExactStreamOfRow.holds Try.pinned (OpenSpec.ofChange fnExactStreamOfSpec)

/-- ITS FALSE NEIGHBOUR: 'it returns false'. Refute it at one input. -/
def fnExactStreamOfWrong : ChangeSpec := { name := "fnExactStreamOf", fn := fun _ => fun
  | [d] => { results := [.lit (.bool false)], args := [d] }
  | _ => none }
def FnExactStreamOfWrongFalsely : Prop := fnExactStreamOfRow.holds Try.pinned (OpenSpec.ofChange fnExactStreamOfWrong)

/-- 'laws.FnExactStreamFault': WHATEVER THE INPUT: true; the input reads as it did. -/
def fnExactStreamFaultSpec : ChangeSpec := { name := "fnExactStreamFault", fn := fun _ => fun
  | [d] => { results := [.lit (.bool true)], args := [d] }
  | _ => none }
def fnExactStreamFaultRow : OpenClaim := { program := "ythaabakpcokomaa", sum := "640ebcd4bf289fb0eb39cb6ee64c4851e72bf5aed486a8c96f90bd5e4e10533c", func := "loop.example/g00166/laws.FnExactStreamFault", spec := "fnExactStreamFault", recurses := true, apart := false }
def FnExactStreamFaultSaid : Prop := fnExactStreamFaultRow.holds Try.pinned (OpenSpec.ofChange fnExactStreamFaultSpec)

/-- ITS FALSE NEIGHBOUR: 'it returns false'. Refute it at one input. -/
def fnExactStreamFaultWrong : ChangeSpec := { name := "fnExactStreamFault", fn := fun _ => fun
  | [d] => { results := [.lit (.bool false)], args := [d] }
  | _ => none }
def FnExactStreamFaultWrongFalsely : Prop := fnExactStreamFaultRow.holds Try.pinned (OpenSpec.ofChange fnExactStreamFaultWrong)

/-- 'laws.FnExactCutStream': WHATEVER THE INPUT: true; the input reads as it did. -/
def fnExactCutStreamSpec : ChangeSpec := { name := "fnExactCutStream", fn := fun _ => fun
  | [d1, d2] => { results := [.lit (.bool true)], args := [d1, d2] }
  | _ => none }
def fnExactCutStreamRow : OpenClaim := { program := "ythaabakpcokomaa", sum := "640ebcd4bf289fb0eb39cb6ee64c4851e72bf5aed486a8c96f90bd5e4e10533c", func := "loop.example/g00166/laws.FnExactCutStream", spec := "fnExactCutStream", recurses := true, apart := false }
def FnExactCutStreamSaid : Prop := fnExactCutStreamRow.holds Try.pinned (OpenSpec.ofChange fnExactCutStreamSpec)

/-- ITS FALSE NEIGHBOUR: 'it returns false'. Refute it at one input. -/
def fnExactCutStreamWrong : ChangeSpec := { name := "fnExactCutStream", fn := fun _ => fun
  | [d1, d2] => { results := [.lit (.bool false)], args := [d1, d2] }
  | _ => none }
def FnExactCutStreamWrongFalsely : Prop := fnExactCutStreamRow.holds Try.pinned (OpenSpec.ofChange fnExactCutStreamWrong)

/- THE SECOND FORM. 'bulk': how many values and letters a reading holds, each counted each time it is reached (what is shared counts as often as it is met; a slice's spare places count too). A statement '..UptoSaid' is the law's where the arguments, and the package variables that the reading takes, are together of bulk at most 1048576: NARROWER than '..Said'. Prove '..Said' where nothing that the law and all that it calls make is longer than what came in: it says more and counts as full. Else prove '..UptoSaid'. A law counts once. -/
mutual
def uptoBulk {H : Type} : DataW H → Nat
  | .lit (.string bytes) => bytes.length + 1
  | .lit _ => 1
  | .nil => 1
  | .ptr d => uptoBulk d + 1
  | .slice elems spare => uptoBulkAll elems + uptoBulkAll spare + 1
  | .agg parts => uptoBulkAll parts + 1
  | .iface _ d => uptoBulk d + 1
  | .map entries => uptoBulkEntries entries + 1
  | .held _ => 1
def uptoBulkAll {H : Type} : List (DataW H) → Nat
  | [] => 0
  | d :: r => uptoBulk d + uptoBulkAll r
def uptoBulkEntries {H : Type} : List (Lit × DataW H) → Nat
  | [] => 0
  | x :: r => uptoBulkEntry x + uptoBulkEntries r
def uptoBulkEntry {H : Type} : Lit × DataW H → Nat
  | (.string bytes, d) => bytes.length + uptoBulk d + 1
  | (_, d) => uptoBulk d + 1
 end
def uptoSmall : (H : Type) → List (DataW H) → Bool := fun _ ds => decide (uptoBulkAll ds ≤ 1048576)
def OpenSpec.upto (s : _root_.Go.ChangeSpec) : _root_.Go.OpenSpec := { _root_.Go.OpenSpec.ofChange s with cond := some uptoSmall }

/-- 'laws.FnExactPathsIn', WHERE WHAT IT READS IS OF BULK AT MOST 1048576: true; the input reads as it did. -/
def fnExactPathsInUptoRow : OpenClaim := { program := "ythaabakpcokomaa", sum := "640ebcd4bf289fb0eb39cb6ee64c4851e72bf5aed486a8c96f90bd5e4e10533c", func := "loop.example/g00166/laws.FnExactPathsIn", spec := "fnExactPathsIn", unfollowed := true, recurses := true, apart := false, narrowed := true }
def FnExactPathsInUptoSaid : Prop := fnExactPathsInUptoRow.holds Try.pinned (OpenSpec.upto fnExactPathsInSpec)

/-- 'laws.FnExactLeavesIn', WHERE WHAT IT READS IS OF BULK AT MOST 1048576: true; the input reads as it did. -/
def fnExactLeavesInUptoRow : OpenClaim := { program := "ythaabakpcokomaa", sum := "640ebcd4bf289fb0eb39cb6ee64c4851e72bf5aed486a8c96f90bd5e4e10533c", func := "loop.example/g00166/laws.FnExactLeavesIn", spec := "fnExactLeavesIn", unfollowed := true, recurses := true, apart := false, narrowed := true }
def FnExactLeavesInUptoSaid : Prop := fnExactLeavesInUptoRow.holds Try.pinned (OpenSpec.upto fnExactLeavesInSpec)

/-- 'laws.FnExactMergeValues', WHERE WHAT IT READS IS OF BULK AT MOST 1048576: true; the input reads as it did. -/
def fnExactMergeValuesUptoRow : OpenClaim := { program := "ythaabakpcokomaa", sum := "640ebcd4bf289fb0eb39cb6ee64c4851e72bf5aed486a8c96f90bd5e4e10533c", func := "loop.example/g00166/laws.FnExactMergeValues", spec := "fnExactMergeValues", inPlace := ["internal/bytealg.abigen_runtime_cmpstring"], unfollowed := true, recurses := true, apart := false, narrowed := true }
def FnExactMergeValuesUptoSaid : Prop := fnExactMergeValuesUptoRow.holds Try.pinned (OpenSpec.upto fnExactMergeValuesSpec)

/-- 'laws.FnExactCountSame', WHERE WHAT IT READS IS OF BULK AT MOST 1048576: true; the input reads as it did. -/
def fnExactCountSameUptoRow : OpenClaim := { program := "ythaabakpcokomaa", sum := "640ebcd4bf289fb0eb39cb6ee64c4851e72bf5aed486a8c96f90bd5e4e10533c", func := "loop.example/g00166/laws.FnExactCountSame", spec := "fnExactCountSame", inPlace := ["internal/bytealg.abigen_runtime_cmpstring"], unfollowed := true, recurses := true, apart := false, narrowed := true }
def FnExactCountSameUptoSaid : Prop := fnExactCountSameUptoRow.holds Try.pinned (OpenSpec.upto fnExactCountSameSpec)

/-- 'laws.FnExactStreamOf', WHERE WHAT IT READS IS OF BULK AT MOST 1048576: true; the input reads as it did. -/
def fnExactStreamOfUptoRow : OpenClaim := { program := "ythaabakpcokomaa", sum := "640ebcd4bf289fb0eb39cb6ee64c4851e72bf5aed486a8c96f90bd5e4e10533c", func := "loop.example/g00166/laws.FnExactStreamOf", spec := "fnExactStreamOf", recurses := true, apart := false, narrowed := true }
def FnExactStreamOfUptoSaid : Prop := fnExactStreamOfUptoRow.holds Try.pinned (OpenSpec.upto fnExactStreamOfSpec)

/-- 'laws.FnExactStreamFault', WHERE WHAT IT READS IS OF BULK AT MOST 1048576: true; the input reads as it did. -/
def fnExactStreamFaultUptoRow : OpenClaim := { program := "ythaabakpcokomaa", sum := "640ebcd4bf289fb0eb39cb6ee64c4851e72bf5aed486a8c96f90bd5e4e10533c", func := "loop.example/g00166/laws.FnExactStreamFault", spec := "fnExactStreamFault", recurses := true, apart := false, narrowed := true }
def FnExactStreamFaultUptoSaid : Prop := fnExactStreamFaultUptoRow.holds Try.pinned (OpenSpec.upto fnExactStreamFaultSpec)

/-- 'laws.FnExactCutStream', WHERE WHAT IT READS IS OF BULK AT MOST 1048576: true; the input reads as it did. -/
def fnExactCutStreamUptoRow : OpenClaim := { program := "ythaabakpcokomaa", sum := "640ebcd4bf289fb0eb39cb6ee64c4851e72bf5aed486a8c96f90bd5e4e10533c", func := "loop.example/g00166/laws.FnExactCutStream", spec := "fnExactCutStream", recurses := true, apart := false, narrowed := true }
def FnExactCutStreamUptoSaid : Prop := fnExactCutStreamUptoRow.holds Try.pinned (OpenSpec.upto fnExactCutStreamSpec)

end Rows
end Go.Proofs.Ythaabakpcokomaa
