/-
  No cell of these rows narrows 'for every input' (looked for: loops, veiled, ifaces, maps, wideKeys, modest, calm, conditions, laid).
  DERIVED. THE GIVEN ROWS OF THIS SEAT. 6 by the template 'for every input the law returns true; each argument reads behind the call as it read before'; 0 by the template 'total and deterministic' (their statements: YtoaibccmlmaknaaTotals.lean).
  GIVEN WITH THE SEED: the statements are not yours to turn. If you find one false, say at which input.
  Laid BY PROGRAM, IN A SANDBOX (cutbox-rows.mjs): the forced cells as the released guide's own fill.sh prints them over the translation 39fa1057688a83d6… (all of the seat's roots in one cut). By AI agents, Wed Nov 11 2026. No macro, syntax, notation, axiom, sorry.
-/
import Derived.Test.YtoaibccmlmaknaaChecked
import GoSem.Claim
import GoSem.ClaimJoined
import GoSem.ClaimMapViews
import Derived.JoinedTies
import Derived.KernelRfl
namespace Go.Proofs.Ytoaibccmlmaknaa
/- THE CELL 'sum', in the pinned program and in every row, IS THE sha256 OF THE DUMP (.gsa) THAT YtoaibccmlmaknaaProg.lean LOADS. Nothing in Lean hashes anything: it is a label: what it is worth is what the hold of that sum in a sandbox is worth. -/
noncomputable def Try.pinned : Pinned := { name := "ytoaibccmlmaknaa", sum := "39fa1057688a83d60684cfb39c0d6c052486aebc227b65a6aef7e516adc48014", checked := Try.checked }
namespace Rows
def none {H : Type} : Left H := { results := [], args := [] }

/-- 'laws.FnExactDropPath': WHATEVER THE INPUT: true; the input reads as it did. -/
def fnExactDropPathSpec : ChangeSpec := { name := "fnExactDropPath", fn := fun _ => fun
  | [d1, d2] => { results := [.lit (.bool true)], args := [d1, d2] }
  | _ => none }
def fnExactDropPathRow : OpenClaim := { program := "ytoaibccmlmaknaa", sum := "39fa1057688a83d60684cfb39c0d6c052486aebc227b65a6aef7e516adc48014", func := "loop.example/g00166/laws.FnExactDropPath", spec := "fnExactDropPath", inPlace := ["internal/bytealg.abigen_runtime_cmpstring"], unfollowed := true, recurses := true, apart := false }
def FnExactDropPathSaid : Prop := fnExactDropPathRow.holds Try.pinned (OpenSpec.ofChange fnExactDropPathSpec)

/-- ITS FALSE NEIGHBOUR: 'it returns false'. Refute it at one input. -/
def fnExactDropPathWrong : ChangeSpec := { name := "fnExactDropPath", fn := fun _ => fun
  | [d1, d2] => { results := [.lit (.bool false)], args := [d1, d2] }
  | _ => none }
def FnExactDropPathWrongFalsely : Prop := fnExactDropPathRow.holds Try.pinned (OpenSpec.ofChange fnExactDropPathWrong)

/-- 'laws.FnExactPathsIn': WHATEVER THE INPUT: true; the input reads as it did. -/
def fnExactPathsInSpec : ChangeSpec := { name := "fnExactPathsIn", fn := fun _ => fun
  | [d] => { results := [.lit (.bool true)], args := [d] }
  | _ => none }
def fnExactPathsInRow : OpenClaim := { program := "ytoaibccmlmaknaa", sum := "39fa1057688a83d60684cfb39c0d6c052486aebc227b65a6aef7e516adc48014", func := "loop.example/g00166/laws.FnExactPathsIn", spec := "fnExactPathsIn", unfollowed := true, recurses := true, apart := false }
def FnExactPathsInSaid : Prop := fnExactPathsInRow.holds Try.pinned (OpenSpec.ofChange fnExactPathsInSpec)

/-- ITS FALSE NEIGHBOUR: 'it returns false'. Refute it at one input. -/
def fnExactPathsInWrong : ChangeSpec := { name := "fnExactPathsIn", fn := fun _ => fun
  | [d] => { results := [.lit (.bool false)], args := [d] }
  | _ => none }
def FnExactPathsInWrongFalsely : Prop := fnExactPathsInRow.holds Try.pinned (OpenSpec.ofChange fnExactPathsInWrong)

/-- 'laws.FnExactLeavesIn': WHATEVER THE INPUT: true; the input reads as it did. -/
def fnExactLeavesInSpec : ChangeSpec := { name := "fnExactLeavesIn", fn := fun _ => fun
  | [d] => { results := [.lit (.bool true)], args := [d] }
  | _ => none }
def fnExactLeavesInRow : OpenClaim := { program := "ytoaibccmlmaknaa", sum := "39fa1057688a83d60684cfb39c0d6c052486aebc227b65a6aef7e516adc48014", func := "loop.example/g00166/laws.FnExactLeavesIn", spec := "fnExactLeavesIn", unfollowed := true, recurses := true, apart := false }
def FnExactLeavesInSaid : Prop := fnExactLeavesInRow.holds Try.pinned (OpenSpec.ofChange fnExactLeavesInSpec)

/-- ITS FALSE NEIGHBOUR: 'it returns false'. Refute it at one input. -/
def fnExactLeavesInWrong : ChangeSpec := { name := "fnExactLeavesIn", fn := fun _ => fun
  | [d] => { results := [.lit (.bool false)], args := [d] }
  | _ => none }
def FnExactLeavesInWrongFalsely : Prop := fnExactLeavesInRow.holds Try.pinned (OpenSpec.ofChange fnExactLeavesInWrong)

/-- 'laws.FnExactEditsFault': WHATEVER THE INPUT: true; the input reads as it did. -/
def fnExactEditsFaultSpec : ChangeSpec := { name := "fnExactEditsFault", fn := fun _ => fun
  | [d] => { results := [.lit (.bool true)], args := [d] }
  | _ => none }
def fnExactEditsFaultRow : OpenClaim := { program := "ytoaibccmlmaknaa", sum := "39fa1057688a83d60684cfb39c0d6c052486aebc227b65a6aef7e516adc48014", func := "loop.example/g00166/laws.FnExactEditsFault", spec := "fnExactEditsFault", recurses := true, apart := false }
def FnExactEditsFaultSaid : Prop := fnExactEditsFaultRow.holds Try.pinned (OpenSpec.ofChange fnExactEditsFaultSpec)

/-- ITS FALSE NEIGHBOUR: 'it returns false'. Refute it at one input. -/
def fnExactEditsFaultWrong : ChangeSpec := { name := "fnExactEditsFault", fn := fun _ => fun
  | [d] => { results := [.lit (.bool false)], args := [d] }
  | _ => none }
def FnExactEditsFaultWrongFalsely : Prop := fnExactEditsFaultRow.holds Try.pinned (OpenSpec.ofChange fnExactEditsFaultWrong)

/-- 'laws.FnExactMergeValues': WHATEVER THE INPUT: true; the input reads as it did. -/
def fnExactMergeValuesSpec : ChangeSpec := { name := "fnExactMergeValues", fn := fun _ => fun
  | [d1, d2] => { results := [.lit (.bool true)], args := [d1, d2] }
  | _ => none }
def fnExactMergeValuesRow : OpenClaim := { program := "ytoaibccmlmaknaa", sum := "39fa1057688a83d60684cfb39c0d6c052486aebc227b65a6aef7e516adc48014", func := "loop.example/g00166/laws.FnExactMergeValues", spec := "fnExactMergeValues", inPlace := ["internal/bytealg.abigen_runtime_cmpstring"], unfollowed := true, recurses := true, apart := false }
def FnExactMergeValuesSaid : Prop := fnExactMergeValuesRow.holds Try.pinned (OpenSpec.ofChange fnExactMergeValuesSpec)

/-- ITS FALSE NEIGHBOUR: 'it returns false'. Refute it at one input. -/
def fnExactMergeValuesWrong : ChangeSpec := { name := "fnExactMergeValues", fn := fun _ => fun
  | [d1, d2] => { results := [.lit (.bool false)], args := [d1, d2] }
  | _ => none }
def FnExactMergeValuesWrongFalsely : Prop := fnExactMergeValuesRow.holds Try.pinned (OpenSpec.ofChange fnExactMergeValuesWrong)

/-- 'laws.FnExactCountSame': WHATEVER THE INPUT: true; the input reads as it did. -/
def fnExactCountSameSpec : ChangeSpec := { name := "fnExactCountSame", fn := fun _ => fun
  | [d1, d2] => { results := [.lit (.bool true)], args := [d1, d2] }
  | _ => none }
def fnExactCountSameRow : OpenClaim := { program := "ytoaibccmlmaknaa", sum := "39fa1057688a83d60684cfb39c0d6c052486aebc227b65a6aef7e516adc48014", func := "loop.example/g00166/laws.FnExactCountSame", spec := "fnExactCountSame", inPlace := ["internal/bytealg.abigen_runtime_cmpstring"], unfollowed := true, recurses := true, apart := false }
def FnExactCountSameSaid : Prop := fnExactCountSameRow.holds Try.pinned (OpenSpec.ofChange fnExactCountSameSpec)

/-- ITS FALSE NEIGHBOUR: 'it returns false'. Refute it at one input. -/
def fnExactCountSameWrong : ChangeSpec := { name := "fnExactCountSame", fn := fun _ => fun
  | [d1, d2] => { results := [.lit (.bool false)], args := [d1, d2] }
  | _ => none }
def FnExactCountSameWrongFalsely : Prop := fnExactCountSameRow.holds Try.pinned (OpenSpec.ofChange fnExactCountSameWrong)

/- THE SECOND FORM. 'bulk': how many values and letters a reading holds, each counted each time it is reached (what is shared counts as often as it is met; a slice's spare places count too). A statement '..UptoSaid' is the law's where the arguments, and the package variables that the reading takes, are together of bulk at most 1048576: NARROWER than '..Said'. Prove '..Said' where nothing that the law and all that it calls make is longer than what came in: it says more and counts as full. Else prove '..UptoSaid'. A law counts once. -/
mutual
def uptoBulk {H : Type} : DataW H → Nat
  | .lit (.string bytes) => bytes.length + 1
  | .lit _ => 1
  | .nil => 1
  | .ptr d => uptoBulk d + 1
  | .slice elems spare => uptoBulkAll elems + uptoBulkAll spare + 1
  | .agg parts => uptoBulkAll parts + 1
  | .iface _ d => uptoBulk d + 1
  | .map entries => uptoBulkEntries entries + 1
  | .held _ => 1
def uptoBulkAll {H : Type} : List (DataW H) → Nat
  | [] => 0
  | d :: r => uptoBulk d + uptoBulkAll r
def uptoBulkEntries {H : Type} : List (Lit × DataW H) → Nat
  | [] => 0
  | x :: r => uptoBulkEntry x + uptoBulkEntries r
def uptoBulkEntry {H : Type} : Lit × DataW H → Nat
  | (.string bytes, d) => bytes.length + uptoBulk d + 1
  | (_, d) => uptoBulk d + 1
 end
def uptoSmall : (H : Type) → List (DataW H) → Bool := fun _ ds => decide (uptoBulkAll ds ≤ 1048576)
def OpenSpec.upto (s : _root_.Go.ChangeSpec) : _root_.Go.OpenSpec := { _root_.Go.OpenSpec.ofChange s with cond := some uptoSmall }

/-- 'laws.FnExactDropPath', WHERE WHAT IT READS IS OF BULK AT MOST 1048576: true; the input reads as it did. -/
def fnExactDropPathUptoRow : OpenClaim := { program := "ytoaibccmlmaknaa", sum := "39fa1057688a83d60684cfb39c0d6c052486aebc227b65a6aef7e516adc48014", func := "loop.example/g00166/laws.FnExactDropPath", spec := "fnExactDropPath", inPlace := ["internal/bytealg.abigen_runtime_cmpstring"], unfollowed := true, recurses := true, apart := false, narrowed := true }
def FnExactDropPathUptoSaid : Prop := fnExactDropPathUptoRow.holds Try.pinned (OpenSpec.upto fnExactDropPathSpec)

/-- 'laws.FnExactPathsIn', WHERE WHAT IT READS IS OF BULK AT MOST 1048576: true; the input reads as it did. -/
def fnExactPathsInUptoRow : OpenClaim := { program := "ytoaibccmlmaknaa", sum := "39fa1057688a83d60684cfb39c0d6c052486aebc227b65a6aef7e516adc48014", func := "loop.example/g00166/laws.FnExactPathsIn", spec := "fnExactPathsIn", unfollowed := true, recurses := true, apart := false, narrowed := true }
def FnExactPathsInUptoSaid : Prop := fnExactPathsInUptoRow.holds Try.pinned (OpenSpec.upto fnExactPathsInSpec)

/-- 'laws.FnExactLeavesIn', WHERE WHAT IT READS IS OF BULK AT MOST 1048576: true; the input reads as it did. -/
def fnExactLeavesInUptoRow : OpenClaim := { program := "ytoaibccmlmaknaa", sum := "39fa1057688a83d60684cfb39c0d6c052486aebc227b65a6aef7e516adc48014", func := "loop.example/g00166/laws.FnExactLeavesIn", spec := "fnExactLeavesIn", unfollowed := true, recurses := true, apart := false, narrowed := true }
def FnExactLeavesInUptoSaid : Prop := fnExactLeavesInUptoRow.holds Try.pinned (OpenSpec.upto fnExactLeavesInSpec)

/-- 'laws.FnExactEditsFault', WHERE WHAT IT READS IS OF BULK AT MOST 1048576: true; the input reads as it did. -/
def fnExactEditsFaultUptoRow : OpenClaim := { program := "ytoaibccmlmaknaa", sum := "39fa1057688a83d60684cfb39c0d6c052486aebc227b65a6aef7e516adc48014", func := "loop.example/g00166/laws.FnExactEditsFault", spec := "fnExactEditsFault", recurses := true, apart := false, narrowed := true }
def FnExactEditsFaultUptoSaid : Prop := fnExactEditsFaultUptoRow.holds Try.pinned (OpenSpec.upto fnExactEditsFaultSpec)

/-- 'laws.FnExactMergeValues', WHERE WHAT IT READS IS OF BULK AT MOST 1048576: true; the input reads as it did. -/
def fnExactMergeValuesUptoRow : OpenClaim := { program := "ytoaibccmlmaknaa", sum := "39fa1057688a83d60684cfb39c0d6c052486aebc227b65a6aef7e516adc48014", func := "loop.example/g00166/laws.FnExactMergeValues", spec := "fnExactMergeValues", inPlace := ["internal/bytealg.abigen_runtime_cmpstring"], unfollowed := true, recurses := true, apart := false, narrowed := true }
def FnExactMergeValuesUptoSaid : Prop := fnExactMergeValuesUptoRow.holds Try.pinned (OpenSpec.upto fnExactMergeValuesSpec)

/-- 'laws.FnExactCountSame', WHERE WHAT IT READS IS OF BULK AT MOST 1048576: true; the input reads as it did. -/
def fnExactCountSameUptoRow : OpenClaim := { program := "ytoaibccmlmaknaa", sum := "39fa1057688a83d60684cfb39c0d6c052486aebc227b65a6aef7e516adc48014", func := "loop.example/g00166/laws.FnExactCountSame", spec := "fnExactCountSame", inPlace := ["internal/bytealg.abigen_runtime_cmpstring"], unfollowed := true, recurses := true, apart := false, narrowed := true }
def FnExactCountSameUptoSaid : Prop := fnExactCountSameUptoRow.holds Try.pinned (OpenSpec.upto fnExactCountSameSpec)

end Rows
end Go.Proofs.Ytoaibccmlmaknaa
