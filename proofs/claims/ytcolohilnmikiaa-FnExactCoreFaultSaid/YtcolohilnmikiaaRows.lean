/-
  No cell of these rows narrows 'for every input' (looked for: loops, veiled, ifaces, maps, wideKeys, modest, calm, conditions, laid).
  DERIVED. THE GIVEN ROWS OF THIS SEAT. 8 by the template 'for every input the law returns true; each argument reads behind the call as it read before'; 0 by the template 'total and deterministic' (their statements: YtcolohilnmikiaaTotals.lean).
  GIVEN WITH THE SEED: the statements are not yours to turn. If you find one false, say at which input.
  Laid BY PROGRAM, IN A SANDBOX (cutbox-rows.mjs): the forced cells as the released guide's own fill.sh prints them over the translation a83d5b0837d8f43a… (all of the seat's roots in one cut). By AI agents, Wed Nov 11 2026. No macro, syntax, notation, axiom, sorry.
-/
import Derived.Test.YtcolohilnmikiaaChecked
import GoSem.Claim
import GoSem.ClaimJoined
import GoSem.ClaimMapViews
import Derived.JoinedTies
import Derived.KernelRfl
namespace Go.Proofs.Ytcolohilnmikiaa
/- THE CELL 'sum', in the pinned program and in every row, IS THE sha256 OF THE DUMP (.gsa) THAT YtcolohilnmikiaaProg.lean LOADS. Nothing in Lean hashes anything: it is a label: what it is worth is what the hold of that sum in a sandbox is worth. -/
noncomputable def Try.pinned : Pinned := { name := "ytcolohilnmikiaa", sum := "a83d5b0837d8f43afb0f0bd4b1f51554ea68620a5ca5f05ccb0313ab9d8240de", checked := Try.checked }
namespace Rows
def none {H : Type} : Left H := { results := [], args := [] }

/-- 'laws.FnExactTreeFault': WHATEVER THE INPUT: true; the input reads as it did. -/
def fnExactTreeFaultSpec : ChangeSpec := { name := "fnExactTreeFault", fn := fun _ => fun
  | [d] => { results := [.lit (.bool true)], args := [d] }
  | _ => none }
def fnExactTreeFaultRow : OpenClaim := { program := "ytcolohilnmikiaa", sum := "a83d5b0837d8f43afb0f0bd4b1f51554ea68620a5ca5f05ccb0313ab9d8240de", func := "loop.example/g00166/laws.FnExactTreeFault", spec := "fnExactTreeFault", unfollowed := true, recurses := true, apart := false }
def FnExactTreeFaultSaid : Prop := fnExactTreeFaultRow.holds Try.pinned (OpenSpec.ofChange fnExactTreeFaultSpec)

/-- ITS FALSE NEIGHBOUR: 'it returns false'. Refute it at one input. -/
def fnExactTreeFaultWrong : ChangeSpec := { name := "fnExactTreeFault", fn := fun _ => fun
  | [d] => { results := [.lit (.bool false)], args := [d] }
  | _ => none }
def FnExactTreeFaultWrongFalsely : Prop := fnExactTreeFaultRow.holds Try.pinned (OpenSpec.ofChange fnExactTreeFaultWrong)

/-- 'laws.FnExactScopeFault': WHATEVER THE INPUT: true; the input reads as it did. -/
def fnExactScopeFaultSpec : ChangeSpec := { name := "fnExactScopeFault", fn := fun _ => fun
  | [d] => { results := [.lit (.bool true)], args := [d] }
  | _ => none }
def fnExactScopeFaultRow : OpenClaim := { program := "ytcolohilnmikiaa", sum := "a83d5b0837d8f43afb0f0bd4b1f51554ea68620a5ca5f05ccb0313ab9d8240de", func := "loop.example/g00166/laws.FnExactScopeFault", spec := "fnExactScopeFault", unfollowed := true, recurses := true, apart := false }
def FnExactScopeFaultSaid : Prop := fnExactScopeFaultRow.holds Try.pinned (OpenSpec.ofChange fnExactScopeFaultSpec)

/-- ITS FALSE NEIGHBOUR: 'it returns false'. Refute it at one input. -/
def fnExactScopeFaultWrong : ChangeSpec := { name := "fnExactScopeFault", fn := fun _ => fun
  | [d] => { results := [.lit (.bool false)], args := [d] }
  | _ => none }
def FnExactScopeFaultWrongFalsely : Prop := fnExactScopeFaultRow.holds Try.pinned (OpenSpec.ofChange fnExactScopeFaultWrong)

/-- 'laws.FnExactVarsOf': WHATEVER THE INPUT: true; the input reads as it did. -/
def fnExactVarsOfSpec : ChangeSpec := { name := "fnExactVarsOf", fn := fun _ => fun
  | [d] => { results := [.lit (.bool true)], args := [d] }
  | _ => none }
def fnExactVarsOfRow : OpenClaim := { program := "ytcolohilnmikiaa", sum := "a83d5b0837d8f43afb0f0bd4b1f51554ea68620a5ca5f05ccb0313ab9d8240de", func := "loop.example/g00166/laws.FnExactVarsOf", spec := "fnExactVarsOf", unfollowed := true, recurses := true, apart := false }
def FnExactVarsOfSaid : Prop := fnExactVarsOfRow.holds Try.pinned (OpenSpec.ofChange fnExactVarsOfSpec)

/-- ITS FALSE NEIGHBOUR: 'it returns false'. Refute it at one input. -/
def fnExactVarsOfWrong : ChangeSpec := { name := "fnExactVarsOf", fn := fun _ => fun
  | [d] => { results := [.lit (.bool false)], args := [d] }
  | _ => none }
def FnExactVarsOfWrongFalsely : Prop := fnExactVarsOfRow.holds Try.pinned (OpenSpec.ofChange fnExactVarsOfWrong)

/-- 'laws.FnExactUsesOf': WHATEVER THE INPUT: true; the input reads as it did. -/
def fnExactUsesOfSpec : ChangeSpec := { name := "fnExactUsesOf", fn := fun _ => fun
  | [d1, d2] => { results := [.lit (.bool true)], args := [d1, d2] }
  | _ => none }
def fnExactUsesOfRow : OpenClaim := { program := "ytcolohilnmikiaa", sum := "a83d5b0837d8f43afb0f0bd4b1f51554ea68620a5ca5f05ccb0313ab9d8240de", func := "loop.example/g00166/laws.FnExactUsesOf", spec := "fnExactUsesOf", unfollowed := true, recurses := true, apart := false }
def FnExactUsesOfSaid : Prop := fnExactUsesOfRow.holds Try.pinned (OpenSpec.ofChange fnExactUsesOfSpec)

/-- ITS FALSE NEIGHBOUR: 'it returns false'. Refute it at one input. -/
def fnExactUsesOfWrong : ChangeSpec := { name := "fnExactUsesOf", fn := fun _ => fun
  | [d1, d2] => { results := [.lit (.bool false)], args := [d1, d2] }
  | _ => none }
def FnExactUsesOfWrongFalsely : Prop := fnExactUsesOfRow.holds Try.pinned (OpenSpec.ofChange fnExactUsesOfWrong)

/-- 'laws.FnExactCoreFault': WHATEVER THE INPUT: true; the input reads as it did. -/
def fnExactCoreFaultSpec : ChangeSpec := { name := "fnExactCoreFault", fn := fun _ => fun
  | [d] => { results := [.lit (.bool true)], args := [d] }
  | _ => none }
def fnExactCoreFaultRow : OpenClaim := { program := "ytcolohilnmikiaa", sum := "a83d5b0837d8f43afb0f0bd4b1f51554ea68620a5ca5f05ccb0313ab9d8240de", func := "loop.example/g00166/laws.FnExactCoreFault", spec := "fnExactCoreFault", unfollowed := true, recurses := true, apart := false }
def FnExactCoreFaultSaid : Prop := fnExactCoreFaultRow.holds Try.pinned (OpenSpec.ofChange fnExactCoreFaultSpec)

/-- ITS FALSE NEIGHBOUR: 'it returns false'. Refute it at one input. -/
def fnExactCoreFaultWrong : ChangeSpec := { name := "fnExactCoreFault", fn := fun _ => fun
  | [d] => { results := [.lit (.bool false)], args := [d] }
  | _ => none }
def FnExactCoreFaultWrongFalsely : Prop := fnExactCoreFaultRow.holds Try.pinned (OpenSpec.ofChange fnExactCoreFaultWrong)

/-- 'laws.FnExactLowerTree': WHATEVER THE INPUT: true; the input reads as it did. -/
def fnExactLowerTreeSpec : ChangeSpec := { name := "fnExactLowerTree", fn := fun _ => fun
  | [d] => { results := [.lit (.bool true)], args := [d] }
  | _ => none }
def fnExactLowerTreeRow : OpenClaim := { program := "ytcolohilnmikiaa", sum := "a83d5b0837d8f43afb0f0bd4b1f51554ea68620a5ca5f05ccb0313ab9d8240de", func := "loop.example/g00166/laws.FnExactLowerTree", spec := "fnExactLowerTree", unfollowed := true, recurses := true, apart := false }
def FnExactLowerTreeSaid : Prop := fnExactLowerTreeRow.holds Try.pinned (OpenSpec.ofChange fnExactLowerTreeSpec)

/-- ITS FALSE NEIGHBOUR: 'it returns false'. Refute it at one input. -/
def fnExactLowerTreeWrong : ChangeSpec := { name := "fnExactLowerTree", fn := fun _ => fun
  | [d] => { results := [.lit (.bool false)], args := [d] }
  | _ => none }
def FnExactLowerTreeWrongFalsely : Prop := fnExactLowerTreeRow.holds Try.pinned (OpenSpec.ofChange fnExactLowerTreeWrong)

/-- 'laws.FnExactDeepOf': WHATEVER THE INPUT: true; the input reads as it did. -/
def fnExactDeepOfSpec : ChangeSpec := { name := "fnExactDeepOf", fn := fun _ => fun
  | [d] => { results := [.lit (.bool true)], args := [d] }
  | _ => none }
def fnExactDeepOfRow : OpenClaim := { program := "ytcolohilnmikiaa", sum := "a83d5b0837d8f43afb0f0bd4b1f51554ea68620a5ca5f05ccb0313ab9d8240de", func := "loop.example/g00166/laws.FnExactDeepOf", spec := "fnExactDeepOf", recurses := true, apart := false }
def FnExactDeepOfSaid : Prop := fnExactDeepOfRow.holds Try.pinned (OpenSpec.ofChange fnExactDeepOfSpec)

/-- ITS FALSE NEIGHBOUR: 'it returns false'. Refute it at one input. -/
def fnExactDeepOfWrong : ChangeSpec := { name := "fnExactDeepOf", fn := fun _ => fun
  | [d] => { results := [.lit (.bool false)], args := [d] }
  | _ => none }
def FnExactDeepOfWrongFalsely : Prop := fnExactDeepOfRow.holds Try.pinned (OpenSpec.ofChange fnExactDeepOfWrong)

/-- 'laws.FnExactSlotsOf': WHATEVER THE INPUT: true; the input reads as it did. -/
def fnExactSlotsOfSpec : ChangeSpec := { name := "fnExactSlotsOf", fn := fun _ => fun
  | [d] => { results := [.lit (.bool true)], args := [d] }
  | _ => none }
def fnExactSlotsOfRow : OpenClaim := { program := "ytcolohilnmikiaa", sum := "a83d5b0837d8f43afb0f0bd4b1f51554ea68620a5ca5f05ccb0313ab9d8240de", func := "loop.example/g00166/laws.FnExactSlotsOf", spec := "fnExactSlotsOf", unfollowed := true, recurses := true, apart := false }
def FnExactSlotsOfSaid : Prop := fnExactSlotsOfRow.holds Try.pinned (OpenSpec.ofChange fnExactSlotsOfSpec)

/-- ITS FALSE NEIGHBOUR: 'it returns false'. Refute it at one input. -/
def fnExactSlotsOfWrong : ChangeSpec := { name := "fnExactSlotsOf", fn := fun _ => fun
  | [d] => { results := [.lit (.bool false)], args := [d] }
  | _ => none }
def FnExactSlotsOfWrongFalsely : Prop := fnExactSlotsOfRow.holds Try.pinned (OpenSpec.ofChange fnExactSlotsOfWrong)

/- THE SECOND FORM. 'bulk': how many values and letters a reading holds, each counted each time it is reached (what is shared counts as often as it is met; a slice's spare places count too). A statement '..UptoSaid' is the law's where the arguments, and the package variables that the reading takes, are together of bulk at most 1048576: NARROWER than '..Said'. Prove '..Said' where nothing that the law and all that it calls make is longer than what came in: it says more and counts as full. Else prove '..UptoSaid'. A law counts once. -/
mutual
def uptoBulk {H : Type} : DataW H → Nat
  | .lit (.string bytes) => bytes.length + 1
  | .lit _ => 1
  | .nil => 1
  | .ptr d => uptoBulk d + 1
  | .slice elems spare => uptoBulkAll elems + uptoBulkAll spare + 1
  | .agg parts => uptoBulkAll parts + 1
  | .iface _ d => uptoBulk d + 1
  | .map entries => uptoBulkEntries entries + 1
  | .held _ => 1
def uptoBulkAll {H : Type} : List (DataW H) → Nat
  | [] => 0
  | d :: r => uptoBulk d + uptoBulkAll r
def uptoBulkEntries {H : Type} : List (Lit × DataW H) → Nat
  | [] => 0
  | x :: r => uptoBulkEntry x + uptoBulkEntries r
def uptoBulkEntry {H : Type} : Lit × DataW H → Nat
  | (.string bytes, d) => bytes.length + uptoBulk d + 1
  | (_, d) => uptoBulk d + 1
 end
def uptoSmall : (H : Type) → List (DataW H) → Bool := fun _ ds => decide (uptoBulkAll ds ≤ 1048576)
def OpenSpec.upto (s : _root_.Go.ChangeSpec) : _root_.Go.OpenSpec := { _root_.Go.OpenSpec.ofChange s with cond := some uptoSmall }

/-- 'laws.FnExactTreeFault', WHERE WHAT IT READS IS OF BULK AT MOST 1048576: true; the input reads as it did. -/
def fnExactTreeFaultUptoRow : OpenClaim := { program := "ytcolohilnmikiaa", sum := "a83d5b0837d8f43afb0f0bd4b1f51554ea68620a5ca5f05ccb0313ab9d8240de", func := "loop.example/g00166/laws.FnExactTreeFault", spec := "fnExactTreeFault", unfollowed := true, recurses := true, apart := false, narrowed := true }
def FnExactTreeFaultUptoSaid : Prop := fnExactTreeFaultUptoRow.holds Try.pinned (OpenSpec.upto fnExactTreeFaultSpec)

/-- 'laws.FnExactScopeFault', WHERE WHAT IT READS IS OF BULK AT MOST 1048576: true; the input reads as it did. -/
def fnExactScopeFaultUptoRow : OpenClaim := { program := "ytcolohilnmikiaa", sum := "a83d5b0837d8f43afb0f0bd4b1f51554ea68620a5ca5f05ccb0313ab9d8240de", func := "loop.example/g00166/laws.FnExactScopeFault", spec := "fnExactScopeFault", unfollowed := true, recurses := true, apart := false, narrowed := true }
def FnExactScopeFaultUptoSaid : Prop := fnExactScopeFaultUptoRow.holds Try.pinned (OpenSpec.upto fnExactScopeFaultSpec)

/-- 'laws.FnExactVarsOf', WHERE WHAT IT READS IS OF BULK AT MOST 1048576: true; the input reads as it did. -/
def fnExactVarsOfUptoRow : OpenClaim := { program := "ytcolohilnmikiaa", sum := "a83d5b0837d8f43afb0f0bd4b1f51554ea68620a5ca5f05ccb0313ab9d8240de", func := "loop.example/g00166/laws.FnExactVarsOf", spec := "fnExactVarsOf", unfollowed := true, recurses := true, apart := false, narrowed := true }
def FnExactVarsOfUptoSaid : Prop := fnExactVarsOfUptoRow.holds Try.pinned (OpenSpec.upto fnExactVarsOfSpec)

/-- 'laws.FnExactUsesOf', WHERE WHAT IT READS IS OF BULK AT MOST 1048576: true; the input reads as it did. -/
def fnExactUsesOfUptoRow : OpenClaim := { program := "ytcolohilnmikiaa", sum := "a83d5b0837d8f43afb0f0bd4b1f51554ea68620a5ca5f05ccb0313ab9d8240de", func := "loop.example/g00166/laws.FnExactUsesOf", spec := "fnExactUsesOf", unfollowed := true, recurses := true, apart := false, narrowed := true }
def FnExactUsesOfUptoSaid : Prop := fnExactUsesOfUptoRow.holds Try.pinned (OpenSpec.upto fnExactUsesOfSpec)

/-- 'laws.FnExactCoreFault', WHERE WHAT IT READS IS OF BULK AT MOST 1048576: true; the input reads as it did. -/
def fnExactCoreFaultUptoRow : OpenClaim := { program := "ytcolohilnmikiaa", sum := "a83d5b0837d8f43afb0f0bd4b1f51554ea68620a5ca5f05ccb0313ab9d8240de", func := "loop.example/g00166/laws.FnExactCoreFault", spec := "fnExactCoreFault", unfollowed := true, recurses := true, apart := false, narrowed := true }
def FnExactCoreFaultUptoSaid : Prop := fnExactCoreFaultUptoRow.holds Try.pinned (OpenSpec.upto fnExactCoreFaultSpec)

/-- 'laws.FnExactLowerTree', WHERE WHAT IT READS IS OF BULK AT MOST 1048576: true; the input reads as it did. -/
def fnExactLowerTreeUptoRow : OpenClaim := { program := "ytcolohilnmikiaa", sum := "a83d5b0837d8f43afb0f0bd4b1f51554ea68620a5ca5f05ccb0313ab9d8240de", func := "loop.example/g00166/laws.FnExactLowerTree", spec := "fnExactLowerTree", unfollowed := true, recurses := true, apart := false, narrowed := true }
def FnExactLowerTreeUptoSaid : Prop := fnExactLowerTreeUptoRow.holds Try.pinned (OpenSpec.upto fnExactLowerTreeSpec)

/-- 'laws.FnExactDeepOf', WHERE WHAT IT READS IS OF BULK AT MOST 1048576: true; the input reads as it did. -/
def fnExactDeepOfUptoRow : OpenClaim := { program := "ytcolohilnmikiaa", sum := "a83d5b0837d8f43afb0f0bd4b1f51554ea68620a5ca5f05ccb0313ab9d8240de", func := "loop.example/g00166/laws.FnExactDeepOf", spec := "fnExactDeepOf", recurses := true, apart := false, narrowed := true }
def FnExactDeepOfUptoSaid : Prop := fnExactDeepOfUptoRow.holds Try.pinned (OpenSpec.upto fnExactDeepOfSpec)

/-- 'laws.FnExactSlotsOf', WHERE WHAT IT READS IS OF BULK AT MOST 1048576: true; the input reads as it did. -/
def fnExactSlotsOfUptoRow : OpenClaim := { program := "ytcolohilnmikiaa", sum := "a83d5b0837d8f43afb0f0bd4b1f51554ea68620a5ca5f05ccb0313ab9d8240de", func := "loop.example/g00166/laws.FnExactSlotsOf", spec := "fnExactSlotsOf", unfollowed := true, recurses := true, apart := false, narrowed := true }
def FnExactSlotsOfUptoSaid : Prop := fnExactSlotsOfUptoRow.holds Try.pinned (OpenSpec.upto fnExactSlotsOfSpec)

end Rows
end Go.Proofs.Ytcolohilnmikiaa
