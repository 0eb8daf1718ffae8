/-
  No cell of these rows narrows 'for every input' (looked for: loops, veiled, ifaces, maps, wideKeys, modest, calm, conditions, laid).
  DERIVED. THE GIVEN ROWS OF THIS SEAT. 6 by the template 'for every input the law returns true; each argument reads behind the call as it read before'; 0 by the template 'total and deterministic' (their statements: YtokcefcjkjhnbaaTotals.lean).
  GIVEN WITH THE SEED: the statements are not yours to turn. If you find one false, say at which input.
  Laid BY PROGRAM, IN A SANDBOX (cutbox-rows.mjs): the forced cells as the released guide's own fill.sh prints them over the translation c182dff691f1886e… (all of the seat's roots in one cut). By AI agents, Wed Nov 11 2026. No macro, syntax, notation, axiom, sorry.
-/
import Derived.Test.YtokcefcjkjhnbaaChecked
import GoSem.Claim
import GoSem.ClaimJoined
import GoSem.ClaimMapViews
import Derived.JoinedTies
import Derived.KernelRfl
namespace Go.Proofs.Ytokcefcjkjhnbaa
/- THE CELL 'sum', in the pinned program and in every row, IS THE sha256 OF THE DUMP (.gsa) THAT YtokcefcjkjhnbaaProg.lean LOADS. Nothing in Lean hashes anything: it is a label: what it is worth is what the hold of that sum in a sandbox is worth. -/
noncomputable def Try.pinned : Pinned := { name := "ytokcefcjkjhnbaa", sum := "c182dff691f1886e937716c6fb95ecd7573ba8083a3a0aea18cd1da8fe59a1b2", checked := Try.checked }
namespace Rows
def none {H : Type} : Left H := { results := [], args := [] }

/-- 'laws.FnExactVarsOf': WHATEVER THE INPUT: true; the input reads as it did. -/
def fnExactVarsOfSpec : ChangeSpec := { name := "fnExactVarsOf", fn := fun _ => fun
  | [d] => { results := [.lit (.bool true)], args := [d] }
  | _ => none }
def fnExactVarsOfRow : OpenClaim := { program := "ytokcefcjkjhnbaa", sum := "c182dff691f1886e937716c6fb95ecd7573ba8083a3a0aea18cd1da8fe59a1b2", func := "loop.example/g00166/laws.FnExactVarsOf", spec := "fnExactVarsOf", unfollowed := true, recurses := true, apart := false }
def FnExactVarsOfSaid : Prop := fnExactVarsOfRow.holds Try.pinned (OpenSpec.ofChange fnExactVarsOfSpec)

/-- ITS FALSE NEIGHBOUR: 'it returns false'. Refute it at one input. -/
def fnExactVarsOfWrong : ChangeSpec := { name := "fnExactVarsOf", fn := fun _ => fun
  | [d] => { results := [.lit (.bool false)], args := [d] }
  | _ => none }
def FnExactVarsOfWrongFalsely : Prop := fnExactVarsOfRow.holds Try.pinned (OpenSpec.ofChange fnExactVarsOfWrong)

/-- 'laws.FnExactCountCore': WHATEVER THE INPUT: true; the input reads as it did. -/
def fnExactCountCoreSpec : ChangeSpec := { name := "fnExactCountCore", fn := fun _ => fun
  | [d] => { results := [.lit (.bool true)], args := [d] }
  | _ => none }
def fnExactCountCoreRow : OpenClaim := { program := "ytokcefcjkjhnbaa", sum := "c182dff691f1886e937716c6fb95ecd7573ba8083a3a0aea18cd1da8fe59a1b2", func := "loop.example/g00166/laws.FnExactCountCore", spec := "fnExactCountCore", unfollowed := true, recurses := true, apart := false }
def FnExactCountCoreSaid : Prop := fnExactCountCoreRow.holds Try.pinned (OpenSpec.ofChange fnExactCountCoreSpec)

/-- ITS FALSE NEIGHBOUR: 'it returns false'. Refute it at one input. -/
def fnExactCountCoreWrong : ChangeSpec := { name := "fnExactCountCore", fn := fun _ => fun
  | [d] => { results := [.lit (.bool false)], args := [d] }
  | _ => none }
def FnExactCountCoreWrongFalsely : Prop := fnExactCountCoreRow.holds Try.pinned (OpenSpec.ofChange fnExactCountCoreWrong)

/-- 'laws.FnExactKindsCore': WHATEVER THE INPUT: true; the input reads as it did. -/
def fnExactKindsCoreSpec : ChangeSpec := { name := "fnExactKindsCore", fn := fun _ => fun
  | [d] => { results := [.lit (.bool true)], args := [d] }
  | _ => none }
def fnExactKindsCoreRow : OpenClaim := { program := "ytokcefcjkjhnbaa", sum := "c182dff691f1886e937716c6fb95ecd7573ba8083a3a0aea18cd1da8fe59a1b2", func := "loop.example/g00166/laws.FnExactKindsCore", spec := "fnExactKindsCore", unfollowed := true, recurses := true, apart := false }
def FnExactKindsCoreSaid : Prop := fnExactKindsCoreRow.holds Try.pinned (OpenSpec.ofChange fnExactKindsCoreSpec)

/-- ITS FALSE NEIGHBOUR: 'it returns false'. Refute it at one input. -/
def fnExactKindsCoreWrong : ChangeSpec := { name := "fnExactKindsCore", fn := fun _ => fun
  | [d] => { results := [.lit (.bool false)], args := [d] }
  | _ => none }
def FnExactKindsCoreWrongFalsely : Prop := fnExactKindsCoreRow.holds Try.pinned (OpenSpec.ofChange fnExactKindsCoreWrong)

/-- 'laws.FnExactFitsCount': WHATEVER THE INPUT: true; the input reads as it did. -/
def fnExactFitsCountSpec : ChangeSpec := { name := "fnExactFitsCount", fn := fun _ => fun
  | [d1, d2] => { results := [.lit (.bool true)], args := [d1, d2] }
  | _ => none }
def fnExactFitsCountRow : OpenClaim := { program := "ytokcefcjkjhnbaa", sum := "c182dff691f1886e937716c6fb95ecd7573ba8083a3a0aea18cd1da8fe59a1b2", func := "loop.example/g00166/laws.FnExactFitsCount", spec := "fnExactFitsCount", apart := false }
def FnExactFitsCountSaid : Prop := fnExactFitsCountRow.holds Try.pinned (OpenSpec.ofChange fnExactFitsCountSpec)

/-- ITS FALSE NEIGHBOUR: 'it returns false'. Refute it at one input. -/
def fnExactFitsCountWrong : ChangeSpec := { name := "fnExactFitsCount", fn := fun _ => fun
  | [d1, d2] => { results := [.lit (.bool false)], args := [d1, d2] }
  | _ => none }
def FnExactFitsCountWrongFalsely : Prop := fnExactFitsCountRow.holds Try.pinned (OpenSpec.ofChange fnExactFitsCountWrong)

/-- 'laws.FnExactSureCore': WHATEVER THE INPUT: true; the input reads as it did. -/
def fnExactSureCoreSpec : ChangeSpec := { name := "fnExactSureCore", fn := fun _ => fun
  | [d] => { results := [.lit (.bool true)], args := [d] }
  | _ => none }
def fnExactSureCoreRow : OpenClaim := { program := "ytokcefcjkjhnbaa", sum := "c182dff691f1886e937716c6fb95ecd7573ba8083a3a0aea18cd1da8fe59a1b2", func := "loop.example/g00166/laws.FnExactSureCore", spec := "fnExactSureCore", unfollowed := true, recurses := true, apart := false }
def FnExactSureCoreSaid : Prop := fnExactSureCoreRow.holds Try.pinned (OpenSpec.ofChange fnExactSureCoreSpec)

/-- ITS FALSE NEIGHBOUR: 'it returns false'. Refute it at one input. -/
def fnExactSureCoreWrong : ChangeSpec := { name := "fnExactSureCore", fn := fun _ => fun
  | [d] => { results := [.lit (.bool false)], args := [d] }
  | _ => none }
def FnExactSureCoreWrongFalsely : Prop := fnExactSureCoreRow.holds Try.pinned (OpenSpec.ofChange fnExactSureCoreWrong)

/-- 'laws.FnExactReadsCore': WHATEVER THE INPUT: true; the input reads as it did. -/
def fnExactReadsCoreSpec : ChangeSpec := { name := "fnExactReadsCore", fn := fun _ => fun
  | [d] => { results := [.lit (.bool true)], args := [d] }
  | _ => none }
def fnExactReadsCoreRow : OpenClaim := { program := "ytokcefcjkjhnbaa", sum := "c182dff691f1886e937716c6fb95ecd7573ba8083a3a0aea18cd1da8fe59a1b2", func := "loop.example/g00166/laws.FnExactReadsCore", spec := "fnExactReadsCore", unfollowed := true, recurses := true, apart := false }
def FnExactReadsCoreSaid : Prop := fnExactReadsCoreRow.holds Try.pinned (OpenSpec.ofChange fnExactReadsCoreSpec)

/-- ITS FALSE NEIGHBOUR: 'it returns false'. Refute it at one input. -/
def fnExactReadsCoreWrong : ChangeSpec := { name := "fnExactReadsCore", fn := fun _ => fun
  | [d] => { results := [.lit (.bool false)], args := [d] }
  | _ => none }
def FnExactReadsCoreWrongFalsely : Prop := fnExactReadsCoreRow.holds Try.pinned (OpenSpec.ofChange fnExactReadsCoreWrong)

/- THE SECOND FORM. 'bulk': how many values and letters a reading holds, each counted each time it is reached (what is shared counts as often as it is met; a slice's spare places count too). A statement '..UptoSaid' is the law's where the arguments, and the package variables that the reading takes, are together of bulk at most 1048576: NARROWER than '..Said'. Prove '..Said' where nothing that the law and all that it calls make is longer than what came in: it says more and counts as full. Else prove '..UptoSaid'. A law counts once. -/
mutual
def uptoBulk {H : Type} : DataW H → Nat
  | .lit (.string bytes) => bytes.length + 1
  | .lit _ => 1
  | .nil => 1
  | .ptr d => uptoBulk d + 1
  | .slice elems spare => uptoBulkAll elems + uptoBulkAll spare + 1
  | .agg parts => uptoBulkAll parts + 1
  | .iface _ d => uptoBulk d + 1
  | .map entries => uptoBulkEntries entries + 1
  | .held _ => 1
def uptoBulkAll {H : Type} : List (DataW H) → Nat
  | [] => 0
  | d :: r => uptoBulk d + uptoBulkAll r
def uptoBulkEntries {H : Type} : List (Lit × DataW H) → Nat
  | [] => 0
  | x :: r => uptoBulkEntry x + uptoBulkEntries r
def uptoBulkEntry {H : Type} : Lit × DataW H → Nat
  | (.string bytes, d) => bytes.length + uptoBulk d + 1
  | (_, d) => uptoBulk d + 1
 end
def uptoSmall : (H : Type) → List (DataW H) → Bool := fun _ ds => decide (uptoBulkAll ds ≤ 1048576)
def OpenSpec.upto (s : _root_.Go.ChangeSpec) : _root_.Go.OpenSpec := { _root_.Go.OpenSpec.ofChange s with cond := some uptoSmall }

/-- 'laws.FnExactVarsOf', WHERE WHAT IT READS IS OF BULK AT MOST 1048576: true; the input reads as it did. -/
def fnExactVarsOfUptoRow : OpenClaim := { program := "ytokcefcjkjhnbaa", sum := "c182dff691f1886e937716c6fb95ecd7573ba8083a3a0aea18cd1da8fe59a1b2", func := "loop.example/g00166/laws.FnExactVarsOf", spec := "fnExactVarsOf", unfollowed := true, recurses := true, apart := false, narrowed := true }
def FnExactVarsOfUptoSaid : Prop := fnExactVarsOfUptoRow.holds Try.pinned (OpenSpec.upto fnExactVarsOfSpec)

/-- 'laws.FnExactCountCore', WHERE WHAT IT READS IS OF BULK AT MOST 1048576: true; the input reads as it did. -/
def fnExactCountCoreUptoRow : OpenClaim := { program := "ytokcefcjkjhnbaa", sum := "c182dff691f1886e937716c6fb95ecd7573ba8083a3a0aea18cd1da8fe59a1b2", func := "loop.example/g00166/laws.FnExactCountCore", spec := "fnExactCountCore", unfollowed := true, recurses := true, apart := false, narrowed := true }
def FnExactCountCoreUptoSaid : Prop := fnExactCountCoreUptoRow.holds Try.pinned (OpenSpec.upto fnExactCountCoreSpec)

/-- 'laws.FnExactKindsCore', WHERE WHAT IT READS IS OF BULK AT MOST 1048576: true; the input reads as it did. -/
def fnExactKindsCoreUptoRow : OpenClaim := { program := "ytokcefcjkjhnbaa", sum := "c182dff691f1886e937716c6fb95ecd7573ba8083a3a0aea18cd1da8fe59a1b2", func := "loop.example/g00166/laws.FnExactKindsCore", spec := "fnExactKindsCore", unfollowed := true, recurses := true, apart := false, narrowed := true }
def FnExactKindsCoreUptoSaid : Prop := fnExactKindsCoreUptoRow.holds Try.pinned (OpenSpec.upto fnExactKindsCoreSpec)

/-- 'laws.FnExactFitsCount', WHERE WHAT IT READS IS OF BULK AT MOST 1048576: true; the input reads as it did. -/
def fnExactFitsCountUptoRow : OpenClaim := { program := "ytokcefcjkjhnbaa", sum := "c182dff691f1886e937716c6fb95ecd7573ba8083a3a0aea18cd1da8fe59a1b2", func := "loop.example/g00166/laws.FnExactFitsCount", spec := "fnExactFitsCount", apart := false, narrowed := true }
def FnExactFitsCountUptoSaid : Prop := fnExactFitsCountUptoRow.holds Try.pinned (OpenSpec.upto fnExactFitsCountSpec)

/-- 'laws.FnExactSureCore', WHERE WHAT IT READS IS OF BULK AT MOST 1048576: true; the input reads as it did. -/
def fnExactSureCoreUptoRow : OpenClaim := { program := "ytokcefcjkjhnbaa", sum := "c182dff691f1886e937716c6fb95ecd7573ba8083a3a0aea18cd1da8fe59a1b2", func := "loop.example/g00166/laws.FnExactSureCore", spec := "fnExactSureCore", unfollowed := true, recurses := true, apart := false, narrowed := true }
def FnExactSureCoreUptoSaid : Prop := fnExactSureCoreUptoRow.holds Try.pinned (OpenSpec.upto fnExactSureCoreSpec)

/-- 'laws.FnExactReadsCore', WHERE WHAT IT READS IS OF BULK AT MOST 1048576: true; the input reads as it did. -/
def fnExactReadsCoreUptoRow : OpenClaim := { program := "ytokcefcjkjhnbaa", sum := "c182dff691f1886e937716c6fb95ecd7573ba8083a3a0aea18cd1da8fe59a1b2", func := "loop.example/g00166/laws.FnExactReadsCore", spec := "fnExactReadsCore", unfollowed := true, recurses := true, apart := false, narrowed := true }
def FnExactReadsCoreUptoSaid : Prop := fnExactReadsCoreUptoRow.holds Try.pinned (OpenSpec.upto fnExactReadsCoreSpec)

end Rows
end Go.Proofs.Ytokcefcjkjhnbaa
