/-
  impl.partOf: the value at a place by itself.
  impl.partsOf and impl.keysIn: the parts of a value, each in memory of its own, and their keys.
-/
import Derived.Test.YthaabakpcokomaaQ14
import Derived.Test.YthaabakpcokomaaQ17
namespace Go.Proofs.Ythaabakpcokomaa
open Go.RowKit
set_option linter.unusedVariables false

end Go.Proofs.Ythaabakpcokomaa

namespace Go.Proofs.Ythaabakpcokomaa
open Go.RowKit
set_option linter.unusedVariables false

/-- A row of slices, as SS says, no two of which share memory. -/
def SD (w : World) (B : Nat) (v : Value) (ps : List (List M.Cl)) : Prop :=
  ∃ ss : List Value, ss.length = ps.length ∧ w.ownsRow B 28 1 v ps.length ss ∧ (∀ i, i < ps.length → Res w B (ss.getD i (.slice none 0 0)) (ps.getD i [])) ∧ ∀ i j, i < j → j < ps.length → ∀ b, (ss.getD i (.slice none 0 0)).ownBlock = some b → (ss.getD j (.slice none 0 0)).ownBlock ≠ some b
theorem SD.ss {w : World} {B : Nat} {v : Value} {ps : List (List M.Cl)} (h : SD w B v ps) : SS w B v ps := by
  obtain ⟨ss, h1, h2, h3, _⟩ := h; exact ⟨ss, h1, h2, h3⟩
end Go.Proofs.Ythaabakpcokomaa
