/-
  Reading a value, plainly, step by step: what a round of a list does, what stands by then. No word of the program is used here.
-/
import Derived.Test.YthbiclpifeobkaaQ28
namespace Go.Proofs.Ythbiclpifeobkaa
open Go.RowKit
set_option linter.unusedVariables false

/-- A part that bears no key. -/
def Bare (p : List M.Cl) : Prop := 1 ≤ p.length ∧ setKey p ByteArray.empty = p

namespace J
theorem made_bare (obj : Bool) (ks : List ByteArray) (ps : List (List M.Cl)) : Bare (madeV obj ks ps) := by
  unfold madeV
  cases obj with
  | false => exact ⟨by simp [arrV, arrK], rfl⟩
  | true => exact ⟨by simp [objV, objK], rfl⟩
end J
end Go.Proofs.Ythbiclpifeobkaa
