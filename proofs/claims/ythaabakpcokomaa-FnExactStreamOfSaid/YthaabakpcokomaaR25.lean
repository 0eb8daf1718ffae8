/-
  spec.LengthOf and impl.LengthOf.
  spec.GetAt and impl.GetAt.
-/
import Derived.Test.YthaabakpcokomaaR20
import Derived.Test.YthaabakpcokomaaR22
import Derived.Test.YthaabakpcokomaaR24
namespace Go.Proofs.Ythaabakpcokomaa
open Go.RowKit
set_option linter.unusedVariables false

/-- The size of a number. -/
def size (n : Int) : Int := if n < 0 then -n else n
/-- What is known of a cell that has no fault. -/
theorem code_bd {c : M.Cl} (h : M.cellCode c = 0) : 0 ≤ c.kind ∧ c.kind ≤ 6 ∧ -1000000000000000 ≤ c.num ∧ c.num ≤ 1000000000000000 ∧ 0 ≤ c.n ∧ c.n ≤ 200 ∧ M.textOk c.text = true ∧ M.textOk c.key = true := by
  unfold M.cellCode at h
  split at h
  · cases h
  split at h
  · cases h
  split at h
  · cases h
  split at h
  · rename_i h4; exact ⟨by omega, by omega, by omega, by omega, by omega, by omega, h4.1, h4.2⟩
  · cases h
end Go.Proofs.Ythaabakpcokomaa

namespace Go.Proofs.Ythaabakpcokomaa
open Go.RowKit
set_option linter.unusedVariables false

def atIn (v : List M.Cl) (c : M.Cl) : Int × List M.Cl := if c.kind = 4 then getOut v c.text else if c.kind = 3 then idxOut v c.num else (6, [])
end Go.Proofs.Ythaabakpcokomaa
