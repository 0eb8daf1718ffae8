/-
  spec.GetKey and impl.GetKey.
  impl.GetKey.
  spec.GetIndex and impl.GetIndex.
  impl.GetIndex.
-/
import Derived.Test.YthaabakpcokomaaR22
import Derived.Test.YthaabakpcokomaaR23
namespace Go.Proofs.Ythaabakpcokomaa
open Go.RowKit
set_option linter.unusedVariables false

theorem subs_getD' (v : List M.Cl) (i : Nat) (hi : i < M.arity v 0) : (subs v 0).getD i [] = part v (M.iter v i 1) := by
  simp [subs, M.places, List.getD_eq_getElem?_getD, hi]

end Go.Proofs.Ythaabakpcokomaa

namespace Go.Proofs.Ythaabakpcokomaa
open Go.RowKit
set_option linter.unusedVariables false

end Go.Proofs.Ythaabakpcokomaa

namespace Go.Proofs.Ythaabakpcokomaa
open Go.RowKit
set_option linter.unusedVariables false

end Go.Proofs.Ythaabakpcokomaa

namespace Go.Proofs.Ythaabakpcokomaa
open Go.RowKit
set_option linter.unusedVariables false

end Go.Proofs.Ythaabakpcokomaa
