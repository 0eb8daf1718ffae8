/-
  spec.GetKey and impl.GetKey.
-/
import Derived.Test.YtakdlcgiieaieaaDoorBoth
import Derived.Test.YtakdlcgiieaieaaDoorPrtI
namespace Go.Proofs.YtakdlcgiieaieaaDoor
open Go.RowKit
set_option linter.unusedVariables false

theorem keysAt_getD' (v : List M.Cl) (i : Nat) (hi : i < M.arity v 0) : (keysAt v 0).getD i ByteArray.empty = (v.getD (M.iter v i 1) M.zero).key := by
  simp [keysAt, M.places, List.getD_eq_getElem?_getD, hi]
theorem subs_getD' (v : List M.Cl) (i : Nat) (hi : i < M.arity v 0) : (subs v 0).getD i [] = part v (M.iter v i 1) := by
  simp [subs, M.places, List.getD_eq_getElem?_getD, hi]

end Go.Proofs.YtakdlcgiieaieaaDoor
