/-
  Events and lists of them: plainly; impl.eventOf, impl.eventFault, spec.l15Event; both StreamFaults.
-/
import Derived.Test.YthaabakpcokomaaR07
import Derived.Test.YthaabakpcokomaaR19
import Derived.Test.YthaabakpcokomaaR23
import Derived.Test.YthaabakpcokomaaR26
import Derived.WalkSpells
namespace Go.Proofs.Ythaabakpcokomaa
open Go.RowKit
set_option linter.unusedVariables false
set_option linter.unusedSimpArgs false

namespace Sev
theorem n_ge {v : List M.Cl} (hv : M.valueFault v = 0) : 0 ≤ (v.getD 0 M.zero).n := by
  have hl := Pth.lens hv
  have hcd := Pth.cell_code hv (i := 0) (by omega)
  unfold M.cellCode at hcd
  split at hcd
  · cases hcd
  split at hcd
  · cases hcd
  split at hcd
  · cases hcd
  rename_i h3
  omega

theorem eql_nil (t e : TypeId) (h : Try.prog.underlying t = some (.slice e)) (a : Option Addr) (n c : Nat) (w : World) : (binOp .eql t (.slice a n c) (.slice none 0 0)).run Try.prog w = .ok (.bool a.isNone) w := Lib.run_eql_slice_nil w t e a n c 0 0 h
end Sev
end Go.Proofs.Ythaabakpcokomaa
