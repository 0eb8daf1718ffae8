/-
  Plainly: a value and all values in it, each ahead of those in it.
-/
import Derived.Test.YtlbmpldknfcfhaaDoorV21
namespace Go.Proofs.YtlbmpldknfcfhaaDoor
open Go.RowKit
set_option linter.unusedVariables false

theorem end_whole {v : List M.Cl} (hv : M.valueFault v = 0) : M.endOf v 0 = v.length := by
  obtain ⟨_, _, _, _, d, hw, _⟩ := M.fault_zero hv
  exact M.endOf_of (Nat.le_refl _) hw
theorem part_self {v : List M.Cl} (hv : M.valueFault v = 0) : part v 0 = v := by
  unfold part
  rw [end_whole hv, show cut v 0 v.length = v by unfold cut; simp]
  exact setKey_none hv
end Go.Proofs.YtlbmpldknfcfhaaDoor
