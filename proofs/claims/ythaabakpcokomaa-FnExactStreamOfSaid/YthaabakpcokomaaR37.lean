/-
  spec.l15Event and both StreamFaults.
-/
import Derived.Test.YthaabakpcokomaaR18
import Derived.Test.YthaabakpcokomaaR36
namespace Go.Proofs.Ythaabakpcokomaa
open Go.RowKit
set_option linter.unusedVariables false
set_option linter.unusedSimpArgs false

namespace Sev
theorem l15Leaf_any (l : List M.Cl) (b off cap : Nat) (w : World) (hrow : Row w b off l) (h1 : 1 ≤ l.length) :
    Calls Try.prog 101 #[.slice (some ⟨b, off, none⟩) l.length cap] w fun e w' => e = .returned (.bool ((l.getD 0 M.zero).n == 0)) ∧ w' = w := by
  obtain ⟨_, _, _, _, f4⟩ := hrow 0 (by omega)
  simp only [Nat.zero_mul, Nat.add_zero] at f4
  have hI : (0 : Int) < (l.length : Int) := by omega
  generalize (l.getD 0 M.zero).n = n at *
  clear hrow
  go_enter Try.func101, Try.ntmps101
  go_wp2_with fail
  go_ret
  exact ⟨rfl, rfl⟩

end Sev
end Go.Proofs.Ythaabakpcokomaa
