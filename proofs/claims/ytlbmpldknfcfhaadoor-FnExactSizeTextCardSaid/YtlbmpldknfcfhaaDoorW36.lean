/-
  The paths of a value and of all in it, plainly. No word of the program is used here.
  Paths as they lie in memory: rows of steps, rows of paths; an append of a row that may be nil.
-/
import Derived.Test.YtlbmpldknfcfhaaDoorW14
import Derived.Test.YtlbmpldknfcfhaaDoorW19
import Derived.Test.YtlbmpldknfcfhaaDoorW21
import Derived.Test.YtlbmpldknfcfhaaDoorW26
import Derived.Test.YtlbmpldknfcfhaaDoorW27
import Derived.Test.YtlbmpldknfcfhaaDoorW29
import Derived.Test.YtlbmpldknfcfhaaDoorW34
import Derived.Test.YtlbmpldknfcfhaaDoorW35
import Derived.Laws.OwnMore
namespace Go.Proofs.YtlbmpldknfcfhaaDoor
open Go.RowKit
set_option linter.unusedVariables false
set_option linter.unusedSimpArgs false
namespace Al
theorem places_getD (v : List M.Cl) (a k : Nat) (hk : k < M.arity v a) : (M.places v a)[k]? = some (M.iter v k (a + 1)) := by
  simp [M.places, hk]
theorem subs_getD (v : List M.Cl) (a k : Nat) (hk : k < M.arity v a) : (subs v a).getD k [] = part v (M.iter v k (a + 1)) := by
  rw [List.getD_eq_getElem?_getD, subs, List.getElem?_map, places_getD v a k hk]; rfl
theorem keysAt_getD (v : List M.Cl) (a k : Nat) (hk : k < M.arity v a) : (keysAt v a).getD k ByteArray.empty = (v.getD (M.iter v k (a + 1)) M.zero).key := by
  rw [List.getD_eq_getElem?_getD, keysAt, List.getElem?_map, places_getD v a k hk]; rfl
/-- The first k parts lie ahead of the place of the next one. -/
theorem iter_le {v : List M.Cl} (hv : M.valueFault v = 0) {k : Nat} (hk : k ≤ M.arity v 0) : k + 1 ≤ M.iter v k 1 ∧ M.iter v k 1 ≤ v.length := by
  have hl := (M.fault_zero hv).1
  obtain ⟨h1, h2, h3, _⟩ := M.places_in hv 0 (by omega)
  simp only [Nat.zero_add] at h1 h2
  induction k with
  | zero => exact ⟨Nat.le_refl _, by show 1 ≤ _; omega⟩
  | succ k ih =>
    obtain ⟨i1, i2⟩ := ih (by omega)
    have h5 := h1 k (by omega)
    have hg := end_gt hv (a := M.iter v k 1) (by omega)
    rw [M.iter_next]
    exact ⟨by omega, by omega⟩
theorem part_lt {v : List M.Cl} (hv : M.valueFault v = 0) {k : Nat} (hk : k < M.arity v 0) : M.iter v k 1 < v.length ∧ M.iter v k 1 + (part v (M.iter v k 1)).length = M.iter v (k + 1) 1 ∧ M.valueFault (part v (M.iter v k 1)) = 0 := by
  have hl := (M.fault_zero hv).1
  obtain ⟨h1, h2, h3, _⟩ := M.places_in hv 0 (by omega)
  simp only [Nat.zero_add] at h1
  have h5 := h1 k hk
  have hlt : M.iter v k 1 < v.length := by omega
  have hg := end_gt hv hlt
  have hp := part_len hv hlt
  refine ⟨hlt, ?_, part_valid hv hlt⟩
  rw [M.iter_next]
  omega
end Al
end Go.Proofs.YtlbmpldknfcfhaaDoor

namespace Go.Proofs.YtlbmpldknfcfhaaDoor
open Go.RowKit
set_option linter.unusedVariables false
set_option linter.unusedSimpArgs false
namespace Al
section
variable {P : Program}
end
end Al
end Go.Proofs.YtlbmpldknfcfhaaDoor
