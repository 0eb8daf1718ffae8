/-
  The places of a value: whether a place is one, and where the value at it ends, by the program and by its model.
-/
import Derived.Test.YtokcefcjkjhnbaaFaultI
import Derived.Test.YtokcefcjkjhnbaaKids
namespace Go.Proofs.Ytokcefcjkjhnbaa
open Go.RowKit
set_option linter.unusedVariables false

/-- The code of a place. -/
def asked (v : List M.Cl) (at' : Int) : Int := if M.valueFault v ≠ 0 then M.valueFault v else if at' < 0 ∨ (v.length : Int) ≤ at' then 3 else 0

theorem asked_fault {v : List M.Cl} {at' : Int} (h : M.valueFault v ≠ 0) : asked v at' = M.valueFault v := by unfold asked; rw [if_pos h]
theorem asked_out {v : List M.Cl} {at' : Int} (h : M.valueFault v = 0) (ha : at' < 0 ∨ (v.length : Int) ≤ at') : asked v at' = 3 := by unfold asked; rw [if_neg (by simp [h]), if_pos ha]
theorem asked_in {v : List M.Cl} {at' : Int} (h : M.valueFault v = 0) (h0 : 0 ≤ at') (h1 : at' < v.length) : asked v at' = 0 := by unfold asked; rw [if_neg (by simp [h]), if_neg (by omega)]
theorem asked_zero {v : List M.Cl} {at' : Int} (h : asked v at' = 0) : M.valueFault v = 0 ∧ 0 ≤ at' ∧ at' < v.length := by
  unfold asked at h
  split at h
  · rename_i h1; exact absurd h h1
  split at h
  · cases h
  rename_i h1 h2
  refine ⟨?_, by omega, by omega⟩
  by_cases e : M.valueFault v = 0
  · exact e
  · exact absurd e h1

end Go.Proofs.Ytokcefcjkjhnbaa
