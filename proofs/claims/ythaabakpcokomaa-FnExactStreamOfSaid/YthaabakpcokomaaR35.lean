/-
  A path of steps is a value without a fault.
-/
import Derived.Test.YthaabakpcokomaaR33
namespace Go.Proofs.Ythaabakpcokomaa
open Go.RowKit
set_option linter.unusedVariables false
set_option linter.unusedSimpArgs false
namespace Al
/-- A path that leads somewhere is a path. -/
theorem pathC_ok {p : List M.Cl} (h : ∀ c ∈ p, Pth.Stp c) (hl : p.length ≤ 199) : M.valueFault (pathC p) = 0 ∧ Pth.fault (pathC p) = 0 ∧ (pathC p).drop 1 = p := by
  have hv : M.valueFault (pathC p) = 0 := by
    rw [← arr_ones]
    refine arr_valid (ones_valid h) (fun j hj => ?_) ?_ (by rw [ones_length]; omega)
    · rw [ones_length] at hj
      rw [ones_getD p j hj]
      have hs := h _ (getD_mem p j hj)
      have hc := Pth.cell_code hs.val (i := 0) (by simp)
      have hk := fault_key hs.val
      simp only [List.getD_cons_zero] at hc hk
      exact one_laid hc (by rw [hk]; exact empty_list) (Pth.step_n hc (by unfold Pth.isStep; generalize p.getD j M.zero = c at hs ⊢; rcases hs.kd with e | e <;> simp [e]))
    · rw [tot_ones (fun j hj => by rw [ones_length] at hj; rw [ones_getD p j hj]; rfl) _ (Nat.le_refl _), ones_length]; omega
  refine ⟨hv, Pth.fault_ok hv rfl ?_, rfl⟩
  show p.all Pth.isStep = true
  rw [List.all_eq_true]
  intro c hc
  unfold Pth.isStep
  rcases (h c hc).kd with e | e <;> simp [e]
end Al
end Go.Proofs.Ythaabakpcokomaa
