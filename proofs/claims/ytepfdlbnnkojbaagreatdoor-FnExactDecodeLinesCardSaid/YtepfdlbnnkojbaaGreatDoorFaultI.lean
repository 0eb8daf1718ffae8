/-
  spec.ValueFault and impl.ValueFault both return the plain function M.valueFault of the cells.
  impl.ValueFault returns the plain function M.valueFault of the cells.
-/
import Derived.Test.YtepfdlbnnkojbaaGreatDoorCellB
import Derived.Test.YtepfdlbnnkojbaaGreatDoorShapeS
import Derived.Test.YtepfdlbnnkojbaaGreatDoorShapeI
namespace Go.Proofs.YtepfdlbnnkojbaaGreatDoor
open Go.RowKit
set_option linter.unusedVariables false

/-- The codes of the first k cells are all 0. -/
def clean (v : List M.Cl) (k : Nat) : Prop := ∀ i, i < k → M.cellCode (v.getD i M.zero) = 0

theorem first_hit (v : List M.Cl) (k : Nat) (hk : k < v.length) (h : clean v k) (hc : M.cellCode (v.getD k M.zero) ≠ 0) : M.firstCode v = M.cellCode (v.getD k M.zero) := by
  induction v generalizing k with
  | nil => simp at hk
  | cons c r ih =>
    cases k with
    | zero => simp only [List.getD_cons_zero] at hc ⊢; simp [M.firstCode, hc]
    | succ k =>
      have h0 := h 0 (by omega)
      simp only [List.getD_cons_zero] at h0
      simp only [List.getD_cons_succ] at hc ⊢
      rw [M.firstCode, if_pos h0]
      exact ih k (by simpa using hk) (fun i hi => by have := h (i + 1) (by omega); simpa only [List.getD_cons_succ] using this) hc

theorem first_none (v : List M.Cl) (h : clean v v.length) : M.firstCode v = 0 := by
  induction v with
  | nil => rfl
  | cons c r ih =>
    have h0 := h 0 (by simp)
    simp only [List.getD_cons_zero] at h0
    rw [M.firstCode, if_pos h0]
    exact ih (fun i hi => by have := h (i + 1) (by simpa using hi); simpa only [List.getD_cons_succ] using this)

theorem clean_step (v : List M.Cl) (k : Nat) (h : clean v k) (hc : M.cellCode (v.getD k M.zero) = 0) : clean v (k + 1) := by
  intro i hi
  by_cases e : i = k
  · subst e; exact hc
  · exact h i (by omega)

theorem fault_many (v : List M.Cl) (h : v.length < 1 ∨ 200 < v.length) : M.valueFault v = 2 := by unfold M.valueFault; rw [if_pos h]
theorem fault_cell (v : List M.Cl) (h1 : 1 ≤ v.length) (h2 : v.length ≤ 200) (k : Nat) (hk : k < v.length) (h : clean v k) (hc : M.cellCode (v.getD k M.zero) ≠ 0) : M.valueFault v = M.cellCode (v.getD k M.zero) := by
  unfold M.valueFault; rw [if_neg (by omega), first_hit v k hk h hc, if_pos hc]
theorem fault_none (v : List M.Cl) (h1 : 1 ≤ v.length) (h2 : v.length ≤ 200) (h : clean v v.length) (hw : M.walk v v.length 0 = none) : M.valueFault v = 1 := by
  unfold M.valueFault; rw [if_neg (by omega), first_none v h, if_neg (by simp), hw]
theorem fault_form (v : List M.Cl) (h1 : 1 ≤ v.length) (h2 : v.length ≤ 200) (h : clean v v.length) (e d : Nat) (hw : M.walk v v.length 0 = some (e, d)) (hf : e ≠ v.length ∨ (v.getD 0 M.zero).key.toList ≠ []) : M.valueFault v = 1 := by
  unfold M.valueFault; rw [if_neg (by omega), first_none v h, if_neg (by simp), hw]; simp only; rw [if_pos hf]
theorem fault_deep (v : List M.Cl) (h1 : 1 ≤ v.length) (h2 : v.length ≤ 200) (h : clean v v.length) (e d : Nat) (hw : M.walk v v.length 0 = some (e, d)) (he : e = v.length) (hk : (v.getD 0 M.zero).key.toList = []) (hd : 20 < d) : M.valueFault v = 7 := by
  unfold M.valueFault; rw [if_neg (by omega), first_none v h, if_neg (by simp), hw]; simp only; rw [if_neg (by simp only [he, hk]; simp), if_pos hd]
theorem fault_ok (v : List M.Cl) (h1 : 1 ≤ v.length) (h2 : v.length ≤ 200) (h : clean v v.length) (e d : Nat) (hw : M.walk v v.length 0 = some (e, d)) (he : e = v.length) (hk : (v.getD 0 M.zero).key.toList = []) (hd : ¬ 20 < d) : M.valueFault v = 0 := by
  unfold M.valueFault; rw [if_neg (by omega), first_none v h, if_neg (by simp), hw]; simp only; rw [if_neg (by simp only [he, hk]; simp), if_neg hd]

end Go.Proofs.YtepfdlbnnkojbaaGreatDoor

namespace Go.Proofs.YtepfdlbnnkojbaaGreatDoor
open Go.RowKit
set_option linter.unusedVariables false

end Go.Proofs.YtepfdlbnnkojbaaGreatDoor
