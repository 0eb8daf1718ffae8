/-
  Plainly: a value and all values in it, each ahead of those in it.
  A path of steps is a value without a fault.
  Each value within one has its path, in their order. No word of the program is used here.
-/
import Derived.Test.YtlbmpldknfcfhaaDoorU18
import Derived.Test.YtlbmpldknfcfhaaDoorU19
import Derived.Test.YtlbmpldknfcfhaaDoorU34
namespace Go.Proofs.YtlbmpldknfcfhaaDoor
open Go.RowKit
set_option linter.unusedVariables false

theorem end_whole {v : List M.Cl} (hv : M.valueFault v = 0) : M.endOf v 0 = v.length := by
  obtain ⟨_, _, _, _, d, hw, _⟩ := M.fault_zero hv
  exact M.endOf_of (Nat.le_refl _) hw
theorem part_self {v : List M.Cl} (hv : M.valueFault v = 0) : part v 0 = v := by
  unfold part
  rw [end_whole hv, show cut v 0 v.length = v by unfold cut; simp]
  exact setKey_none hv
end Go.Proofs.YtlbmpldknfcfhaaDoor

namespace Go.Proofs.YtlbmpldknfcfhaaDoor
open Go.RowKit
set_option linter.unusedVariables false
set_option linter.unusedSimpArgs false
namespace Al
/-- A path that leads somewhere is a path. -/
theorem pathC_ok {p : List M.Cl} (h : ∀ c ∈ p, Pth.Stp c) (hl : p.length ≤ 199) : M.valueFault (pathC p) = 0 ∧ Pth.fault (pathC p) = 0 ∧ (pathC p).drop 1 = p := by
  have hv : M.valueFault (pathC p) = 0 := by
    rw [← arr_ones]
    refine arr_valid (ones_valid h) (fun j hj => ?_) ?_ (by rw [ones_length]; omega)
    · rw [ones_length] at hj
      rw [ones_getD p j hj]
      have hs := h _ (getD_mem p j hj)
      have hc := Pth.cell_code hs.val (i := 0) (by simp)
      have hk := fault_key hs.val
      simp only [List.getD_cons_zero] at hc hk
      exact one_laid hc (by rw [hk]; exact empty_list) (Pth.step_n hc (by unfold Pth.isStep; generalize p.getD j M.zero = c at hs ⊢; rcases hs.kd with e | e <;> simp [e]))
    · rw [tot_ones (fun j hj => by rw [ones_length] at hj; rw [ones_getD p j hj]; rfl) _ (Nat.le_refl _), ones_length]; omega
  refine ⟨hv, Pth.fault_ok hv rfl ?_, rfl⟩
  show p.all Pth.isStep = true
  rw [List.all_eq_true]
  intro c hc
  unfold Pth.isStep
  rcases (h c hc).kd with e | e <;> simp [e]
end Al
end Go.Proofs.YtlbmpldknfcfhaaDoor

namespace Go.Proofs.YtlbmpldknfcfhaaDoor
open Go.RowKit
set_option linter.unusedVariables false
set_option linter.unusedSimpArgs false
namespace Al
theorem here : ∀ (f : Nat) (v ahead : List M.Cl), M.valueFault v = 0 → v.length ≤ f → (all false f v ahead).length = v.length ∧ ∀ i, i < v.length → ∃ q, (all false f v ahead).getD i [] = ahead ++ q ∧ Pth.getS v q = (0, part v i)
  | 0, v, ahead, hv, hf => by have := (M.fault_zero hv).1; omega
  | f + 1, v, ahead, hv, hf => by
    have hl := (M.fault_zero hv).1
    have hend : M.iter v (M.arity v 0) 1 = v.length := by
      have h2 := (M.places_in hv 0 (by omega)).2.1
      simp only [Nat.zero_add] at h2
      rw [h2, end_whole hv]
    have key : ∀ k, k ≤ M.arity v 0 → (allK (all false f) (decide ((v.getD 0 M.zero).kind = 6)) (keysAt v 0) (subs v 0) ahead k).length + 1 = M.iter v k 1 ∧ ∀ i, 1 ≤ i → i < M.iter v k 1 → ∃ q, (allK (all false f) (decide ((v.getD 0 M.zero).kind = 6)) (keysAt v 0) (subs v 0) ahead k).getD (i - 1) [] = ahead ++ q ∧ Pth.getS v q = (0, part v i) := by
      intro k
      induction k with
      | zero => intro _; exact ⟨rfl, fun i h1 h2 => by have : M.iter v 0 1 = 1 := rfl; omega⟩
      | succ k ih =>
        intro hk
        obtain ⟨i1, i2⟩ := ih (by omega)
        obtain ⟨p1, p2, p3⟩ := part_lt hv (show k < M.arity v 0 by omega)
        have hit := (iter_le hv (show k ≤ M.arity v 0 by omega)).1
        have hit2 := (iter_le hv (show k + 1 ≤ M.arity v 0 by omega)).2
        obtain ⟨h1, h2⟩ := here f (part v (M.iter v k 1)) (ahead ++ [stepAt (decide ((v.getD 0 M.zero).kind = 6)) (keysAt v 0) k]) p3 (by omega)
        rw [allK, List.length_append, subs_getD v 0 k (by omega), Nat.zero_add]
        refine ⟨by omega, fun i hi1 hi2 => ?_⟩
        by_cases hlt : i < M.iter v k 1
        · obtain ⟨q, q1, q2⟩ := i2 i hi1 hlt
          exact ⟨q, by rw [List.getD_eq_getElem?_getD, List.getElem?_append_left (by omega), ← List.getD_eq_getElem?_getD]; exact q1, q2⟩
        · obtain ⟨q, q1, q2⟩ := h2 (i - M.iter v k 1) (by omega)
          refine ⟨stepAt (decide ((v.getD 0 M.zero).kind = 6)) (keysAt v 0) k :: q, ?_, ?_⟩
          · rw [List.getD_eq_getElem?_getD, List.getElem?_append_right (by omega), ← List.getD_eq_getElem?_getD]
            rw [show i - 1 - (allK (all false f) (decide ((v.getD 0 M.zero).kind = 6)) (keysAt v 0) (subs v 0) ahead k).length = i - M.iter v k 1 by omega, q1, List.append_assoc]; rfl
          · rw [Pth.getS, (step_to hv (show k < M.arity v 0 by omega)).2]
            simp only [if_true]
            rw [q2]
            congr 1
            by_cases h0 : i = M.iter v k 1
            · rw [h0, Nat.sub_self]; exact part_self p3
            · have hg := part_len hv p1
              rw [part_part hv p1 _ (by omega) (by omega), show M.iter v k 1 + (i - M.iter v k 1) = i by omega]
    obtain ⟨k1, k2⟩ := key _ (Nat.le_refl _)
    have ho : own false (v.getD 0 M.zero).n ahead = [ahead] := if_pos (.inl rfl)
    rw [all, ho, List.length_append, List.length_singleton]
    refine ⟨by omega, fun i hi => ?_⟩
    by_cases h0 : i = 0
    · subst h0
      exact ⟨[], by simp, by rw [part_self hv]; rfl⟩
    · obtain ⟨q, q1, q2⟩ := k2 i (by omega) (by omega)
      exact ⟨q, by rw [List.getD_eq_getElem?_getD, List.getElem?_append_right (by simp; omega), ← List.getD_eq_getElem?_getD]; exact q1, q2⟩
theorem n_ge {v : List M.Cl} (hv : M.valueFault v = 0) : 0 ≤ (v.getD 0 M.zero).n := by
  have hl := Pth.lens hv
  have hcd := Pth.cell_code hv (i := 0) (by omega)
  unfold M.cellCode at hcd
  split at hcd
  · cases hcd
  split at hcd
  · cases hcd
  split at hcd
  · cases hcd
  rename_i h3
  omega
/-- There is a leaf. -/
theorem leaf_some : ∀ (f : Nat) (v ahead : List M.Cl), M.valueFault v = 0 → v.length ≤ f → all true f v ahead ≠ []
  | 0, v, ahead, hv, hf => by have := (M.fault_zero hv).1; omega
  | f + 1, v, ahead, hv, hf => by
    rw [all]
    by_cases h0 : (v.getD 0 M.zero).n = 0
    · rw [show own true (v.getD 0 M.zero).n ahead = [ahead] from if_pos (.inr h0)]; simp
    · intro e
      have e2 := (List.append_eq_nil_iff.1 e).2
      have hn : 0 ≤ (v.getD 0 M.zero).n := n_ge hv
      obtain ⟨m, hm⟩ : ∃ m, M.arity v 0 = m + 1 := ⟨M.arity v 0 - 1, by unfold M.arity; omega⟩
      obtain ⟨p1, p2, p3⟩ := part_lt hv (show m < M.arity v 0 by omega)
      have hit := (iter_le hv (show m ≤ M.arity v 0 by omega)).1
      have hit2 := (iter_le hv (show m + 1 ≤ M.arity v 0 by omega)).2
      rw [hm, allK] at e2
      have e3 := (List.append_eq_nil_iff.1 e2).2
      rw [subs_getD v 0 m (by omega), Nat.zero_add] at e3
      exact leaf_some f _ _ p3 (by omega) e3
end Al
end Go.Proofs.YtlbmpldknfcfhaaDoor
