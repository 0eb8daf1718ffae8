/-
  What the getters tell, plainly, and what those are told that lay slices of slices by a literal.
  The faults of two values, one behind the other.
-/
import Derived.Test.YtlbmpldknfcfhaaDoorW21
namespace Go.Proofs.YtlbmpldknfcfhaaDoor
open Go.RowKit
set_option linter.unusedVariables false

theorem code_fields' {c : M.Cl} (h : M.cellCode c = 0) : (c.kind ≠ 3 → c.num = 0) ∧ (c.kind ≠ 4 → c.text.toList = []) ∧ (c.kind ≠ 5 → c.kind ≠ 6 → c.n = 0) := by
  unfold M.cellCode at h
  split at h
  · cases h
  split at h
  · cases h
  rename_i h1
  refine ⟨fun hk => ?_, fun hk => ?_, fun hk hk' => ?_⟩
  · by_cases e : c.num = 0
    · exact e
    · exact absurd (.inl ⟨e, hk⟩) h1
  · by_cases e : c.text.toList = []
    · exact e
    · exact absurd (.inr (.inl ⟨e, hk⟩)) h1
  · by_cases e : c.n = 0
    · exact e
    · exact absurd (.inr (.inr ⟨e, hk, hk'⟩)) h1
theorem arity_null {v : List M.Cl} (hv : M.valueFault v = 0) (h : (v.getD 0 M.zero).kind ≠ 5) (h' : (v.getD 0 M.zero).kind ≠ 6) : M.arity v 0 = 0 := by
  have hl := (M.fault_zero hv).1
  have := (code_fields' (M.first_zero (M.fault_zero hv).2.2.1 _ (getD_mem v 0 (by omega)))).2.2 h h'
  unfold M.arity
  rw [this]
  rfl
/-- An element of a row of slices. -/
theorem SS.at {w : World} {B : Nat} {v : Value} {ps : List (List M.Cl)} (h : SS w B v ps) {i : Nat} (hi : i < ps.length) : ∃ g cap s, v = .slice (some ⟨g, 0, none⟩) ps.length cap ∧ ps.length ≤ cap ∧ w.cell? ⟨g, i, none⟩ = some s ∧ Res w B s (ps.getD i []) := by
  obtain ⟨ss, hl, ho, hr⟩ := h
  obtain ⟨_, ⟨rfl, h0⟩ | ⟨g, cap, cur, rfl, hg, hh, hnc, hcm, hcs, ht⟩⟩ := ho
  · omega
  · refine ⟨g, cap, ss.getD i (.slice none 0 0), rfl, hnc, ?_, hr i hi⟩
    rw [row_at (base := 0) (cap := 0) hh ht hi, List.getElem?_eq_getElem (by omega), List.getD_eq_getElem?_getD, List.getElem?_eq_getElem (by omega)]
    rfl

end Go.Proofs.YtlbmpldknfcfhaaDoor

namespace Go.Proofs.YtlbmpldknfcfhaaDoor
open Go.RowKit
set_option linter.unusedVariables false

end Go.Proofs.YtlbmpldknfcfhaaDoor
