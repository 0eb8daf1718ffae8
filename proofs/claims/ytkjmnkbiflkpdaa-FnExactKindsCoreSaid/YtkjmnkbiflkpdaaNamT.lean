/-
  Names: spec.IsName and impl.IsName.
-/
import Derived.Test.YtkjmnkbiflkpdaaNamM
import Derived.Test.YtkjmnkbiflkpdaaMem
namespace Go.Proofs.Ytkjmnkbiflkpdaa
open Go.RowKit
set_option linter.unusedVariables false
set_option linter.unusedSimpArgs false

theorem letC_low {c : Int} (h : c < 97) (h2 : c ≠ 95) : J.letC c = false := by unfold J.letC; rw [Bool.or_eq_false_iff, Bool.and_eq_false_iff]; exact ⟨.inl (decide_eq_false (by omega)), by simpa using h2⟩
theorem letC_high {c : Int} (h : 122 < c) : J.letC c = false := by unfold J.letC; rw [Bool.or_eq_false_iff, Bool.and_eq_false_iff]; exact ⟨.inr (decide_eq_false (by omega)), by simp; omega⟩
theorem letC_in {c : Int} (h : 97 ≤ c) (h2 : c ≤ 122) : J.letC c = true := by unfold J.letC; rw [decide_eq_true h, decide_eq_true h2]; rfl
theorem letC_line : J.letC 95 = true := rfl
theorem digC_in {c : Int} (h : 48 ≤ c) (h2 : c ≤ 57) : J.digC c = true := by unfold J.digC; rw [decide_eq_true h, decide_eq_true h2]; rfl
theorem digC_low {c : Int} (h : c < 48) : J.digC c = false := by unfold J.digC; rw [Bool.and_eq_false_iff]; exact .inl (decide_eq_false (by omega))
theorem digC_high {c : Int} (h : 57 < c) : J.digC c = false := by unfold J.digC; rw [Bool.and_eq_false_iff]; exact .inr (decide_eq_false (by omega))
theorem okC_let {k : Nat} {c : Int} (h : J.letC c = true) : J.okC k c = true := by unfold J.okC; rw [h]; rfl
theorem okC_zero {c : Int} (h : J.letC c = false) : J.okC 0 c = false := by unfold J.okC; rw [h]; rfl
theorem okC_rest {k : Nat} {c : Int} (h : J.letC c = false) (hk : k ≠ 0) : J.okC k c = J.digC c := by unfold J.okC; rw [h]; simp [hk]

end Go.Proofs.Ytkjmnkbiflkpdaa
