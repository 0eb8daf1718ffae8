/-
  The model's small questions of a node: l1In, l5Kids, l5Texts, l5Nums, l5Kid, l5TextFits.
-/
import Derived.Test.YtkjmnkbiflkpdaaTreN
import Derived.Test.YtkjmnkbiflkpdaaText
namespace Go.Proofs.Ytkjmnkbiflkpdaa
open Go.RowKit
set_option linter.unusedVariables false
set_option linter.unusedSimpArgs false

theorem l1In_tr (a lo hi : Int) (w : World) : Calls Try.prog 41 #[.int .i64 a, .int .i64 lo, .int .i64 hi] w fun e w' => e = .returned (.bool (decide (lo ≤ a) && decide (a ≤ hi))) ∧ w' = w := by
  by_cases h1 : lo ≤ a
  · by_cases h2 : a ≤ hi
    · go_enter Try.func41, Try.ntmps41
      go_wp2
      go_ret
      exact ⟨ret_bool (by first | simp [h1, h2] | (simp; omega)), rfl⟩
    · go_enter Try.func41, Try.ntmps41
      go_wp2
      go_ret
      exact ⟨ret_bool (by first | simp [h1, h2] | (simp; omega)), rfl⟩
  · go_enter Try.func41, Try.ntmps41
    go_wp2
    go_ret
    exact ⟨ret_bool (by simp; omega), rfl⟩

namespace Tr
def kidAt (n : Nd) (k : Nat) : Int := if k = 0 then n.a else if k = 1 then n.b else n.c
theorem links_all {n : Nd} {ks i : Nat} (h : ∀ j, j < 3 → one (decide (j < ks)) (kidAt n j) i = true) : linksOk ks n.a n.b n.c i = true := by
  unfold linksOk
  have h0 := h 0 (by omega)
  have h1 := h 1 (by omega)
  have h2 := h 2 (by omega)
  simp only [kidAt] at h0 h1 h2
  simp only [Bool.and_eq_true]
  exact ⟨h0, h1, h2⟩
theorem links_bad {n : Nd} {ks i j : Nat} (hj : j < 3) (h : one (decide (j < ks)) (kidAt n j) i = false) : linksOk ks n.a n.b n.c i = false := by
  unfold linksOk
  have hh : j = 0 ∨ j = 1 ∨ j = 2 := by omega
  rcases hh with rfl | rfl | rfl
  · have h0 : one (decide (0 < ks)) n.a i = false := h
    rw [h0, Bool.false_and]
  · have h0 : one (decide (1 < ks)) n.b i = false := h
    rw [h0, Bool.false_and, Bool.and_false]
  · have h0 : one (decide (2 < ks)) n.c i = false := h
    rw [h0, Bool.and_false, Bool.and_false]
/-- The places that a node names are those of its first kids. -/
theorem links_kidAt (n : Nd) : links n = (List.range (kids n.op)).map (kidAt n) := by
  have hk := kids_le n.op
  unfold links
  match e : kids n.op, hk with
  | 0, _ => rfl
  | 1, _ => rfl
  | 2, _ => rfl
  | 3, _ => rfl
end Tr

end Go.Proofs.Ytkjmnkbiflkpdaa
