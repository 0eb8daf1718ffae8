/-
  The code of a node, way by way (plain).
-/
import Derived.Test.YtkjmnkbiflkpdaaTreM
namespace Go.Proofs.Ytkjmnkbiflkpdaa
open Go.RowKit
set_option linter.unusedVariables false

namespace Tr
theorem node_6 {l : List Nd} {i : Nat} {n : Nd} (hn : n = l.getD i Nd.zero) (h : n.op < 1 ∨ 24 < n.op) : nodeF l i = 6 := by
  subst hn; unfold nodeF; rw [if_pos h]
theorem node_1 {l : List Nd} {i : Nat} {n : Nd} (hn : n = l.getD i Nd.zero) (h : ¬ (n.op < 1 ∨ 24 < n.op)) (h1 : formOk n = false ∨ linksOk (kids n.op) n.a n.b n.c i = false) : nodeF l i = 1 := by
  subst hn; unfold nodeF; rw [if_neg h, if_pos]
  rcases h1 with h1 | h1
  · rw [h1]; rfl
  · rw [h1, Bool.and_false]
theorem node_5 {l : List Nd} {i : Nat} {n : Nd} (hn : n = l.getD i Nd.zero) (h : ¬ (n.op < 1 ∨ 24 < n.op)) (h1 : formOk n = true) (h2 : linksOk (kids n.op) n.a n.b n.c i = true) (h3 : fits n.op n.text = false) : nodeF l i = 5 := by
  subst hn; unfold nodeF; rw [if_neg h, if_neg (by rw [h1, h2]; decide), if_pos h3]
theorem node_3 {l : List Nd} {i : Nat} {n : Nd} (hn : n = l.getD i Nd.zero) (h : ¬ (n.op < 1 ∨ 24 < n.op)) (h1 : formOk n = true) (h2 : linksOk (kids n.op) n.a n.b n.c i = true) (h3 : fits n.op n.text = true) (h4 : n.num < low n.op ∨ high n.op < n.num) : nodeF l i = 3 := by
  subst hn; unfold nodeF; rw [if_neg h, if_neg (by rw [h1, h2]; decide), if_neg (by rw [h3]; decide), if_pos h4]
theorem node_1b {l : List Nd} {i : Nat} {n : Nd} (hn : n = l.getD i Nd.zero) (h : ¬ (n.op < 1 ∨ 24 < n.op)) (h1 : formOk n = true) (h2 : linksOk (kids n.op) n.a n.b n.c i = true) (h3 : fits n.op n.text = true) (h4 : ¬ (n.num < low n.op ∨ high n.op < n.num)) (h5 : n.op = 17) (h6 : (l.getD n.a.toNat Nd.zero).op ≠ 16) (h7 : (l.getD n.a.toNat Nd.zero).op ≠ 17) : nodeF l i = 1 := by
  subst hn; unfold nodeF; rw [if_neg h, if_neg (by rw [h1, h2]; decide), if_neg (by rw [h3]; decide), if_neg h4, if_pos ⟨h5, h6, h7⟩]
theorem node_0 {l : List Nd} {i : Nat} {n : Nd} (hn : n = l.getD i Nd.zero) (h : ¬ (n.op < 1 ∨ 24 < n.op)) (h1 : formOk n = true) (h2 : linksOk (kids n.op) n.a n.b n.c i = true) (h3 : fits n.op n.text = true) (h4 : ¬ (n.num < low n.op ∨ high n.op < n.num)) (h5 : n.op ≠ 17 ∨ (l.getD n.a.toNat Nd.zero).op = 16 ∨ (l.getD n.a.toNat Nd.zero).op = 17) : nodeF l i = 0 := by
  subst hn; unfold nodeF; rw [if_neg h, if_neg (by rw [h1, h2]; decide), if_neg (by rw [h3]; decide), if_neg h4, if_neg]
  rintro ⟨a, b, c⟩
  rcases h5 with h5 | h5 | h5
  · exact h5 a
  · exact b h5
  · exact c h5
theorem form_num {n : Nd} (h : high n.op = 0) (h1 : n.num ≠ 0) : formOk n = false := by
  unfold formOk; rw [h]; simp [h1]
theorem form_text {n : Nd} (h : texts n.op = false) (h1 : n.text.toList.isEmpty = false) : formOk n = false := by
  unfold formOk; rw [h, h1, Bool.or_false, Bool.and_false]
theorem form_ok {n : Nd} (h : high n.op ≠ 0 ∨ n.num = 0) (h1 : texts n.op = true ∨ n.text.toList.isEmpty = true) : formOk n = true := by
  unfold formOk
  rw [Bool.and_eq_true, Bool.or_eq_true, Bool.or_eq_true]
  refine ⟨?_, h1⟩
  rcases h with h | h
  · left; simpa using h
  · right; simpa using h
theorem kids_17 : kids 17 = 2 := by decide
theorem first_fine {ks : Nat} {a b c : Int} {i : Nat} (h : linksOk ks a b c i = true) (hk : 0 < ks) : 0 ≤ a ∧ a < i := by
  unfold linksOk at h
  simp only [Bool.and_eq_true] at h
  exact one_named h.1 (decide_eq_true hk)
end Tr

end Go.Proofs.Ytkjmnkbiflkpdaa
