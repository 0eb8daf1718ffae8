/-
  spec.l5Deep: how deep the deepest node is.
-/
import Derived.Test.YtkjmnkbiflkpdaaTreQ
import Derived.Deep.RegionHeld3
namespace Go.Proofs.Ytkjmnkbiflkpdaa
open Go.RowKit
set_option linter.unusedVariables false

theorem l1Max_tr (a b : Int) (w : World) : Calls Try.prog 36 #[.int .i64 a, .int .i64 b] w fun e w' => e = .returned (.int .i64 (max a b)) ∧ w' = w := by
  by_cases h : a > b
  · have e : max a b = a := by omega
    rw [e]
    go_enter Try.func36, Try.ntmps36
    go_wp2
    go_ret
    exact ⟨rfl, rfl⟩
  · have e : max a b = b := by omega
    rw [e]
    go_enter Try.func36, Try.ntmps36
    go_wp2
    go_ret
    exact ⟨rfl, rfl⟩
namespace Tr
/-- The depths of the first k, and what is in the next place so far; the rest is 0. -/
def DepsK (l : List Nd) (xs : List Value) (k : Nat) (q : Int) : Prop := xs.length = l.length ∧ (∀ j, j < k → xs[j]? = some (.int .i64 (dep l j))) ∧ (k < l.length → xs[k]? = some (.int .i64 q)) ∧ ∀ j, k < j → j < l.length → xs[j]? = some (.int .i64 0)
theorem DepsK.put {l : List Nd} {xs : List Value} {k : Nat} {q : Int} (h : DepsK l xs k q) (hk : k < l.length) (q' : Int) : DepsK l (xs.set k (.int .i64 q')) k q' := by
  obtain ⟨h1, h2, h3, h4⟩ := h
  refine ⟨by rw [List.length_set]; exact h1, fun j hj => ?_, fun _ => ?_, fun j hj hl => ?_⟩
  · rw [List.getElem?_set_ne (by omega)]; exact h2 j hj
  · rw [List.getElem?_set_self (by omega)]
  · rw [List.getElem?_set_ne (by omega)]; exact h4 j hj hl
theorem DepsK.next {l : List Nd} {xs : List Value} {k : Nat} {q : Int} (h : DepsK l xs k q) (hk : k < l.length) (hq : q = dep l k) : DepsK l xs (k + 1) 0 := by
  obtain ⟨h1, h2, h3, h4⟩ := h
  refine ⟨h1, fun j hj => ?_, fun h => h4 _ (by omega) h, fun j hj hl => h4 j (by omega) hl⟩
  by_cases e : j = k
  · subst e; rw [h3 hk, hq]
  · exact h2 j (by omega)
theorem DepsK.zero (l : List Nd) : DepsK l (madeCells #[.int .i64 0] l.length).toList 0 0 := by
  have key : ∀ j, j < l.length → (madeCells #[.int .i64 0] l.length).toList[j]? = some (.int .i64 0) := by
    intro j hj
    rw [toList_madeCells_one, List.getElem?_replicate, if_pos hj]
  exact ⟨made_length _, fun j hj => absurd hj (by omega), fun h => key 0 h, fun j _ hl => key j hl⟩
end Tr

end Go.Proofs.Ytkjmnkbiflkpdaa
