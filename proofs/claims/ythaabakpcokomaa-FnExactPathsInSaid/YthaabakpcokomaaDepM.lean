/-
  Plainly: a value and all values in it, each ahead of those in it.
-/
import Derived.Test.YthaabakpcokomaaAns
import Derived.Test.YthaabakpcokomaaBld
namespace Go.Proofs.Ythaabakpcokomaa
open Go.RowKit
set_option linter.unusedVariables false

theorem end_whole {v : List M.Cl} (hv : M.valueFault v = 0) : M.endOf v 0 = v.length := by
  obtain ⟨_, _, _, _, d, hw, _⟩ := M.fault_zero hv
  exact M.endOf_of (Nat.le_refl _) hw
theorem part_self {v : List M.Cl} (hv : M.valueFault v = 0) : part v 0 = v := by
  unfold part
  rw [end_whole hv, show cut v 0 v.length = v by unfold cut; simp]
  exact setKey_none hv
/-- The values at the first n places. -/
def deepK (v : List M.Cl) (n : Nat) : List (List M.Cl) := (List.range n).map (part v)
def deepL (v : List M.Cl) : List (List M.Cl) := deepK v v.length
theorem deepK_length (v : List M.Cl) (n : Nat) : (deepK v n).length = n := by simp [deepK]
theorem deepK_getD (v : List M.Cl) {n j : Nat} (hj : j < n) : (deepK v n).getD j [] = part v j := by simp [deepK, List.getD_eq_getElem?_getD, hj]
theorem deepK_succ (v : List M.Cl) (k : Nat) : deepK v k ++ [part v k] = deepK v (k + 1) := by simp [deepK, List.range_succ]
theorem deep_step {v : List M.Cl} (hv : M.valueFault v = 0) {k : Nat} (hk : k < M.arity v 0) : deepK v (M.iter v k 1) ++ deepL (part v (M.iter v k 1)) = deepK v (M.iter v (k + 1) 1) := by
  have hl1 := (M.fault_zero hv).1
  have hin := M.places_in hv 0 (by omega)
  have h1 := hin.1 k hk
  have h2 := hin.2.2.1
  simp only [Nat.zero_add] at h1
  have hp : M.iter v k 1 < v.length := by omega
  have hE := end_gt hv hp
  have hl := part_len hv hp
  have hpv := part_valid hv hp
  rw [M.iter_next]
  have hpp := fun q (h0 : 0 < q) (h9 : q < M.endOf v (M.iter v k 1) - M.iter v k 1) => part_part hv hp q h0 h9
  clear h1 h2 hin
  generalize M.iter v k 1 = p at *
  obtain ⟨m, hm⟩ : ∃ m, M.endOf v p = p + m := ⟨M.endOf v p - p, by omega⟩
  have hlm : (part v p).length = m := by omega
  unfold deepL deepK
  rw [hlm, hm, List.range_add, List.map_append, List.map_map]
  refine congrArg _ (List.map_congr_left fun q hq => ?_)
  have hq' := List.mem_range.1 hq
  show part (part v p) q = part v (p + q)
  by_cases e : q = 0
  · subst e; rw [part_self hpv]; rfl
  · exact hpp q (by omega) (by omega)
theorem deep_zero {v : List M.Cl} (hv : M.valueFault v = 0) : deepK v (M.iter v 0 1) = [v] := by
  show deepK v 1 = [v]
  simp [deepK, part_self hv]
theorem deep_end {v : List M.Cl} (hv : M.valueFault v = 0) : deepK v (M.iter v (M.arity v 0) 1) = deepL v := by
  have hl1 := (M.fault_zero hv).1
  have := (M.places_in hv 0 (by omega)).2.1
  simp only [Nat.zero_add] at this
  rw [this, end_whole hv]
  rfl
theorem part_okc {v : List M.Cl} (hv : M.valueFault v = 0) (hok : ∀ c ∈ v, c.ok) {a : Nat} (ha : a < v.length) : ∀ c ∈ part v a, c.ok := by
  intro c hc
  obtain ⟨i, hi, rfl⟩ := List.getElem_of_mem hc
  have hl := part_len hv ha
  have hE := end_gt hv ha
  have hg : (part v a)[i] = (part v a).getD i M.zero := by rw [List.getD_eq_getElem?_getD, List.getElem?_eq_getElem hi]; rfl
  rw [hg]
  by_cases e : i = 0
  · subst e
    rw [part_zero hv ha]
    have := hok _ (getD_mem v a ha)
    unfold M.Cl.ok at this ⊢
    simp only at this ⊢
    refine ⟨this.1, this.2.1, this.2.2.1, this.2.2.2.1, ?_⟩
    decide
  · rw [part_getD i (by omega) (by omega)]
    exact hok _ (getD_mem v _ (by omega))
theorem deep_all {v : List M.Cl} (hv : M.valueFault v = 0) (hok : ∀ c ∈ v, c.ok) : (deepL v).length ≤ 200 ∧ (∀ j, j < (deepL v).length → M.valueFault ((deepL v).getD j []) = 0) ∧ OkS (deepL v) := by
  have hl2 := (M.fault_zero hv).2.1
  have hl : (deepL v).length = v.length := deepK_length _ _
  refine ⟨by omega, fun j hj => ?_, fun j hj => ?_⟩
  · rw [hl] at hj
    rw [show (deepL v).getD j [] = part v j from deepK_getD v hj]; exact part_valid hv hj
  · rw [hl] at hj
    rw [show (deepL v).getD j [] = part v j from deepK_getD v hj]; exact part_okc hv hok hj
def deepIn (v : List M.Cl) : Int × List M.Cl := told (arrV (deepL v))
def deepOut (v : List M.Cl) : Int × List M.Cl := if M.valueFault v ≠ 0 then (M.valueFault v, []) else deepIn v
theorem dpo_bad {v : List M.Cl} (h : M.valueFault v ≠ 0) : deepOut v = (M.valueFault v, []) := if_pos h
theorem dpo_ok {v : List M.Cl} (h : M.valueFault v = 0) : deepOut v = deepIn v := by unfold deepOut; rw [if_neg (by simp [h])]
/-- What is asked of the whole array ahead of its fault. -/
theorem deep_made {v : List M.Cl} (hv : M.valueFault v = 0) (hok : ∀ c ∈ v, c.ok) : arrV (deepL v) ≠ [] ∧ (arrV (deepL v)).length ≤ 1048576 ∧ ∀ c ∈ arrV (deepL v), c.ok := by
  have h := deep_all hv hok
  exact ⟨arrV_ne _, arrV_le (by omega) h.2.1, arrK_ok _ (by omega) h.2.2 _ (Nat.le_refl _)⟩

end Go.Proofs.Ythaabakpcokomaa
