/-
  An array is its parts; what DeepOf tells, as the law holds it.
-/
import Derived.Test.YthbiclpifeobkaaQ24
import Derived.Test.YthbiclpifeobkaaQ44
import Derived.Test.YthbiclpifeobkaaQ47
import Derived.Test.YthbiclpifeobkaaQ48
namespace Go.Proofs.Ythbiclpifeobkaa
open Go.RowKit
set_option linter.unusedVariables false

theorem arrV_eq (ps : List (List M.Cl)) : arrV ps = headCl 5 ps.length :: ps.flatten := by unfold arrV arrK; rw [List.take_length]
section
variable {ps : List (List M.Cl)} (hv : ∀ j, j < ps.length → M.valueFault (ps.getD j []) = 0)
include hv
theorem arr_end {j : Nat} (hj : j < ps.length) : M.endOf (arrV ps) (tot ps j + 1) = tot ps (j + 1) + 1 := by
  obtain ⟨h1, h2, _, _, d, hw, _⟩ := M.fault_zero (hv j hj)
  have hL := made_length (headCl 5 ps.length) ps
  have hts := tot_succ ps j hj
  have hm := tot_le ps ps.length (j + 1) (by omega) (Nat.le_refl _)
  rw [arrV_eq]
  have hat : ∀ i, i < (ps.getD j []).length → (headCl 5 ps.length :: ps.flatten).getD (tot ps j + 1 + i) M.zero = (ps.getD j []).getD i M.zero := fun i hi => made_at _ ps j i hj hi
  have hs : M.Sub (ps.getD j []) (headCl 5 ps.length :: ps.flatten) (tot ps j + 1) (tot ps (j + 1) + 1) := ⟨by omega, by omega, by omega, fun i hi => by rw [hat i hi], fun i hi => by rw [hat i hi], fun i h0 hi => by rw [hat i hi]⟩
  have := M.walk_sup hs _ 0 _ _ (by omega) hw
  rw [Nat.add_zero, show tot ps j + 1 + (ps.getD j []).length = tot ps (j + 1) + 1 by omega] at this
  exact M.endOf_of (by omega) this
theorem arr_iter (j : Nat) (hj : j ≤ ps.length) : M.iter (arrV ps) j 1 = tot ps j + 1 := by
  induction j with
  | zero => rw [tot_zero]; rfl
  | succ j ih => rw [M.iter_next, ih (by omega), arr_end hv (by omega)]
theorem arr_part {j : Nat} (hj : j < ps.length) : part (arrV ps) (tot ps j + 1) = ps.getD j [] := by
  have e : cut (arrV ps) (tot ps j + 1) (M.endOf (arrV ps) (tot ps j + 1)) = ps.getD j [] := by
    rw [arr_end hv hj, tot_succ ps j hj, arrV_eq]
    obtain ⟨rest, hr⟩ := flatten_at ps j hj
    unfold cut
    rw [hr, List.drop_succ_cons, List.append_assoc, List.drop_append_of_le_length (by rw [tot_flatten]; omega), List.drop_of_length_le (by rw [tot_flatten]; omega), List.nil_append]
    rw [show tot ps j + (ps.getD j []).length + 1 - (tot ps j + 1) = (ps.getD j []).length by omega]
    exact List.take_left
  unfold part
  rw [e]
  exact setKey_none (hv j hj)
theorem arr_subs : subs (arrV ps) 0 = ps := by
  have ha : M.arity (arrV ps) 0 = ps.length := by rw [arrV_eq]; simp [M.arity, headCl]
  unfold subs M.places
  rw [ha, List.map_map]
  refine List.ext_getElem (by simp) fun i h1 h2 => ?_
  simp only [List.getElem_map, List.getElem_range, Function.comp]
  rw [arr_iter hv i (by omega), arr_part hv h2]
  simp [List.getD_eq_getElem?_getD, h2]
theorem arr_each (hf : M.valueFault (arrV ps) = 0) : eachOut (arrV ps) = (0, ps) := by
  unfold eachOut
  rw [if_neg (by simp [hf]), if_pos (.inl (by rw [arrV_eq]; rfl)), arr_subs hv]
end
theorem deep_told {v : List M.Cl} (hok : ∀ c ∈ v, c.ok) (h : (deepOut v).1 = 0) : M.valueFault v = 0 ∧ deepOut v = (0, arrV (deepL v)) ∧ M.valueFault (arrV (deepL v)) = 0 ∧ eachOut (arrV (deepL v)) = (0, deepL v) ∧ (deepL v).length = v.length ∧ (∀ j, j < v.length → (deepL v).getD j [] = part v j ∧ M.valueFault (part v j) = 0 ∧ partOut v j = (0, part v j) ∧ (part v j).length ≤ 200 ∧ ∀ c ∈ part v j, c.ok) ∧ part v 0 = v := by
  have hv : M.valueFault v = 0 := by
    by_cases hv : M.valueFault v = 0
    · exact hv
    · rw [dpo_bad hv] at h; exact h
  have hall := deep_all hv hok
  rw [dpo_ok hv] at h ⊢
  unfold deepIn at h ⊢
  by_cases hf : M.valueFault (arrV (deepL v)) = 0
  · refine ⟨hv, told_ok hf, hf, arr_each hall.2.1 hf, deepK_length _ _, fun j hj => ⟨deepK_getD v hj, part_valid hv hj, ?_, (M.fault_zero (part_valid hv hj)).2.1, part_okc hv hok hj⟩, part_self hv⟩
    rw [part_ok (asked_in hv (by omega) (by omega))]
    simp
  · rw [told_bad hf] at h
    exact absurd h hf

end Go.Proofs.Ythbiclpifeobkaa
