/-
  An array is its parts; what DeepOf tells, as the law holds it.
  What is sorted is in order, has all that it had, and is not changed by sorting it again: plainly.
-/
import Derived.Test.YtmeofjefhkdbgaaQ23
import Derived.Test.YtmeofjefhkdbgaaQ24
import Derived.Test.YtmeofjefhkdbgaaQ25
import Derived.Test.YtmeofjefhkdbgaaQ40
import Derived.Test.YtmeofjefhkdbgaaQ41
import Derived.Test.YtmeofjefhkdbgaaQ43
namespace Go.Proofs.Ytmeofjefhkdbgaa
open Go.RowKit
set_option linter.unusedVariables false

theorem arrV_eq (ps : List (List M.Cl)) : arrV ps = headCl 5 ps.length :: ps.flatten := by unfold arrV arrK; rw [List.take_length]
section
variable {ps : List (List M.Cl)} (hv : ∀ j, j < ps.length → M.valueFault (ps.getD j []) = 0)
include hv
theorem arr_end {j : Nat} (hj : j < ps.length) : M.endOf (arrV ps) (tot ps j + 1) = tot ps (j + 1) + 1 := by
  obtain ⟨h1, h2, _, _, d, hw, _⟩ := M.fault_zero (hv j hj)
  have hL := made_length (headCl 5 ps.length) ps
  have hts := tot_succ ps j hj
  have hm := tot_le ps ps.length (j + 1) (by omega) (Nat.le_refl _)
  rw [arrV_eq]
  have hat : ∀ i, i < (ps.getD j []).length → (headCl 5 ps.length :: ps.flatten).getD (tot ps j + 1 + i) M.zero = (ps.getD j []).getD i M.zero := fun i hi => made_at _ ps j i hj hi
  have hs : M.Sub (ps.getD j []) (headCl 5 ps.length :: ps.flatten) (tot ps j + 1) (tot ps (j + 1) + 1) := ⟨by omega, by omega, by omega, fun i hi => by rw [hat i hi], fun i hi => by rw [hat i hi], fun i h0 hi => by rw [hat i hi]⟩
  have := M.walk_sup hs _ 0 _ _ (by omega) hw
  rw [Nat.add_zero, show tot ps j + 1 + (ps.getD j []).length = tot ps (j + 1) + 1 by omega] at this
  exact M.endOf_of (by omega) this
theorem arr_iter (j : Nat) (hj : j ≤ ps.length) : M.iter (arrV ps) j 1 = tot ps j + 1 := by
  induction j with
  | zero => rw [tot_zero]; rfl
  | succ j ih => rw [M.iter_next, ih (by omega), arr_end hv (by omega)]
theorem arr_part {j : Nat} (hj : j < ps.length) : part (arrV ps) (tot ps j + 1) = ps.getD j [] := by
  have e : cut (arrV ps) (tot ps j + 1) (M.endOf (arrV ps) (tot ps j + 1)) = ps.getD j [] := by
    rw [arr_end hv hj, tot_succ ps j hj, arrV_eq]
    obtain ⟨rest, hr⟩ := flatten_at ps j hj
    unfold cut
    rw [hr, List.drop_succ_cons, List.append_assoc, List.drop_append_of_le_length (by rw [tot_flatten]; omega), List.drop_of_length_le (by rw [tot_flatten]; omega), List.nil_append]
    rw [show tot ps j + (ps.getD j []).length + 1 - (tot ps j + 1) = (ps.getD j []).length by omega]
    exact List.take_left
  unfold part
  rw [e]
  exact setKey_none (hv j hj)
theorem arr_subs : subs (arrV ps) 0 = ps := by
  have ha : M.arity (arrV ps) 0 = ps.length := by rw [arrV_eq]; simp [M.arity, headCl]
  unfold subs M.places
  rw [ha, List.map_map]
  refine List.ext_getElem (by simp) fun i h1 h2 => ?_
  simp only [List.getElem_map, List.getElem_range, Function.comp]
  rw [arr_iter hv i (by omega), arr_part hv h2]
  simp [List.getD_eq_getElem?_getD, h2]
theorem arr_each (hf : M.valueFault (arrV ps) = 0) : eachOut (arrV ps) = (0, ps) := by
  unfold eachOut
  rw [if_neg (by simp [hf]), if_pos (.inl (by rw [arrV_eq]; rfl)), arr_subs hv]
end
end Go.Proofs.Ytmeofjefhkdbgaa

namespace Go.Proofs.Ytmeofjefhkdbgaa
open Go.RowKit
set_option linter.unusedVariables false
set_option linter.unusedSimpArgs false

namespace So
/-- How many of the first k lists are told yes. -/
def cnt (f : List M.Cl → Bool) (L : List (List M.Cl)) (k : Nat) : Nat := (L.take k).countP f
theorem cnt_zero (f : List M.Cl → Bool) (L : List (List M.Cl)) : cnt f L 0 = 0 := by simp [cnt]
theorem take_snoc {L : List (List M.Cl)} {k : Nat} (hk : k < L.length) : L.take (k + 1) = L.take k ++ [L.getD k []] := by
  rw [List.take_add_one, List.getD_eq_getElem?_getD, List.getElem?_eq_getElem hk]
  rfl
theorem cnt_yes {f : List M.Cl → Bool} {L : List (List M.Cl)} {k : Nat} (hk : k < L.length) (h : f (L.getD k []) = true) : cnt f L (k + 1) = cnt f L k + 1 := by
  unfold cnt; rw [take_snoc hk, List.countP_append, List.countP_cons, h]; simp
theorem cnt_no {f : List M.Cl → Bool} {L : List (List M.Cl)} {k : Nat} (hk : k < L.length) (h : f (L.getD k []) = false) : cnt f L (k + 1) = cnt f L k := by
  unfold cnt; rw [take_snoc hk, List.countP_append, List.countP_cons, h]; simp
theorem cnt_le (f : List M.Cl → Bool) (L : List (List M.Cl)) (k : Nat) : cnt f L k ≤ k := by
  unfold cnt
  have h1 := List.countP_le_length (p := f) (l := L.take k)
  rw [List.length_take] at h1
  omega
theorem cnt_sorted (f : List M.Cl → Bool) (ps : List (List M.Cl)) : cnt f (sortedP ps) (sortedP ps).length = cnt f ps ps.length := by
  have key : ∀ k, k ≤ ps.length → ((St.sortI ps k).map fun x => ps.getD x []).countP f = (ps.take k).countP f := by
    intro k
    induction k with
    | zero => intro _; simp [St.sortI]
    | succ k ih =>
      intro hk
      have e : ((St.sortI ps k).map fun x => ps.getD x []).countP f = (((St.sortI ps k).take (St.placeIn ps (St.sortI ps k) k)).map fun x => ps.getD x []).countP f + (((St.sortI ps k).drop (St.placeIn ps (St.sortI ps k) k)).map fun x => ps.getD x []).countP f := by
        rw [← List.countP_append, ← List.map_append, List.take_append_drop]
      have i2 := ih (by omega)
      rw [St.sortI, take_snoc (by omega)]
      simp only [List.map_append, List.countP_append, List.map_cons, List.map_nil]
      omega
  unfold cnt
  rw [List.take_length]
  exact key ps.length (Nat.le_refl _)
theorem cmp_is {ps : List (List M.Cl)} {x y : Nat} (hx : M.valueFault (ps.getD x []) = 0) (hy : M.valueFault (ps.getD y []) = 0) : cmpOut (ps.getD x []) (ps.getD y []) = St.cmpV ps x y := by
  unfold St.cmpV
  rw [St.vOf_eq hx, St.vOf_eq hy]
  exact Od.out_eq hx hy (Nat.le_refl _)
theorem cmpV_ext {ps qs : List (List M.Cl)} {x y i j : Nat} (h1 : qs.getD x [] = ps.getD i []) (h2 : qs.getD y [] = ps.getD j []) : St.cmpV qs x y = St.cmpV ps i j := by
  unfold St.cmpV St.vOf
  rw [h1, h2]
section
variable {ps : List (List M.Cl)} (hv : ∀ j, j < ps.length → M.valueFault (ps.getD j []) = 0)
theorem le_sorted {x y : Nat} (hxy : x < y) (hy : y < (sortedP ps).length) : St.cmpV (sortedP ps) x y ≤ 0 := by
  obtain ⟨i, hi, e1, e2⟩ := sortedP_at (show x < (sortedP ps).length by omega)
  obtain ⟨j, hj, e3, e4⟩ := sortedP_at hy
  rw [cmpV_ext e1 e3]
  have hl := (St.good_sortI ps ps.length).len
  rw [sortedP_length] at hy
  have hp := List.pairwise_iff_getElem.1 (St.good_sortI ps ps.length).pw x y (by omega) (by omega) hxy
  have g1 : (St.sortI ps ps.length)[x]'(by omega) = i := by rw [← e2, List.getD_eq_getElem?_getD, List.getElem?_eq_getElem (by omega)]; rfl
  have g2 : (St.sortI ps ps.length)[y]'(by omega) = j := by rw [← e4, List.getD_eq_getElem?_getD, List.getElem?_eq_getElem (by omega)]; rfl
  rw [g1, g2] at hp
  exact St.pltV_le hp
theorem sorted_again : sortedP (sortedP ps) = sortedP ps := by
  have e : St.sortI (sortedP ps) (sortedP ps).length = List.range (sortedP ps).length := by
    refine St.Good.unique (ps := sortedP ps) (k := (sortedP ps).length) (St.good_sortI _ _) ⟨?_, fun x => List.mem_range, by simp⟩
    refine List.pairwise_iff_getElem.2 fun i j hi hj hij => ?_
    simp only [List.length_range] at hi hj
    simp only [List.getElem_range]
    have h := le_sorted (ps := ps) hij hj
    by_cases z : St.cmpV (sortedP ps) i j = 0
    · exact .inr ⟨z, hij⟩
    · exact .inl (by omega)
  show (St.sortI (sortedP ps) (sortedP ps).length).map (fun x => (sortedP ps).getD x []) = sortedP ps
  rw [e]
  refine List.ext_getElem (by simp) fun i h1 h2 => ?_
  simp [List.getD_eq_getElem?_getD, h2]
end
/-- What the law knows of a part. -/
structure Pt (p : List M.Cl) : Prop where
  val : M.valueFault p = 0
  len : p.length ≤ 200
  ok : ∀ c ∈ p, c.ok
theorem told {l : List M.Cl} (hok : ∀ c ∈ l, c.ok) (h : (sortOut l).1 = 0) : M.valueFault l = 0 ∧ sortOut l = (0, arrV (sortedP (subs l 0))) ∧ M.valueFault (arrV (sortedP (subs l 0))) = 0 ∧ eachOut (arrV (sortedP (subs l 0))) = (0, sortedP (subs l 0)) ∧ eachOut l = (0, subs l 0) ∧
    sortOut (arrV (sortedP (subs l 0))) = (0, arrV (sortedP (subs l 0))) ∧ (subs l 0).length ≤ 200 ∧ (∀ j, j < (subs l 0).length → Pt ((subs l 0).getD j [])) ∧ (∀ j, j < (subs l 0).length → Pt ((sortedP (subs l 0)).getD j [])) ∧
    (∀ j, j + 1 < (subs l 0).length → cmpOut ((sortedP (subs l 0)).getD j []) ((sortedP (subs l 0)).getD (j + 1) []) ≤ 0) ∧ sameOut (arrV (sortedP (subs l 0))) (arrV (sortedP (subs l 0))) = true := by
  have hv : M.valueFault l = 0 := by
    by_cases hv : M.valueFault l = 0
    · exact hv
    · rw [sort_bad hv] at h; exact h
  have k5 : (l.getD 0 M.zero).kind = 5 := by
    by_cases k : (l.getD 0 M.zero).kind = 5
    · exact k
    · rw [sort_ok hv, sort_no k] at h; exact absurd h (by show ¬ (6 : Int) = 0; decide)
  have hall := subs_all hv hok
  have hf := sorted_facts hv hok
  have hR := sorted_valid hv hok
  have hlen := sortedP_length (subs l 0)
  have hsl : ∀ p ∈ subs l 0, p.length ≤ 200 := fun p hp => by have := (subs_val hv p hp).2; have := (M.fault_zero hv).2.1; omega
  have hmem : ∀ {L : List (List M.Cl)} {j : Nat}, j < L.length → L.getD j [] ∈ L := fun hj => by rw [List.getD_eq_getElem?_getD, List.getElem?_eq_getElem hj]; exact List.getElem_mem hj
  have ps := fun j (hj : j < (subs l 0).length) => (⟨hall.2.1 j hj, hsl _ (hmem hj), hall.2.2.1 j hj⟩ : Pt ((subs l 0).getD j []))
  have ss := fun j (hj : j < (subs l 0).length) => (show Pt ((sortedP (subs l 0)).getD j []) from by
    obtain ⟨i, hi, e, _⟩ := sortedP_at (show j < (sortedP (subs l 0)).length by omega)
    rw [e]; exact ps i hi)
  have hsub : subs (arrV (sortedP (subs l 0))) 0 = sortedP (subs l 0) := arr_subs hf.2.1
  have hk5 : ((arrV (sortedP (subs l 0))).getD 0 M.zero).kind = 5 := by rw [arrV_eq]; rfl
  refine ⟨hv, by rw [sort_ok hv, sort_5 k5], hR, arr_each hf.2.1 hR, ?_, ?_, hall.1, ps, ss, fun j hj => ?_, ?_⟩
  · unfold eachOut
    rw [if_neg (by simp [hv]), if_pos (.inl k5)]
  · rw [sort_ok hR, sort_5 hk5, hsub, sorted_again]
  · rw [cmp_is (ss j (by omega)).val (ss (j + 1) hj).val]
    exact le_sorted (by omega) (by omega)
  · rw [Od.same_eq hR hR, Od.out_self hR]; rfl
end So
end Go.Proofs.Ytmeofjefhkdbgaa
