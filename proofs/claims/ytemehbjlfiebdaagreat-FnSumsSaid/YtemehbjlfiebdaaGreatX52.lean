/-
  Plain facts on sums: what FnSums asks. No word of the program is used here.
-/
import Derived.Test.YtemehbjlfiebdaaGreatX08
import Derived.Test.YtemehbjlfiebdaaGreatX39
import Derived.Test.YtemehbjlfiebdaaGreatX41
import Derived.Test.YtemehbjlfiebdaaGreatX50
import Derived.Test.YtemehbjlfiebdaaGreatX51
namespace Go.Proofs.YtemehbjlfiebdaaGreat
open Go.RowKit
set_option linter.unusedVariables false
set_option linter.unusedSimpArgs false
namespace Sums
theorem code_ok {c : M.Cl} (h : M.cellCode c = 0) : c.ok := by
  unfold M.cellCode at h
  split at h
  · cases h
  split at h
  · cases h
  split at h
  · cases h
  split at h
  · rename_i h1 h2 h3 h4
    have t1 : c.text.size ≤ 60 := by have := h4.1; unfold M.textOk at this; rw [Bool.and_eq_true, decide_eq_true_eq] at this; exact this.1
    have t2 : c.key.size ≤ 60 := by have := h4.2; unfold M.textOk at this; rw [Bool.and_eq_true, decide_eq_true_eq] at this; exact this.1
    unfold M.Cl.ok
    omega
  · cases h
theorem ok_of_valid {v : List M.Cl} (h : M.valueFault v = 0) : ∀ c ∈ v, c.ok := fun c hc => code_ok (M.first_zero (M.fault_zero h).2.2.1 c hc)
/-- Where no code is told, what is told has no fault. -/
def Good (r : Int × List M.Cl) : Prop := r.1 = 0 → M.valueFault r.2 = 0
theorem gd_bad {c : Int} (h : c ≠ 0) : Good (c, []) := fun q => absurd q h
theorem gd_of {l : List M.Cl} (h : M.valueFault l = 0) : Good (0, l) := fun _ => h
theorem bool_valid (q : Bool) : M.valueFault [boolCl q] = 0 := by
  refine (one_valid (c := boolCl q) ?_ empty_toList rfl).1
  unfold boolCl M.cellCode
  simp only
  rw [if_neg (by cases q <;> simp), if_neg, if_neg (by omega), if_pos ⟨by decide, by decide⟩]
  intro g
  rcases g with g | g | g
  · exact g.1 rfl
  · exact g.1 empty_toList
  · exact g.1 rfl
theorem good_num (n : Int) : Good (numOut n) := by
  unfold numOut
  split
  · exact gd_bad (by decide)
  · rename_i h
    exact gd_of (one_valid (code_num (by omega) (by omega)) empty_toList rfl).1
theorem add_good {v u : List M.Cl} (hv : M.valueFault v = 0) (hu : M.valueFault u = 0) : Good (addIn v u) := fun h => (add_valid hv hu (ok_of_valid hv) (ok_of_valid hu) h).1
theorem sub_good {v u : List M.Cl} (hv : M.valueFault v = 0) : Good (subIn v u) := by
  unfold subIn
  split
  · exact good_num _
  split
  · refine gd_of ?_
    rw [← left_whole]
    exact left_valid _ hv (ok_of_valid hv)
  · exact gd_bad (by decide)
theorem times_good (op : Int) (v u : List M.Cl) : Good (timesIn op v u) := by
  unfold timesIn
  split
  · unfold timesOut
    repeat' split
    all_goals first | exact good_num _ | exact gd_bad (by decide)
  · exact gd_bad (by decide)
theorem both_ok {v u : List M.Cl} (h : bothOut v u = 0) : M.valueFault v = 0 ∧ M.valueFault u = 0 := by
  unfold bothOut at h
  split at h
  · rename_i h1; exact absurd h h1
  · rename_i h1; exact ⟨by simpa using h1, h⟩
theorem bin_good (op : Int) (v u : List M.Cl) : Good (binOut op v u) := by
  by_cases hb : bothOut v u = 0
  · obtain ⟨hv, hu⟩ := both_ok hb
    by_cases ho : 1 ≤ op ∧ op ≤ 11
    · rw [bin_ok hb ho]
      unfold binIn
      split
      · exact add_good hv hu
      split
      · exact sub_good hv
      split
      · exact times_good _ _ _
      · exact gd_of (bool_valid _)
    · rw [bin_form hb ho]; exact gd_bad (by decide)
  · rw [bin_bad hb]; exact gd_bad hb

theorem num_valid {n : Int} (h0 : -1000000000000000 ≤ n) (h1 : n ≤ 1000000000000000) : M.valueFault [numCl n] = 0 := (one_valid (code_num h0 h1) empty_toList rfl).1
theorem both_num {x y : Int} (hx0 : -1000000000000000 ≤ x) (hx1 : x ≤ 1000000000000000) (hy0 : -1000000000000000 ≤ y) (hy1 : y ≤ 1000000000000000) : bothOut [numCl x] [numCl y] = 0 := by
  unfold bothOut
  rw [num_valid hx0 hx1, num_valid hy0 hy1]; rfl
theorem quo_is {x y : Int} (hx0 : -4500 ≤ x) (hx1 : x ≤ 4500) (hy0 : 1 ≤ y) (hy1 : y ≤ 90) : binOut 10 [numCl x] [numCl y] = (0, [numCl (x.tdiv y)]) := by
  rw [bin_ok (both_num (by omega) (by omega) (by omega) (by omega)) (by omega), bin_t (by omega), timesIn_yes ⟨rfl, rfl⟩]
  exact times_quo (by show y ≠ 0; omega) (by show _ ≤ x; omega) (by show x ≤ _; omega)
theorem rem_is {x y : Int} (hx0 : -4500 ≤ x) (hx1 : x ≤ 4500) (hy0 : 1 ≤ y) (hy1 : y ≤ 90) : binOut 11 [numCl x] [numCl y] = (0, [numCl (x.tmod y)]) := by
  rw [bin_ok (both_num (by omega) (by omega) (by omega) (by omega)) (by omega), bin_t (by omega), timesIn_yes ⟨rfl, rfl⟩]
  exact times_rem (by show y ≠ 0; omega) (by show _ ≤ x; omega) (by show x ≤ _; omega)
theorem tdiv_small {x y : Int} (hx0 : -4500 ≤ x) (hx1 : x ≤ 4500) : -4500 ≤ x.tdiv y ∧ x.tdiv y ≤ 4500 := by
  have h : (x.tdiv y).natAbs ≤ x.natAbs := by rw [Int.natAbs_tdiv]; exact Nat.div_le_self _ _
  omega
theorem tmod_small {x y : Int} (hx0 : -4500 ≤ x) (hx1 : x ≤ 4500) : -4500 ≤ x.tmod y ∧ x.tmod y ≤ 4500 := by
  have h := Int.natAbs_tmod x y
  have h2 := Nat.mod_le x.natAbs y.natAbs
  omega
theorem prod_small {x y : Int} (hx0 : -4500 ≤ x) (hx1 : x ≤ 4500) (hy0 : 1 ≤ y) (hy1 : y ≤ 90) : -405000 ≤ x * y ∧ x * y ≤ 405000 := by
  have h : (x * y).natAbs ≤ 4500 * 90 := by rw [Int.natAbs_mul]; exact Nat.mul_le_mul (by omega) (by omega)
  omega
theorem mul_is {q y : Int} (hx0 : -4500 ≤ q) (hx1 : q ≤ 4500) (hy0 : 1 ≤ y) (hy1 : y ≤ 90) : binOut 3 [numCl q] [numCl y] = (0, [numCl (q * y)]) := by
  rw [bin_ok (both_num (by omega) (by omega) (by omega) (by omega)) (by omega), bin_t (by omega), timesIn_yes ⟨rfl, rfl⟩]
  refine times_mul (x := q) (y := y) ?_
  rw [size_mul]
  have := prod_small hx0 hx1 hy0 hy1
  omega
theorem add_is {p r : Int} (hp0 : -405000 ≤ p) (hp1 : p ≤ 405000) (hr0 : -4500 ≤ r) (hr1 : r ≤ 4500) : binOut 1 [numCl p] [numCl r] = (0, [numCl (p + r)]) := by
  rw [bin_ok (both_num (by omega) (by omega) (by omega) (by omega)) (by omega), bin_1, add_3 rfl rfl]
  exact told_ok (num_valid (by show _ ≤ p + r; omega) (by show p + r ≤ _; omega))
theorem back_is (x y : Int) : x.tdiv y * y + x.tmod y = x := by rw [Int.mul_comm]; exact Int.mul_tdiv_add_tmod x y
theorem zero_ok : M.valueFault [M.zero] = 0 := St.null_valid
theorem null_is {a : List M.Cl} (ha : M.valueFault a = 0) : binOut 1 [M.zero] a = (0, a) := by
  have hb : bothOut [M.zero] a = 0 := by unfold bothOut; rw [zero_ok, ha]; rfl
  rw [bin_ok hb (by omega), bin_1, add_l rfl]
theorem eq_is {a : List M.Cl} (ha : M.valueFault a = 0) : binOut 4 a a = (0, [boolCl true]) := by
  have hb : bothOut a a = 0 := by unfold bothOut; rw [ha]; rfl
  rw [bin_ok hb (by omega), bin_o (by omega)]
  have : cmpL a.length a a = 0 := by
    first
    | (have h := cmpL_neg a.length a a ha ha (by omega) (by omega); omega)
    | (have h := Od.out_self ha; rw [Od.out_eq ha ha (f := a.length) (by omega)] at h; exact h)
    | (have h := Od.cmpL_neg a.length a a ha ha (by omega) (by omega); omega)
    | (have h := St.cmpL_neg a.length a a ha ha (by omega) (by omega); omega)
  rw [this]; rfl
theorem true_is : truthy [boolCl true] = true := by rw [truthy_ok (bool_valid true)]; rfl
theorem same_is {a : List M.Cl} (ha : M.valueFault a = 0) : sameOut a a = true := by rw [Od.same_eq ha ha, Od.out_self ha]; rfl
end Sums
end Go.Proofs.YtemehbjlfiebdaaGreat
