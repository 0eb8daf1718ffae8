/-
  spec.RangeOf and impl.RangeOf.
  What KeysOf tells, plainly; texts and lists that do not touch one another.
-/
import Derived.Test.YthaabakpcokomaaBld
namespace Go.Proofs.Ythaabakpcokomaa
open Go.RowKit
set_option linter.unusedVariables false

def nums (k : Nat) : List (List M.Cl) := (List.range k).map fun (j : Nat) => [numCl (j : Int)]
theorem nums_length (k : Nat) : (nums k).length = k := by simp [nums]
theorem nums_getD {k j : Nat} (hj : j < k) : (nums k).getD j [] = [numCl (j : Int)] := by simp [nums, List.getD_eq_getElem?_getD, hj]
theorem nums_succ (k : Nat) : nums k ++ [[numCl (k : Int)]] = nums (k + 1) := by simp [nums, List.range_succ]
theorem nums_all {k : Nat} (hk : k ≤ 199) : (∀ j, j < (nums k).length → M.valueFault ((nums k).getD j []) = 0) ∧ OkS (nums k) ∧ M.valueFault (arrV (nums k)) = 0 := by
  have h1 : ∀ j, j < (nums k).length → M.cellCode (numCl (j : Int)) = 0 := fun j hj => by rw [nums_length] at hj; exact code_num (by omega) (by omega)
  have hv : ∀ j, j < (nums k).length → M.valueFault ((nums k).getD j []) = 0 := fun j hj => by
    have := h1 j hj
    rw [nums_length] at hj; rw [nums_getD hj]; exact (one_valid this empty_toList rfl).1
  refine ⟨hv, fun j hj c hc => ?_, arr_valid hv (fun j hj => ?_) ?_ (by rw [nums_length]; omega)⟩
  · rw [nums_length] at hj; rw [nums_getD hj] at hc
    simp only [List.mem_cons, List.not_mem_nil, or_false] at hc
    subst hc
    unfold numCl M.Cl.ok
    simp only
    refine ⟨by omega, by omega, by omega, by decide, by decide⟩
  · have := h1 j hj
    rw [nums_length] at hj; rw [nums_getD hj]; exact one_laid this empty_toList rfl
  · rw [tot_ones (fun j hj => by rw [nums_length] at hj; rw [nums_getD hj]; rfl) _ (Nat.le_refl _), nums_length]; omega
def rngOut (n : Int) : Int × List M.Cl := if 199 < n then (3, []) else (0, arrV (nums n.toNat))
theorem rng_bad {n : Int} (h : 199 < n) : rngOut n = (3, []) := if_pos h
theorem rng_ok {n : Int} (h : ¬ 199 < n) : rngOut n = (0, arrV (nums n.toNat)) := if_neg h

end Go.Proofs.Ythaabakpcokomaa

namespace Go.Proofs.Ythaabakpcokomaa
open Go.RowKit
set_option linter.unusedVariables false

theorem arity_lt {v : List M.Cl} (hv : M.valueFault v = 0) : M.arity v 0 + 1 ≤ v.length := by
  have hl := (M.fault_zero hv).1
  obtain ⟨h1, h2, h3, _⟩ := M.places_in hv 0 (by omega)
  have h : ∀ j, j ≤ M.arity v 0 → j + 1 ≤ M.iter v j 1 := by
    intro j
    induction j with
    | zero => intro _; exact Nat.le_refl 1
    | succ j ih =>
      intro hj
      have h4 := ih (by omega)
      have h5 := h1 j (by omega)
      simp only [Nat.zero_add] at h5
      rw [M.iter_next]
      have h6 := (end_gt hv (a := M.iter v j 1) (by omega)).1
      omega
  have := h _ (Nat.le_refl _)
  simp only [Nat.zero_add] at h2
  omega
/-- Texts as values. -/
def strs (ks : List ByteArray) : List (List M.Cl) := ks.map fun s => [strCl s]
theorem strs_length (ks : List ByteArray) : (strs ks).length = ks.length := by simp [strs]
theorem strs_getD {ks : List ByteArray} {j : Nat} (hj : j < ks.length) : (strs ks).getD j [] = [strCl (ks.getD j ByteArray.empty)] := by simp [strs, List.getD_eq_getElem?_getD, hj]
theorem strs_succ (ks : List ByteArray) (k : Nat) (hk : k < ks.length) : strs (ks.take k) ++ [[strCl (ks.getD k ByteArray.empty)]] = strs (ks.take (k + 1)) := by
  rw [List.take_succ_eq_append_getElem hk]
  unfold strs
  rw [List.map_append, List.getD_eq_getElem?_getD, List.getElem?_eq_getElem hk]
  rfl
def TextsOk (ks : List ByteArray) : Prop := ∀ j, j < ks.length → M.textOk (ks.getD j ByteArray.empty) = true
theorem strs_all {ks : List ByteArray} (hk : ks.length ≤ 199) (ht : TextsOk ks) : (∀ j, j < (strs ks).length → M.valueFault ((strs ks).getD j []) = 0) ∧ OkS (strs ks) ∧ M.valueFault (arrV (strs ks)) = 0 := by
  have h1 : ∀ j, j < ks.length → M.cellCode (strCl (ks.getD j ByteArray.empty)) = 0 := fun j hj => code_str (ht j hj)
  have hv : ∀ j, j < (strs ks).length → M.valueFault ((strs ks).getD j []) = 0 := fun j hj => by
    rw [strs_length] at hj; rw [strs_getD hj]; exact (one_valid (h1 j hj) empty_toList rfl).1
  refine ⟨hv, fun j hj c hc => ?_, arr_valid hv (fun j hj => ?_) ?_ (by rw [strs_length]; omega)⟩
  · rw [strs_length] at hj; rw [strs_getD hj] at hc
    simp only [List.mem_cons, List.not_mem_nil, or_false] at hc
    subst hc
    have hsz : (ks.getD j ByteArray.empty).size ≤ 60 := by
      have := ht j hj
      unfold M.textOk at this
      rw [Bool.and_eq_true] at this
      exact of_decide_eq_true this.1
    unfold strCl M.Cl.ok
    simp only
    refine ⟨by omega, by omega, by omega, by omega, by decide⟩
  · rw [strs_length] at hj; rw [strs_getD hj]; exact one_laid (h1 j hj) empty_toList rfl
  · rw [tot_ones (fun j hj => by rw [strs_length] at hj; rw [strs_getD hj]; rfl) _ (Nat.le_refl _), strs_length]; omega
theorem keys_text {v : List M.Cl} (hv : M.valueFault v = 0) : TextsOk (keysAt v 0) := by
  intro j hj
  have hl := (M.fault_zero hv).1
  rw [keysAt_length] at hj
  rw [show (keysAt v 0).getD j ByteArray.empty = (v.getD (M.iter v j 1) M.zero).key from by simp [keysAt, M.places, List.getD_eq_getElem?_getD, hj]]
  obtain ⟨h1, h2, h3, _⟩ := M.places_in hv 0 (by omega)
  have h5 := h1 j hj
  simp only [Nat.zero_add] at h5
  have h := code_at hv (M.iter v j 1) (by omega)
  unfold M.cellCode at h
  split at h
  · cases h
  split at h
  · cases h
  split at h
  · cases h
  split at h
  · rename_i h4; exact h4.2
  · cases h
def keysL (v : List M.Cl) : Int × List M.Cl := if (v.getD 0 M.zero).kind = 5 then (0, arrV (nums (M.arity v 0))) else if (v.getD 0 M.zero).kind = 6 then (0, arrV (strs (keysAt v 0))) else (6, [])
def keysOut (v : List M.Cl) : Int × List M.Cl := if M.valueFault v ≠ 0 then (M.valueFault v, []) else keysL v
theorem keys_bad {v : List M.Cl} (h : M.valueFault v ≠ 0) : keysOut v = (M.valueFault v, []) := if_pos h
theorem keys_ok {v : List M.Cl} (h : M.valueFault v = 0) : keysOut v = keysL v := by unfold keysOut; rw [if_neg (by simp [h])]
theorem keys_5 {v : List M.Cl} (h : (v.getD 0 M.zero).kind = 5) : keysL v = (0, arrV (nums (M.arity v 0))) := if_pos h
theorem keys_6 {v : List M.Cl} (h : (v.getD 0 M.zero).kind = 6) : keysL v = (0, arrV (strs (keysAt v 0))) := by unfold keysL; rw [if_neg (by omega), if_pos h]
theorem keys_no {v : List M.Cl} (h5 : (v.getD 0 M.zero).kind ≠ 5) (h6 : (v.getD 0 M.zero).kind ≠ 6) : keysL v = (6, []) := by unfold keysL; rw [if_neg h5, if_neg h6]
/-- A row of texts stays, where a row of another kind grows. -/
theorem KS.grown {w w' : World} {B base : Nat} {v s : Value} {ks : List ByteArray} {n size : Nat} {e : TypeId} {xs : List Value} (h : KS w B v ks) (ho : w.ownsRow base e size s n xs) (hne : e ≠ 9) (hg : w.grownBy w' s.ownBlock) : KS w' B v ks := by
  obtain ⟨h1, h2 | ⟨g, cap, cur, h3, h4, h5, h6⟩⟩ := h
  · exact ⟨h1, .inl h2⟩
  · obtain ⟨c, hc, ec⟩ := grown_own hg (b := g) (t := 9) (ys := cur.toList) ⟨cur, h5, rfl⟩ (other_block ho (b := g) (t := 9) (ys := cur.toList) ⟨cur, h5, rfl⟩ hne)
    have : c = cur := Array.toList_inj.1 ec
    subst this
    exact ⟨h1, .inr ⟨g, cap, c, h3, h4, hc, h6⟩⟩
theorem KS.alloc {w : World} {B : Nat} {v : Value} {ks : List ByteArray} (h : KS w B v ks) (o : Obj) : KS (w.alloc o) B v ks := h.below ((Below.refl _ _).alloc (Nat.le_refl _) o)
theorem SS.ownsRow {w : World} {B : Nat} {v : Value} {ps : List (List M.Cl)} (h : SS w B v ps) : ∃ xs, w.ownsRow B 28 1 v ps.length xs := by obtain ⟨ss, _, h2, _⟩ := h; exact ⟨ss, h2⟩
theorem SS.alloc {w : World} {B : Nat} {v : Value} {ps : List (List M.Cl)} (h : SS w B v ps) (o : Obj) : SS (w.alloc o) B v ps := h.below ((Below.refl _ _).alloc (Nat.le_refl _) o)

end Go.Proofs.Ythaabakpcokomaa
