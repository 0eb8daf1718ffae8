/-
  DropPath, plainly. No word of the program is used here.
-/
import Derived.Test.YthaabakpcokomaaPthE
import Derived.Test.YthaabakpcokomaaDrpS
import Derived.Test.YthaabakpcokomaaBld
namespace Go.Proofs.Ythaabakpcokomaa
open Go.RowKit
set_option linter.unusedVariables false
set_option linter.unusedSimpArgs false
namespace Pth
theorem bytesNil {b : ByteArray} (h : b.toList = []) : b = ByteArray.empty := bytes_ext (h.trans empty_list.symm)
theorem end_gt {v : List M.Cl} (hv : M.valueFault v = 0) {a : Nat} (ha : a < v.length) : a < M.endOf v a ∧ M.endOf v a ≤ v.length := by
  obtain ⟨d, _, h1, h2, _⟩ := M.endOf_spec hv a ha
  exact ⟨h1, h2⟩
theorem end_whole {v : List M.Cl} (hv : M.valueFault v = 0) : M.endOf v 0 = v.length := end_zero hv
theorem cut_ne {v : List M.Cl} (hv : M.valueFault v = 0) {a : Nat} (ha : a < v.length) : cut v a (M.endOf v a) ≠ [] := by
  have h := end_gt hv ha
  have hc := cut_length v a (M.endOf v a) h.2
  intro e
  rw [e] at hc
  simp at hc
  omega
theorem head_cell {v : List M.Cl} (hv : M.valueFault v = 0) {k : Int} (hk : (v.getD 0 M.zero).kind = k) (h56 : k = 5 ∨ k = 6) : v.getD 0 M.zero = headCl k (M.arity v 0) := by
  have hl := (M.fault_zero hv).1
  have hkey := fault_key hv
  have hc := M.first_zero (M.fault_zero hv).2.2.1 _ (getD_mem v 0 (by omega))
  unfold M.arity
  generalize v.getD 0 M.zero = c at *
  obtain ⟨kind, num, text, key, n⟩ := c
  simp only at hk hkey hc
  subst hk
  subst hkey
  unfold M.cellCode at hc
  simp only at hc
  split at hc
  · cases hc
  split at hc
  · cases hc
  rename_i h1
  split at hc
  · cases hc
  rename_i h2
  have hnum : num = 0 := by
    by_cases e : num = 0
    · exact e
    · exact absurd (.inl ⟨e, by omega⟩) h1
  have htx : text.toList = [] := by
    by_cases e : text.toList = []
    · exact e
    · exact absurd (.inr (.inl ⟨e, by omega⟩)) h1
  unfold headCl
  rw [hnum, show text = ByteArray.empty from bytesNil htx]
  simp only
  rw [show ((n.toNat : Nat) : Int) = n from Int.toNat_of_nonneg (by omega)]
theorem take_parts {v : List M.Cl} (hv : M.valueFault v = 0) (k : Nat) (hk : k ≤ M.arity v 0) : v.take (M.iter v k 1) = v.take 1 ++ ((List.range k).map fun j => cut v (M.iter v j 1) (M.iter v (j + 1) 1)).flatten := by
  have hl := (M.fault_zero hv).1
  have hin := M.places_in hv 0 (by omega)
  induction k with
  | zero => simp [M.iter]
  | succ k ih =>
    have h1 := hin.1 k (by omega)
    simp only [Nat.zero_add] at h1
    have hg := end_gt hv (a := M.iter v k 1) (by have := hin.2.2.1; omega)
    rw [← M.iter_next] at hg
    rw [List.range_succ, List.map_append, List.flatten_append, ← List.append_assoc, ← ih (by omega)]
    simp only [List.map_cons, List.map_nil, List.flatten_cons, List.flatten_nil, List.append_nil]
    unfold cut
    obtain ⟨m, hm⟩ : ∃ m, M.iter v (k + 1) 1 = M.iter v k 1 + m := ⟨M.iter v (k + 1) 1 - M.iter v k 1, by omega⟩
    rw [hm, Nat.add_sub_cancel_left, List.take_add]
theorem flat_parts {v : List M.Cl} (hv : M.valueFault v = 0) : v = v.getD 0 M.zero :: ((List.range (M.arity v 0)).map fun j => cut v (M.iter v j 1) (M.iter v (j + 1) 1)).flatten := by
  have hl := (M.fault_zero hv).1
  have h2 := (M.places_in hv 0 (by omega)).2.1
  simp only [Nat.zero_add] at h2
  have := take_parts hv (M.arity v 0) (Nat.le_refl _)
  rw [h2, end_whole hv, List.take_length] at this
  have ht : v.take 1 = [v.getD 0 M.zero] := by
    cases v with
    | nil => simp at hl
    | cons c r => simp
  rw [ht] at this
  exact this
theorem cut_key {v : List M.Cl} (hv : M.valueFault v = 0) {j : Nat} (hj : j < M.arity v 0) : setKey (part v (M.iter v j 1)) (v.getD (M.iter v j 1) M.zero).key = cut v (M.iter v j 1) (M.iter v (j + 1) 1) := by
  have hl := (M.fault_zero hv).1
  have hin := M.places_in hv 0 (by omega)
  have h1 := hin.1 j hj
  simp only [Nat.zero_add] at h1
  have hlt : M.iter v j 1 < v.length := by have := hin.2.2.1; omega
  have hne := cut_ne hv hlt
  have hz := cut_getD v (M.iter v j 1) (M.endOf v (M.iter v j 1)) 0 (by have := end_gt hv hlt; omega)
  rw [Nat.add_zero] at hz
  rw [← hz]
  unfold part
  rw [M.iter_next]
  generalize cut v (M.iter v j 1) (M.endOf v (M.iter v j 1)) = q at *
  cases q with
  | nil => exact absurd rfl hne
  | cons c r => rfl
theorem arr_again {v : List M.Cl} (hv : M.valueFault v = 0) (hk : (v.getD 0 M.zero).kind = 5) : arrV (subs v 0) = v := by
  have e : arrV (subs v 0) = headCl 5 (subs v 0).length :: (subs v 0).flatten := by unfold arrV arrK; rw [List.take_length]
  rw [e, subs_length, ← head_cell hv hk (.inl rfl)]
  conv => rhs; rw [flat_parts hv]
  refine congrArg _ (congrArg _ ?_)
  unfold subs M.places
  rw [List.map_map]
  refine List.map_congr_left fun j hj => ?_
  have hj := List.mem_range.1 hj
  show part v (M.iter v j (0 + 1)) = _
  rw [Nat.zero_add, ← cut_key hv hj, show (v.getD (M.iter v j 1) M.zero).key = ByteArray.empty from bytesNil (nokeys v hv hk j hj)]
  have hin := M.places_in hv 0 (by have := (M.fault_zero hv).1; omega)
  have h1 := hin.1 j hj
  simp only [Nat.zero_add] at h1
  exact (setKey_none (part_valid hv (by have := hin.2.2.1; omega))).symm

/-- The elements but the one at a place; all, if there is none. -/
def without (ps : List (List M.Cl)) (q : Int) : List (List M.Cl) := if 0 ≤ q ∧ q < (ps.length : Int) then ps.eraseIdx q.toNat else ps
theorem without_no {ps : List (List M.Cl)} {q : Int} (h : ¬ (0 ≤ q ∧ q < (ps.length : Int))) : without ps q = ps := if_neg h
theorem without_at {ps : List (List M.Cl)} {k : Nat} (h : k < ps.length) : without ps (k : Int) = ps.eraseIdx k := by unfold without; rw [if_pos ⟨by omega, by omega⟩, Int.toNat_natCast]
theorem erase_mem {ps : List (List M.Cl)} {k j : Nat} (hj : j < (ps.eraseIdx k).length) : ∃ i, i < ps.length ∧ (ps.eraseIdx k).getD j [] = ps.getD i [] := by
  have hm : (ps.eraseIdx k).getD j [] ∈ ps.eraseIdx k := by rw [List.getD_eq_getElem?_getD, List.getElem?_eq_getElem hj]; exact List.getElem_mem hj
  obtain ⟨i, hi, e⟩ := List.getElem_of_mem (List.mem_of_mem_eraseIdx hm)
  exact ⟨i, hi, by rw [← e, List.getD_eq_getElem?_getD, List.getElem?_eq_getElem hi]; rfl⟩
theorem erase_tot (ps : List (List M.Cl)) (k : Nat) : (ps.eraseIdx k).flatten.length ≤ ps.flatten.length := by
  rw [List.length_flatten, List.length_flatten]
  induction ps generalizing k with
  | nil => simp
  | cons p ps ih =>
    cases k with
    | zero => simp
    | succ k => simp only [List.eraseIdx_cons_succ, List.map_cons, List.sum_cons]; have := ih k; omega
/-- What is left of an array has no fault. -/
theorem left_val {v : List M.Cl} (hv : M.valueFault v = 0) (hk : (v.getD 0 M.zero).kind = 5) (q : Int) : M.valueFault (arrV (without (subs v 0) q)) = 0 ∧ (without (subs v 0) q).length ≤ 200 ∧ ∀ j, j < (without (subs v 0) q).length → M.valueFault ((without (subs v 0) q).getD j []) = 0 := by
  have ha := arr_again hv hk
  have hs := subs_all hv (oks hv)
  by_cases h : 0 ≤ q ∧ q < ((subs v 0).length : Int)
  · unfold without
    rw [if_pos h]
    have hle : ((subs v 0).eraseIdx q.toNat).length ≤ (subs v 0).length := by rw [List.length_eraseIdx]; split <;> omega
    have hval : ∀ j, j < ((subs v 0).eraseIdx q.toNat).length → M.valueFault (((subs v 0).eraseIdx q.toNat).getD j []) = 0 := fun j hj => by
      obtain ⟨i, hi, e⟩ := erase_mem hj
      rw [e]; exact hs.2.1 i hi
    refine ⟨arr_valid hval (fun j hj => ?_) ?_ (by have := hs.1; omega), by have := hs.1; omega, hval⟩
    · obtain ⟨i, hi, e⟩ := erase_mem hj
      rw [e]
      obtain ⟨d, hw, hd⟩ := subs_laid hv hi
      exact laid_of (hs.2.1 i hi) hw hd
    · rw [← tot_flatten, List.take_length]
      have h1 := erase_tot (subs v 0) q.toNat
      have h2 := congrArg List.length ha
      rw [show arrV (subs v 0) = headCl 5 (subs v 0).length :: (subs v 0).flatten by unfold arrV arrK; rw [List.take_length], List.length_cons] at h2
      have h3 := (lens hv).2
      omega
  · rw [without_no h, ha]
    exact ⟨hv, hs.1, hs.2.1⟩
/-- What DropPath tells of a number. -/
def outI (v : List M.Cl) (n : Int) : Int × List M.Cl := if (v.getD 0 M.zero).kind = 0 then (0, [M.zero]) else if (v.getD 0 M.zero).kind = 5 then (0, arrV (without (subs v 0) (idx n (subs v 0).length))) else (6, [])
theorem outI_gd {v : List M.Cl} (hv : M.valueFault v = 0) (n : Int) : Gd (outI v n) := by
  unfold outI
  split
  · exact gdOf zero_valid.1
  split
  · rename_i h; exact gdOf (left_val hv h _).1
  · exact gdBad _ (by decide)
theorem dropL_gd {v : List M.Cl} (hv : M.valueFault v = 0) (key : ByteArray) : Gd (dropL v key) := by
  unfold dropL
  split
  · exact gdOf zero_valid.1
  split
  · rename_i h; exact gdOf (drop_valid key hv (oks hv) h)
  · exact gdBad _ (by decide)
/-- What DropPath tells of the last step. -/
def outC (v : List M.Cl) (c : M.Cl) : Int × List M.Cl := if c.kind = 4 then dropL v c.text else outI v c.num
/-- What DropPath tells of steps. -/
def dropS (v : List M.Cl) : List M.Cl → Int × List M.Cl
  | [] => (0, [M.zero])
  | [c] => outC v c
  | c :: d :: cs =>
    if (atIn v c).1 = 0 then
      (if ((atIn v c).2.getD 0 M.zero).kind = 0 then (0, v)
       else if (dropS (atIn v c).2 (d :: cs)).1 = 0 then setS v [c] (dropS (atIn v c).2 (d :: cs)).2 else dropS (atIn v c).2 (d :: cs))
    else atIn v c
theorem dropS_gd {v : List M.Cl} (hv : M.valueFault v = 0) (cs : List M.Cl) : Gd (dropS v cs) := by
  induction cs generalizing v with
  | nil => exact gdOf zero_valid.1
  | cons c cs ih =>
    cases cs with
    | nil =>
      show Gd (outC v c)
      unfold outC
      split
      · exact dropL_gd hv _
      · exact outI_gd hv _
    | cons d cs =>
      rw [dropS]
      split
      · rename_i q
        have hu := (at_gd hv c).ok q
        split
        · exact gdOf hv
        split
        · rename_i q2; exact setS_gd hv ((ih hu).ok q2) _
        · exact ih hu
      · exact at_gd hv c
/-- What DropPath tells. -/
def dropOutP (v p : List M.Cl) : Int × List M.Cl := if asked v p = 0 then dropS v (p.drop 1) else (asked v p, [])
theorem dropP_ok {v p : List M.Cl} (h : asked v p = 0) : dropOutP v p = dropS v (p.drop 1) := if_pos h
theorem dropP_bad {v p : List M.Cl} (h : asked v p ≠ 0) : dropOutP v p = (asked v p, []) := if_neg h
end Pth
end Go.Proofs.Ythaabakpcokomaa
