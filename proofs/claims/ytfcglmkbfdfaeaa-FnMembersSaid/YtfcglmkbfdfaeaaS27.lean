/-
  The members of an object that was laid: what is got by a key. No word of the program is used here.
-/
import Derived.Test.YtfcglmkbfdfaeaaS18
import Derived.Test.YtfcglmkbfdfaeaaS24
import Derived.Test.YtfcglmkbfdfaeaaS25
import Derived.Test.YtfcglmkbfdfaeaaS26
namespace Go.Proofs.Ytfcglmkbfdfaeaa
open Go.RowKit
set_option linter.unusedVariables false
set_option linter.unusedSimpArgs false
namespace Mb
/-- The members at the places I. -/
def mem (ks : List ByteArray) (ps : List (List M.Cl)) (I : List Nat) : List (List M.Cl) := I.map fun p => setKey (ps.getD p []) (ks.getD p ByteArray.empty)
def ob (ks : List ByteArray) (ps : List (List M.Cl)) (I : List Nat) : List M.Cl := headCl 6 I.length :: (mem ks ps I).flatten
theorem ob_of (ks : List ByteArray) (ps : List (List M.Cl)) : objV ks ps = ob ks ps (St.stand ks ks.length) := by
  unfold objV objK memK ob mem
  rw [List.take_length]
theorem set_set (l : List M.Cl) (k k' : ByteArray) : setKey (setKey l k) k' = setKey l k' := by cases l <;> rfl
section
variable {ks : List ByteArray} {ps : List (List M.Cl)} {I : List Nat}
theorem mem_length : (mem ks ps I).length = I.length := by simp [mem]
theorem mem_getD {j : Nat} (hj : j < I.length) : (mem ks ps I).getD j [] = setKey (ps.getD (I.getD j 0) []) (ks.getD (I.getD j 0) ByteArray.empty) := by
  simp [mem, List.getD_eq_getElem?_getD, hj]
theorem at_mem {j : Nat} (hj : j < I.length) : I.getD j 0 ∈ I := by
  rw [List.getD_eq_getElem?_getD, List.getElem?_eq_getElem hj]; exact List.getElem_mem hj
theorem mem_at {p : Nat} (h : p ∈ I) : ∃ j, j < I.length ∧ I.getD j 0 = p := by
  obtain ⟨j, hj, e⟩ := List.getElem_of_mem h
  exact ⟨j, hj, by rw [List.getD_eq_getElem?_getD, List.getElem?_eq_getElem hj]; exact e⟩
theorem ob_arity : M.arity (ob ks ps I) 0 = I.length := by simp [ob, M.arity, headCl]
theorem ob_kind : ((ob ks ps I).getD 0 M.zero).kind = 6 := rfl
variable (hv : ∀ p ∈ I, M.valueFault (ps.getD p []) = 0)
include hv
theorem ob_end {j : Nat} (hj : j < I.length) : M.endOf (ob ks ps I) (tot (mem ks ps I) j + 1) = tot (mem ks ps I) (j + 1) + 1 := by
  obtain ⟨h1, h2, _, _, d, hw, _⟩ := M.fault_zero (hv _ (at_mem hj))
  have hjm : j < (mem ks ps I).length := by rw [mem_length]; exact hj
  have hL := made_length (headCl 6 I.length) (mem ks ps I)
  have hts := tot_succ (mem ks ps I) j hjm
  have hm := tot_le (mem ks ps I) (mem ks ps I).length (j + 1) (by omega) (Nat.le_refl _)
  have hlen : ((mem ks ps I).getD j []).length = (ps.getD (I.getD j 0) []).length := by rw [mem_getD hj, setKey_length]
  have hne : ps.getD (I.getD j 0) [] ≠ [] := by intro e; rw [e] at h1; simp at h1
  have hat : ∀ i, i < (ps.getD (I.getD j 0) []).length → (headCl 6 I.length :: (mem ks ps I).flatten).getD (tot (mem ks ps I) j + 1 + i) M.zero = (setKey (ps.getD (I.getD j 0) []) (ks.getD (I.getD j 0) ByteArray.empty)).getD i M.zero := fun i hi => by rw [made_at _ (mem ks ps I) j i hjm (by rw [hlen]; exact hi), mem_getD hj]
  have hs : M.Sub (ps.getD (I.getD j 0) []) (headCl 6 I.length :: (mem ks ps I).flatten) (tot (mem ks ps I) j + 1) (tot (mem ks ps I) (j + 1) + 1) := by
    refine ⟨by omega, by omega, by omega, fun i hi => ?_, fun i hi => ?_, fun i h0 hi => ?_⟩
    · rw [hat i hi]
      by_cases h0 : i = 0
      · subst h0; rw [setKey_zero _ _ hne]
      · rw [setKey_getD _ _ i (by omega)]
    · rw [hat i hi]
      by_cases h0 : i = 0
      · subst h0; rw [setKey_zero _ _ hne]
      · rw [setKey_getD _ _ i (by omega)]
    · rw [hat i hi, setKey_getD _ _ i h0]
  have := M.walk_sup hs _ 0 _ _ (by omega) hw
  rw [Nat.add_zero, show tot (mem ks ps I) j + 1 + (ps.getD (I.getD j 0) []).length = tot (mem ks ps I) (j + 1) + 1 by omega] at this
  exact M.endOf_of (by show _ ≤ (headCl 6 I.length :: (mem ks ps I).flatten).length; omega) this
theorem ob_iter (j : Nat) (hj : j ≤ I.length) : M.iter (ob ks ps I) j 1 = tot (mem ks ps I) j + 1 := by
  induction j with
  | zero => rw [tot_zero]; rfl
  | succ j ih => rw [M.iter_next, ih (by omega), ob_end hv (by omega)]
theorem ob_key {j : Nat} (hj : j < I.length) : ((ob ks ps I).getD (M.iter (ob ks ps I) j 1) M.zero).key = ks.getD (I.getD j 0) ByteArray.empty := by
  have h1 := (M.fault_zero (hv _ (at_mem hj))).1
  have hjm : j < (mem ks ps I).length := by rw [mem_length]; exact hj
  have hlen : ((mem ks ps I).getD j []).length = (ps.getD (I.getD j 0) []).length := by rw [mem_getD hj, setKey_length]
  have hne : ps.getD (I.getD j 0) [] ≠ [] := by intro e; rw [e] at h1; simp at h1
  rw [ob_iter hv j (by omega)]
  have := made_at (headCl 6 I.length) (mem ks ps I) j 0 hjm (by omega)
  rw [Nat.add_zero] at this
  show ((headCl 6 I.length :: (mem ks ps I).flatten).getD (tot (mem ks ps I) j + 1) M.zero).key = _
  rw [this, mem_getD hj, setKey_zero _ _ hne]
theorem ob_part {j : Nat} (hj : j < I.length) : part (ob ks ps I) (M.iter (ob ks ps I) j 1) = ps.getD (I.getD j 0) [] := by
  have hjm : j < (mem ks ps I).length := by rw [mem_length]; exact hj
  have e : cut (ob ks ps I) (tot (mem ks ps I) j + 1) (M.endOf (ob ks ps I) (tot (mem ks ps I) j + 1)) = (mem ks ps I).getD j [] := by
    rw [ob_end hv hj, tot_succ _ j hjm]
    obtain ⟨rest, hr⟩ := flatten_at (mem ks ps I) j hjm
    unfold cut ob
    rw [hr, List.drop_succ_cons, List.append_assoc, List.drop_append_of_le_length (by rw [tot_flatten]; omega), List.drop_of_length_le (by rw [tot_flatten]; omega), List.nil_append]
    rw [show tot (mem ks ps I) j + ((mem ks ps I).getD j []).length + 1 - (tot (mem ks ps I) j + 1) = ((mem ks ps I).getD j []).length by omega]
    exact List.take_left
  rw [ob_iter hv j (by omega)]
  unfold part
  rw [e, mem_getD hj, set_set]
  exact setKey_none (hv _ (at_mem hj))
theorem ob_get {key : ByteArray} {p : Nat} (hp : p ∈ I) (hk : (ks.getD p ByteArray.empty).toList = key.toList) (hpw : I.Pairwise (St.R ks)) : getV (ob ks ps I) key = ps.getD p [] := by
  obtain ⟨j, hj, rfl⟩ := mem_at hp
  rw [getV_hit (k := j) (by rw [ob_arity]; exact hj) (fun i hi => ?_) (by rw [ob_key hv hj, hk]; simp), ob_part hv hj]
  rw [ob_key hv (by omega), beq_eq_false_iff_ne, ← hk]
  have hr := List.pairwise_iff_getElem.1 hpw i j (by omega) hj hi
  have hne := hr.ne
  unfold St.kl at hne
  rw [List.getD_eq_getElem?_getD (l := I), List.getElem?_eq_getElem (by omega), List.getD_eq_getElem?_getD (l := I) (i := j), List.getElem?_eq_getElem hj]
  exact hne
theorem ob_miss {key : ByteArray} (h : ∀ p ∈ I, (ks.getD p ByteArray.empty).toList ≠ key.toList) : getV (ob ks ps I) key = [M.zero] := by
  refine getV_none fun j hj => ?_
  rw [ob_arity] at hj
  rw [ob_key hv hj, beq_eq_false_iff_ne]
  exact h _ (at_mem hj)
end
/-- What was set is got; other members are as they were. -/
theorem set_get {v x : List M.Cl} {key : ByteArray} (hv : M.valueFault v = 0) (hx : M.valueFault x = 0) (hk : (v.getD 0 M.zero).kind = 0 ∨ (v.getD 0 M.zero).kind = 6) :
    getV (objV (keysAt v 0 ++ [key]) (subs v 0 ++ [x])) key = x ∧ (∀ k : ByteArray, k.toList ≠ key.toList → getV (objV (keysAt v 0 ++ [key]) (subs v 0 ++ [x])) k = getV v k) ∧ ((objV (keysAt v 0 ++ [key]) (subs v 0 ++ [x])).getD 0 M.zero).kind = 6 := by
  have hkl : (keysAt v 0).length = M.arity v 0 := keysAt_length v 0
  have hsl : (subs v 0).length = M.arity v 0 := subs_length v 0
  obtain ⟨n, hn⟩ : ∃ n, n = M.arity v 0 := ⟨_, rfl⟩
  rw [← hn] at hkl hsl
  have hl := (M.fault_zero hv).1
  obtain ⟨hin, _⟩ := M.places_in hv 0 (by omega)
  simp only [Nat.zero_add] at hin
  have kA : ∀ p, p < n → (keysAt v 0 ++ [key]).getD p ByteArray.empty = (v.getD (M.iter v p 1) M.zero).key := fun p hp => by
    rw [List.getD_eq_getElem?_getD, List.getElem?_append_left (by omega), ← List.getD_eq_getElem?_getD]
    simp [keysAt, M.places, List.getD_eq_getElem?_getD, ← hn, hp]
  have kN : (keysAt v 0 ++ [key]).getD n ByteArray.empty = key := by
    rw [List.getD_eq_getElem?_getD, List.getElem?_append_right (by omega), hkl]; simp
  have sA : ∀ p, p < n → (subs v 0 ++ [x]).getD p [] = part v (M.iter v p 1) := fun p hp => by
    rw [List.getD_eq_getElem?_getD, List.getElem?_append_left (by omega), ← List.getD_eq_getElem?_getD]
    simp [subs, M.places, List.getD_eq_getElem?_getD, ← hn, hp]
  have sN : (subs v 0 ++ [x]).getD n [] = x := by
    rw [List.getD_eq_getElem?_getD, List.getElem?_append_right (by omega), hsl]; simp
  have hpl : ∀ p, p < n → M.iter v p 1 < v.length := fun p hp => by have h5 := hin p (by omega); omega
  have hnl : (keysAt v 0 ++ [key]).length = n + 1 := by simp [hkl]
  rw [ob_of, hnl]
  have hpw := St.stand_pw (keysAt v 0 ++ [key]) (n + 1)
  have hmem := St.stand_mem (keysAt v 0 ++ [key]) (n + 1)
  generalize hI : St.stand (keysAt v 0 ++ [key]) (n + 1) = I at *
  have hval : ∀ p ∈ I, M.valueFault ((subs v 0 ++ [x]).getD p []) = 0 := fun p hp => by
    have h1 := ((hmem p).1 hp).1
    by_cases e : p < n
    · rw [sA p e]; exact part_valid hv (hpl p e)
    · rw [show p = n by omega, sN]; exact hx
  refine ⟨?_, fun k hne => ?_, ob_kind⟩
  · rw [ob_get hval (p := n) ((hmem n).2 ⟨by omega, fun q h1 h2 => by omega⟩) (by rw [kN]) hpw, sN]
  · by_cases h : ∃ p, p < n ∧ (v.getD (M.iter v p 1) M.zero).key.toList = k.toList
    · obtain ⟨p, hp, he⟩ := h
      have h6 : (v.getD 0 M.zero).kind = 6 := by
        rcases hk with h0 | h6
        · have := arity_null hv (by rw [h0]; decide) (by rw [h0]; decide); omega
        · exact h6
      have hpI : p ∈ I := (hmem p).2 ⟨by omega, fun q h1 h2 e => by
        unfold St.kl at e
        rw [kA p hp] at e
        by_cases e1 : q < n
        · rw [kA q e1] at e
          have hr := keys_rise2 v hv h6 p q h1 (by omega)
          rw [e, St.bl_irr] at hr; cases hr
        · rw [show q = n by omega, kN] at e
          exact hne (by rw [e, ← he])⟩
      rw [ob_get hval hpI (by rw [kA p hp]; exact he) hpw, sA p hp]
      refine (getV_hit (by omega) (fun j hj => ?_) (by rw [he]; simp)).symm
      rw [beq_eq_false_iff_ne]
      intro e
      have hr := keys_rise2 v hv h6 j p hj (by omega)
      rw [e, ← he, St.bl_irr] at hr; cases hr
    · rw [ob_miss hval (fun p hp e => ?_), getV_none (fun j hj => ?_)]
      · rw [beq_eq_false_iff_ne]
        exact fun e => h ⟨j, by omega, e⟩
      · have h1 := ((hmem p).1 hp).1
        by_cases e1 : p < n
        · rw [kA p e1] at e; exact h ⟨p, e1, e⟩
        · rw [show p = n by omega, kN] at e; exact hne e.symm
/-- What was dropped is not got. -/
theorem drop_get {v : List M.Cl} {key : ByteArray} (hv : M.valueFault v = 0) : getV (dropIn v key) key = [M.zero] ∧ ((dropIn v key).getD 0 M.zero).kind = 6 := by
  have hl := (M.fault_zero hv).1
  obtain ⟨hin, _⟩ := M.places_in hv 0 (by omega)
  simp only [Nat.zero_add] at hin
  unfold dropIn
  have hlen := stayK_length v key (M.arity v 0)
  rw [ob_of]
  refine ⟨ob_miss (fun p hp => ?_) (fun p hp e => ?_), ob_kind⟩
  · have h1 := St.stand_lt _ _ _ hp
    have hat := stay_at (v := v) (key := key) (k := M.arity v 0) (i := p) (by omega)
    rw [hat.2.1]
    have h5 := hin _ hat.2.2
    exact part_valid hv (by omega)
  · have h1 := St.stand_lt _ _ _ hp
    have hat := stay_at (v := v) (key := key) (k := M.arity v 0) (i := p) (by omega)
    rw [hat.1] at e
    have hm := at_mem (I := stay v key (M.arity v 0)) (j := p) (by omega)
    unfold stay at hm
    have := (List.mem_filter.1 hm).2
    unfold stay at e
    rw [e] at this
    simp at this
end Mb
end Go.Proofs.Ytfcglmkbfdfaeaa
