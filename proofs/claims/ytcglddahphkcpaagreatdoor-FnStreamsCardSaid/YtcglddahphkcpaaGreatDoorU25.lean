/-
  What DropKey tells, plainly: an object without one of its members has no fault.
  Lists of parts that are kept where another list grows.
  The paths of a value and of all in it, plainly. No word of the program is used here.
  The members of an object that was laid: what is got by a key. No word of the program is used here.
-/
import Derived.Test.YtcglddahphkcpaaGreatDoorU17
import Derived.Test.YtcglddahphkcpaaGreatDoorU18
import Derived.Test.YtcglddahphkcpaaGreatDoorU22
import Derived.Maps.AppendAt
namespace Go.Proofs.YtcglddahphkcpaaGreatDoor
open Go.RowKit
set_option linter.unusedVariables false

/-- The keys of an object's members rise. -/
theorem keys_rise (v : List M.Cl) (hv : M.valueFault v = 0) (hk : (v.getD 0 M.zero).kind = 6) : ∀ j, j + 1 < M.arity v 0 → M.keyLe (v.getD (M.iter v (j + 1) 1) M.zero).key (v.getD (M.iter v j 1) M.zero).key = false := by
  have hl := (M.fault_zero hv).1
  obtain ⟨d, hw, _⟩ := (M.fault_zero hv).2.2.2.2
  obtain ⟨f, hf⟩ : ∃ f, v.length = f + 1 := ⟨v.length - 1, by omega⟩
  have hw' := hw
  rw [hf] at hw'
  simp only [M.walk, Option.map_eq_some_iff] at hw'
  obtain ⟨r, h1, _⟩ := hw'
  have key : ∀ m k e d last r, M.kids (M.walk v f) v (v.getD 0 M.zero) m k e d last = some r → e ≤ v.length → d ≤ f → (∀ j, j < m → (0 < k + j → M.keyLe (v.getD (M.iter v j e) M.zero).key (if j = 0 then last else (v.getD (M.iter v (j - 1) e) M.zero).key) = false)) := by
    intro m
    induction m with
    | zero => intro k e d last r _ _ _ j hj; omega
    | succ m ih =>
      intro k e d last r h he hd j hj hkj
      simp only [M.kids] at h
      split at h
      · cases h
      rename_i hb
      have hlt : e < v.length := by
        by_cases hx : e < v.length
        · exact hx
        · exact absurd (show M.bad v (v.getD 0 M.zero) k e last = true by unfold M.bad; rw [if_neg hx]) hb
      split at h
      · cases h
      · rename_i e1 d1 hr
        have hwb := M.walk_bd v f e hlt _ hr
        simp only at hwb
        have he1 : M.endOf v e = e1 := M.endOf_of (by omega) hr
        cases j with
        | zero =>
          rw [if_pos rfl]
          show M.keyLe (v.getD e M.zero).key last = false
          have hb' : M.bad v (v.getD 0 M.zero) k e last = false := by cases hx : M.bad v (v.getD 0 M.zero) k e last with | true => exact absurd hx hb | false => rfl
          unfold M.bad at hb'
          rw [if_pos hlt, Bool.or_eq_false_iff] at hb'
          have h2 := hb'.2
          rw [hk, decide_eq_true rfl, decide_eq_true (show 0 < k by omega)] at h2
          simpa using h2
        | succ j =>
          have := ih (k + 1) e1 (max d d1) _ r h hwb.2.1 (by omega) j (by omega) (by omega)
          rw [if_neg (by omega), Nat.add_sub_cancel]
          have hi : M.iter v (j + 1) e = M.iter v j e1 := by rw [M.iter, he1]
          rw [hi]
          by_cases hj0 : j = 0
          · subst hj0
            rw [if_pos rfl] at this
            exact this
          · rw [if_neg hj0] at this
            have hi2 : M.iter v j e = M.iter v (j - 1) e1 := by
              obtain ⟨i, rfl⟩ : ∃ i, j = i + 1 := ⟨j - 1, by omega⟩
              rw [M.iter, he1]; rfl
            rw [hi2]
            exact this
  intro j hj
  have := key _ 0 1 0 ByteArray.empty r h1 (by omega) (by omega) (j + 1) (by unfold M.arity at hj; omega) (by omega)
  rwa [if_neg (by omega), Nat.add_sub_cancel] at this
theorem keyLe_false {a b : ByteArray} (h : M.keyLe a b = false) : Op.bytesLess b.toList a.toList = true := by
  unfold M.keyLe at h
  rw [Bool.or_eq_false_iff] at h
  rcases St.bl_tri b.toList a.toList with h1 | h1 | h1
  · exact h1
  · have := h.2
    rw [h1] at this
    simp at this
  · rw [h1] at h; cases h.1
theorem keys_rise2 (v : List M.Cl) (hv : M.valueFault v = 0) (hk : (v.getD 0 M.zero).kind = 6) (i j : Nat) (hij : i < j) (hj : j < M.arity v 0) : Op.bytesLess (v.getD (M.iter v i 1) M.zero).key.toList (v.getD (M.iter v j 1) M.zero).key.toList = true := by
  induction j with
  | zero => omega
  | succ j ih =>
    have h1 := keyLe_false (keys_rise v hv hk j hj)
    by_cases e : i = j
    · subst e; exact h1
    · exact St.bl_trans _ _ _ (ih (by omega) (by omega)) h1
/-- Keys that rise stand as they are. -/
theorem stand_rise (ks : List ByteArray) (h : ∀ i j, i < j → j < ks.length → Op.bytesLess (ks.getD i ByteArray.empty).toList (ks.getD j ByteArray.empty).toList = true) (k : Nat) (hk : k ≤ ks.length) : St.stand ks k = List.range k := by
  refine St.pw_ext (ks := ks) _ _ (St.stand_pw ks k) ?_ (fun x => ?_)
  · refine List.Pairwise.imp_of_mem (R := (· < ·)) (fun {a b} ha hb hab => ?_) (List.pairwise_lt_range (n := k))
    exact h a b hab (by have := List.mem_range.1 hb; omega)
  · rw [St.stand_mem, List.mem_range]
    refine ⟨fun g => g.1, fun g => ⟨g, fun q h1 h2 e => ?_⟩⟩
    have := h x q h1 (by omega)
    unfold St.kl at e
    rw [← e, St.bl_irr] at this
    cases this

end Go.Proofs.YtcglddahphkcpaaGreatDoor

namespace Go.Proofs.YtcglddahphkcpaaGreatDoor
open Go.RowKit
set_option linter.unusedVariables false

/-- Two slices lie in unlike blocks. -/
def Apart (s t : Value) : Prop := ∀ g, t.ownBlock = some g → s.ownBlock ≠ some g
theorem row_blt {w : World} {base : Nat} {e : TypeId} {size : Nat} {v : Value} {n : Nat} {xs : List Value} (h : w.ownsRow base e size v n xs) : ∀ g, v.ownBlock = some g → base ≤ g ∧ g < w.heap.size := h.lt

end Go.Proofs.YtcglddahphkcpaaGreatDoor

namespace Go.Proofs.YtcglddahphkcpaaGreatDoor
open Go.RowKit
set_option linter.unusedVariables false
set_option linter.unusedSimpArgs false
namespace Al
/-- The step to the k-th part. -/
def stepAt (obj : Bool) (ks : List ByteArray) (k : Nat) : M.Cl := if obj = true then ⟨4, 0, ks.getD k ByteArray.empty, ByteArray.empty, 0⟩ else ⟨3, (k : Int), ByteArray.empty, ByteArray.empty, 0⟩
/-- The paths of the first k parts and of all in them. -/
def allK (g : List M.Cl → List M.Cl → List (List M.Cl)) (obj : Bool) (ks : List ByteArray) (ps : List (List M.Cl)) (ahead : List M.Cl) : Nat → List (List M.Cl)
  | 0 => []
  | k + 1 => allK g obj ks ps ahead k ++ g (ps.getD k []) (ahead ++ [stepAt obj ks k])
/-- The path of a value, if it is wanted. -/
def own (leaves : Bool) (n : Int) (ahead : List M.Cl) : List (List M.Cl) := if leaves = false ∨ n = 0 then [ahead] else []
/-- The paths of a value and of all in it, behind steps, by fuel. -/
def all (leaves : Bool) : Nat → List M.Cl → List M.Cl → List (List M.Cl)
  | 0, _, _ => []
  | f + 1, v, ahead => own leaves (v.getD 0 M.zero).n ahead ++ allK (all leaves f) (decide ((v.getD 0 M.zero).kind = 6)) (keysAt v 0) (subs v 0) ahead (M.arity v 0)
theorem places_getD (v : List M.Cl) (a k : Nat) (hk : k < M.arity v a) : (M.places v a)[k]? = some (M.iter v k (a + 1)) := by
  simp [M.places, hk]
theorem subs_getD (v : List M.Cl) (a k : Nat) (hk : k < M.arity v a) : (subs v a).getD k [] = part v (M.iter v k (a + 1)) := by
  rw [List.getD_eq_getElem?_getD, subs, List.getElem?_map, places_getD v a k hk]; rfl
theorem keysAt_getD (v : List M.Cl) (a k : Nat) (hk : k < M.arity v a) : (keysAt v a).getD k ByteArray.empty = (v.getD (M.iter v k (a + 1)) M.zero).key := by
  rw [List.getD_eq_getElem?_getD, keysAt, List.getElem?_map, places_getD v a k hk]; rfl
/-- The first k parts lie ahead of the place of the next one. -/
theorem iter_le {v : List M.Cl} (hv : M.valueFault v = 0) {k : Nat} (hk : k ≤ M.arity v 0) : k + 1 ≤ M.iter v k 1 ∧ M.iter v k 1 ≤ v.length := by
  have hl := (M.fault_zero hv).1
  obtain ⟨h1, h2, h3, _⟩ := M.places_in hv 0 (by omega)
  simp only [Nat.zero_add] at h1 h2
  induction k with
  | zero => exact ⟨Nat.le_refl _, by show 1 ≤ _; omega⟩
  | succ k ih =>
    obtain ⟨i1, i2⟩ := ih (by omega)
    have h5 := h1 k (by omega)
    have hg := end_gt hv (a := M.iter v k 1) (by omega)
    rw [M.iter_next]
    exact ⟨by omega, by omega⟩
theorem part_lt {v : List M.Cl} (hv : M.valueFault v = 0) {k : Nat} (hk : k < M.arity v 0) : M.iter v k 1 < v.length ∧ M.iter v k 1 + (part v (M.iter v k 1)).length = M.iter v (k + 1) 1 ∧ M.valueFault (part v (M.iter v k 1)) = 0 := by
  have hl := (M.fault_zero hv).1
  obtain ⟨h1, h2, h3, _⟩ := M.places_in hv 0 (by omega)
  simp only [Nat.zero_add] at h1
  have h5 := h1 k hk
  have hlt : M.iter v k 1 < v.length := by omega
  have hg := end_gt hv hlt
  have hp := part_len hv hlt
  refine ⟨hlt, ?_, part_valid hv hlt⟩
  rw [M.iter_next]
  omega
theorem mem_allK {g : List M.Cl → List M.Cl → List (List M.Cl)} {obj : Bool} {ks : List ByteArray} {ps : List (List M.Cl)} {ahead p : List M.Cl} : ∀ {n : Nat}, p ∈ allK g obj ks ps ahead n → ∃ k, k < n ∧ p ∈ g (ps.getD k []) (ahead ++ [stepAt obj ks k])
  | 0, h => by simp [allK] at h
  | n + 1, h => by
    rw [allK, List.mem_append] at h
    rcases h with h | h
    · obtain ⟨k, hk, h⟩ := mem_allK h
      exact ⟨k, by omega, h⟩
    · exact ⟨n, by omega, h⟩
/-- A step to a part is a step, and gets the part. -/
theorem step_to {v : List M.Cl} (hv : M.valueFault v = 0) {k : Nat} (hk : k < M.arity v 0) : Pth.Stp (stepAt (decide ((v.getD 0 M.zero).kind = 6)) (keysAt v 0) k) ∧ atIn v (stepAt (decide ((v.getD 0 M.zero).kind = 6)) (keysAt v 0) k) = (0, part v (M.iter v k 1)) := by
  have hl := (M.fault_zero hv).2.1
  obtain ⟨p1, _, _⟩ := part_lt hv hk
  have hi := iter_le hv (Nat.le_of_lt hk)
  have hcc := M.first_zero (M.fault_zero hv).2.2.1 _ (getD_mem v (M.iter v k 1) p1)
  have hnull : M.textOk ByteArray.empty = true := by decide
  unfold stepAt
  by_cases h6 : (v.getD 0 M.zero).kind = 6
  · rw [if_pos (by simpa using h6), keysAt_getD v 0 k hk, Nat.zero_add]
    have htk : M.textOk (v.getD (M.iter v k 1) M.zero).key = true := by
      generalize v.getD (M.iter v k 1) M.zero = c at *
      unfold M.cellCode at hcc
      split at hcc
      · cases hcc
      split at hcc
      · cases hcc
      split at hcc
      · cases hcc
      split at hcc
      · rename_i h4; exact h4.2
      · cases hcc
    refine ⟨⟨?_, .inl rfl, htk, by show (-1000000000000000 : Int) ≤ 0; decide, by show (0 : Int) ≤ 1000000000000000; decide⟩, ?_⟩
    · refine (one_valid (c := ⟨4, 0, (v.getD (M.iter v k 1) M.zero).key, ByteArray.empty, 0⟩) ?_ empty_list rfl).1
      unfold M.cellCode
      simp only
      rw [if_neg (by omega), if_neg (by omega), if_neg (by omega), if_pos ⟨htk, hnull⟩]
    · show getOut v (v.getD (M.iter v k 1) M.zero).key = _
      rw [get_some (.inr h6), getV_hit hk (fun j hj => ?_) (by simp)]
      have hr := keys_rise2 v hv h6 j k hj hk
      rw [beq_eq_false_iff_ne]
      intro e
      rw [e, St.bl_irr] at hr
      cases hr
  · rw [if_neg (by simpa using h6)]
    have h5 : (v.getD 0 M.zero).kind = 5 := by
      by_cases h : (v.getD 0 M.zero).kind = 5
      · exact h
      · have := arity_null hv h h6; omega
    refine ⟨⟨?_, .inr rfl, hnull, by show (-1000000000000000 : Int) ≤ (k : Int); omega, by show (k : Int) ≤ 1000000000000000; omega⟩, ?_⟩
    · refine (one_valid (c := ⟨3, (k : Int), ByteArray.empty, ByteArray.empty, 0⟩) ?_ empty_list rfl).1
      unfold M.cellCode
      simp only
      rw [if_neg (by omega), if_neg (by have := empty_list; simp [this]), if_neg (by omega), if_pos ⟨hnull, hnull⟩]
    · show idxOut v (k : Int) = _
      rw [idx_some (.inr h5), idx_pos hk]
end Al
end Go.Proofs.YtcglddahphkcpaaGreatDoor

namespace Go.Proofs.YtcglddahphkcpaaGreatDoor
open Go.RowKit
set_option linter.unusedVariables false
set_option linter.unusedSimpArgs false
namespace Mb
/-- The members at the places I. -/
def mem (ks : List ByteArray) (ps : List (List M.Cl)) (I : List Nat) : List (List M.Cl) := I.map fun p => setKey (ps.getD p []) (ks.getD p ByteArray.empty)
def ob (ks : List ByteArray) (ps : List (List M.Cl)) (I : List Nat) : List M.Cl := headCl 6 I.length :: (mem ks ps I).flatten
theorem ob_of (ks : List ByteArray) (ps : List (List M.Cl)) : objV ks ps = ob ks ps (St.stand ks ks.length) := by
  unfold objV objK memK ob mem
  rw [List.take_length]
theorem set_set (l : List M.Cl) (k k' : ByteArray) : setKey (setKey l k) k' = setKey l k' := by cases l <;> rfl
section
variable {ks : List ByteArray} {ps : List (List M.Cl)} {I : List Nat}
theorem mem_length : (mem ks ps I).length = I.length := by simp [mem]
theorem mem_getD {j : Nat} (hj : j < I.length) : (mem ks ps I).getD j [] = setKey (ps.getD (I.getD j 0) []) (ks.getD (I.getD j 0) ByteArray.empty) := by
  simp [mem, List.getD_eq_getElem?_getD, hj]
theorem at_mem {j : Nat} (hj : j < I.length) : I.getD j 0 ∈ I := by
  rw [List.getD_eq_getElem?_getD, List.getElem?_eq_getElem hj]; exact List.getElem_mem hj
theorem mem_at {p : Nat} (h : p ∈ I) : ∃ j, j < I.length ∧ I.getD j 0 = p := by
  obtain ⟨j, hj, e⟩ := List.getElem_of_mem h
  exact ⟨j, hj, by rw [List.getD_eq_getElem?_getD, List.getElem?_eq_getElem hj]; exact e⟩
theorem ob_arity : M.arity (ob ks ps I) 0 = I.length := by simp [ob, M.arity, headCl]
variable (hv : ∀ p ∈ I, M.valueFault (ps.getD p []) = 0)
include hv
theorem ob_end {j : Nat} (hj : j < I.length) : M.endOf (ob ks ps I) (tot (mem ks ps I) j + 1) = tot (mem ks ps I) (j + 1) + 1 := by
  obtain ⟨h1, h2, _, _, d, hw, _⟩ := M.fault_zero (hv _ (at_mem hj))
  have hjm : j < (mem ks ps I).length := by rw [mem_length]; exact hj
  have hL := made_length (headCl 6 I.length) (mem ks ps I)
  have hts := tot_succ (mem ks ps I) j hjm
  have hm := tot_le (mem ks ps I) (mem ks ps I).length (j + 1) (by omega) (Nat.le_refl _)
  have hlen : ((mem ks ps I).getD j []).length = (ps.getD (I.getD j 0) []).length := by rw [mem_getD hj, setKey_length]
  have hne : ps.getD (I.getD j 0) [] ≠ [] := by intro e; rw [e] at h1; simp at h1
  have hat : ∀ i, i < (ps.getD (I.getD j 0) []).length → (headCl 6 I.length :: (mem ks ps I).flatten).getD (tot (mem ks ps I) j + 1 + i) M.zero = (setKey (ps.getD (I.getD j 0) []) (ks.getD (I.getD j 0) ByteArray.empty)).getD i M.zero := fun i hi => by rw [made_at _ (mem ks ps I) j i hjm (by rw [hlen]; exact hi), mem_getD hj]
  have hs : M.Sub (ps.getD (I.getD j 0) []) (headCl 6 I.length :: (mem ks ps I).flatten) (tot (mem ks ps I) j + 1) (tot (mem ks ps I) (j + 1) + 1) := by
    refine ⟨by omega, by omega, by omega, fun i hi => ?_, fun i hi => ?_, fun i h0 hi => ?_⟩
    · rw [hat i hi]
      by_cases h0 : i = 0
      · subst h0; rw [setKey_zero _ _ hne]
      · rw [setKey_getD _ _ i (by omega)]
    · rw [hat i hi]
      by_cases h0 : i = 0
      · subst h0; rw [setKey_zero _ _ hne]
      · rw [setKey_getD _ _ i (by omega)]
    · rw [hat i hi, setKey_getD _ _ i h0]
  have := M.walk_sup hs _ 0 _ _ (by omega) hw
  rw [Nat.add_zero, show tot (mem ks ps I) j + 1 + (ps.getD (I.getD j 0) []).length = tot (mem ks ps I) (j + 1) + 1 by omega] at this
  exact M.endOf_of (by show _ ≤ (headCl 6 I.length :: (mem ks ps I).flatten).length; omega) this
theorem ob_iter (j : Nat) (hj : j ≤ I.length) : M.iter (ob ks ps I) j 1 = tot (mem ks ps I) j + 1 := by
  induction j with
  | zero => rw [tot_zero]; rfl
  | succ j ih => rw [M.iter_next, ih (by omega), ob_end hv (by omega)]
theorem ob_key {j : Nat} (hj : j < I.length) : ((ob ks ps I).getD (M.iter (ob ks ps I) j 1) M.zero).key = ks.getD (I.getD j 0) ByteArray.empty := by
  have h1 := (M.fault_zero (hv _ (at_mem hj))).1
  have hjm : j < (mem ks ps I).length := by rw [mem_length]; exact hj
  have hlen : ((mem ks ps I).getD j []).length = (ps.getD (I.getD j 0) []).length := by rw [mem_getD hj, setKey_length]
  have hne : ps.getD (I.getD j 0) [] ≠ [] := by intro e; rw [e] at h1; simp at h1
  rw [ob_iter hv j (by omega)]
  have := made_at (headCl 6 I.length) (mem ks ps I) j 0 hjm (by omega)
  rw [Nat.add_zero] at this
  show ((headCl 6 I.length :: (mem ks ps I).flatten).getD (tot (mem ks ps I) j + 1) M.zero).key = _
  rw [this, mem_getD hj, setKey_zero _ _ hne]
theorem ob_part {j : Nat} (hj : j < I.length) : part (ob ks ps I) (M.iter (ob ks ps I) j 1) = ps.getD (I.getD j 0) [] := by
  have hjm : j < (mem ks ps I).length := by rw [mem_length]; exact hj
  have e : cut (ob ks ps I) (tot (mem ks ps I) j + 1) (M.endOf (ob ks ps I) (tot (mem ks ps I) j + 1)) = (mem ks ps I).getD j [] := by
    rw [ob_end hv hj, tot_succ _ j hjm]
    obtain ⟨rest, hr⟩ := flatten_at (mem ks ps I) j hjm
    unfold cut ob
    rw [hr, List.drop_succ_cons, List.append_assoc, List.drop_append_of_le_length (by rw [tot_flatten]; omega), List.drop_of_length_le (by rw [tot_flatten]; omega), List.nil_append]
    rw [show tot (mem ks ps I) j + ((mem ks ps I).getD j []).length + 1 - (tot (mem ks ps I) j + 1) = ((mem ks ps I).getD j []).length by omega]
    exact List.take_left
  rw [ob_iter hv j (by omega)]
  unfold part
  rw [e, mem_getD hj, set_set]
  exact setKey_none (hv _ (at_mem hj))
theorem ob_get {key : ByteArray} {p : Nat} (hp : p ∈ I) (hk : (ks.getD p ByteArray.empty).toList = key.toList) (hpw : I.Pairwise (St.R ks)) : getV (ob ks ps I) key = ps.getD p [] := by
  obtain ⟨j, hj, rfl⟩ := mem_at hp
  rw [getV_hit (k := j) (by rw [ob_arity]; exact hj) (fun i hi => ?_) (by rw [ob_key hv hj, hk]; simp), ob_part hv hj]
  rw [ob_key hv (by omega), beq_eq_false_iff_ne, ← hk]
  have hr := List.pairwise_iff_getElem.1 hpw i j (by omega) hj hi
  have hne := hr.ne
  unfold St.kl at hne
  rw [List.getD_eq_getElem?_getD (l := I), List.getElem?_eq_getElem (by omega), List.getD_eq_getElem?_getD (l := I) (i := j), List.getElem?_eq_getElem hj]
  exact hne
theorem ob_miss {key : ByteArray} (h : ∀ p ∈ I, (ks.getD p ByteArray.empty).toList ≠ key.toList) : getV (ob ks ps I) key = [M.zero] := by
  refine getV_none fun j hj => ?_
  rw [ob_arity] at hj
  rw [ob_key hv hj, beq_eq_false_iff_ne]
  exact h _ (at_mem hj)
end
end Mb
end Go.Proofs.YtcglddahphkcpaaGreatDoor
