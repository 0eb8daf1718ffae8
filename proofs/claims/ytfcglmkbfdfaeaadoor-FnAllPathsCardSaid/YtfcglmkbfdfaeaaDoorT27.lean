/-
  What DropKey tells, plainly: an object without one of its members has no fault.
  Lists of parts that are kept where another list grows.
  DropPath, plainly. No word of the program is used here.
  The paths of a value and of all in it, plainly. No word of the program is used here.
-/
import Derived.Test.YtfcglmkbfdfaeaaDoorT13
import Derived.Test.YtfcglmkbfdfaeaaDoorT14
import Derived.Test.YtfcglmkbfdfaeaaDoorT15
import Derived.Test.YtfcglmkbfdfaeaaDoorT16
import Derived.Test.YtfcglmkbfdfaeaaDoorT17
import Derived.Test.YtfcglmkbfdfaeaaDoorT26
import Derived.Maps.AppendAt
namespace Go.Proofs.YtfcglmkbfdfaeaaDoor
open Go.RowKit
set_option linter.unusedVariables false

/-- The keys of an object's members rise. -/
theorem keys_rise (v : List M.Cl) (hv : M.valueFault v = 0) (hk : (v.getD 0 M.zero).kind = 6) : ∀ j, j + 1 < M.arity v 0 → M.keyLe (v.getD (M.iter v (j + 1) 1) M.zero).key (v.getD (M.iter v j 1) M.zero).key = false := by
  have hl := (M.fault_zero hv).1
  obtain ⟨d, hw, _⟩ := (M.fault_zero hv).2.2.2.2
  obtain ⟨f, hf⟩ : ∃ f, v.length = f + 1 := ⟨v.length - 1, by omega⟩
  have hw' := hw
  rw [hf] at hw'
  simp only [M.walk, Option.map_eq_some_iff] at hw'
  obtain ⟨r, h1, _⟩ := hw'
  have key : ∀ m k e d last r, M.kids (M.walk v f) v (v.getD 0 M.zero) m k e d last = some r → e ≤ v.length → d ≤ f → (∀ j, j < m → (0 < k + j → M.keyLe (v.getD (M.iter v j e) M.zero).key (if j = 0 then last else (v.getD (M.iter v (j - 1) e) M.zero).key) = false)) := by
    intro m
    induction m with
    | zero => intro k e d last r _ _ _ j hj; omega
    | succ m ih =>
      intro k e d last r h he hd j hj hkj
      simp only [M.kids] at h
      split at h
      · cases h
      rename_i hb
      have hlt : e < v.length := by
        by_cases hx : e < v.length
        · exact hx
        · exact absurd (show M.bad v (v.getD 0 M.zero) k e last = true by unfold M.bad; rw [if_neg hx]) hb
      split at h
      · cases h
      · rename_i e1 d1 hr
        have hwb := M.walk_bd v f e hlt _ hr
        simp only at hwb
        have he1 : M.endOf v e = e1 := M.endOf_of (by omega) hr
        cases j with
        | zero =>
          rw [if_pos rfl]
          show M.keyLe (v.getD e M.zero).key last = false
          have hb' : M.bad v (v.getD 0 M.zero) k e last = false := by cases hx : M.bad v (v.getD 0 M.zero) k e last with | true => exact absurd hx hb | false => rfl
          unfold M.bad at hb'
          rw [if_pos hlt, Bool.or_eq_false_iff] at hb'
          have h2 := hb'.2
          rw [hk, decide_eq_true rfl, decide_eq_true (show 0 < k by omega)] at h2
          simpa using h2
        | succ j =>
          have := ih (k + 1) e1 (max d d1) _ r h hwb.2.1 (by omega) j (by omega) (by omega)
          rw [if_neg (by omega), Nat.add_sub_cancel]
          have hi : M.iter v (j + 1) e = M.iter v j e1 := by rw [M.iter, he1]
          rw [hi]
          by_cases hj0 : j = 0
          · subst hj0
            rw [if_pos rfl] at this
            exact this
          · rw [if_neg hj0] at this
            have hi2 : M.iter v j e = M.iter v (j - 1) e1 := by
              obtain ⟨i, rfl⟩ : ∃ i, j = i + 1 := ⟨j - 1, by omega⟩
              rw [M.iter, he1]; rfl
            rw [hi2]
            exact this
  intro j hj
  have := key _ 0 1 0 ByteArray.empty r h1 (by omega) (by omega) (j + 1) (by unfold M.arity at hj; omega) (by omega)
  rwa [if_neg (by omega), Nat.add_sub_cancel] at this
theorem keyLe_false {a b : ByteArray} (h : M.keyLe a b = false) : Op.bytesLess b.toList a.toList = true := by
  unfold M.keyLe at h
  rw [Bool.or_eq_false_iff] at h
  rcases St.bl_tri b.toList a.toList with h1 | h1 | h1
  · exact h1
  · have := h.2
    rw [h1] at this
    simp at this
  · rw [h1] at h; cases h.1
theorem keys_rise2 (v : List M.Cl) (hv : M.valueFault v = 0) (hk : (v.getD 0 M.zero).kind = 6) (i j : Nat) (hij : i < j) (hj : j < M.arity v 0) : Op.bytesLess (v.getD (M.iter v i 1) M.zero).key.toList (v.getD (M.iter v j 1) M.zero).key.toList = true := by
  induction j with
  | zero => omega
  | succ j ih =>
    have h1 := keyLe_false (keys_rise v hv hk j hj)
    by_cases e : i = j
    · subst e; exact h1
    · exact St.bl_trans _ _ _ (ih (by omega) (by omega)) h1
end Go.Proofs.YtfcglmkbfdfaeaaDoor

namespace Go.Proofs.YtfcglmkbfdfaeaaDoor
open Go.RowKit
set_option linter.unusedVariables false

/-- Two slices lie in unlike blocks. -/
def Apart (s t : Value) : Prop := ∀ g, t.ownBlock = some g → s.ownBlock ≠ some g
end Go.Proofs.YtfcglmkbfdfaeaaDoor

namespace Go.Proofs.YtfcglmkbfdfaeaaDoor
open Go.RowKit
set_option linter.unusedVariables false
set_option linter.unusedSimpArgs false
namespace Pth
theorem end_gt {v : List M.Cl} (hv : M.valueFault v = 0) {a : Nat} (ha : a < v.length) : a < M.endOf v a ∧ M.endOf v a ≤ v.length := by
  obtain ⟨d, _, h1, h2, _⟩ := M.endOf_spec hv a ha
  exact ⟨h1, h2⟩
end Pth
end Go.Proofs.YtfcglmkbfdfaeaaDoor

namespace Go.Proofs.YtfcglmkbfdfaeaaDoor
open Go.RowKit
set_option linter.unusedVariables false
set_option linter.unusedSimpArgs false
namespace Al
/-- The step to the k-th part. -/
def stepAt (obj : Bool) (ks : List ByteArray) (k : Nat) : M.Cl := if obj = true then ⟨4, 0, ks.getD k ByteArray.empty, ByteArray.empty, 0⟩ else ⟨3, (k : Int), ByteArray.empty, ByteArray.empty, 0⟩
/-- The paths of the first k parts and of all in them. -/
def allK (g : List M.Cl → List M.Cl → List (List M.Cl)) (obj : Bool) (ks : List ByteArray) (ps : List (List M.Cl)) (ahead : List M.Cl) : Nat → List (List M.Cl)
  | 0 => []
  | k + 1 => allK g obj ks ps ahead k ++ g (ps.getD k []) (ahead ++ [stepAt obj ks k])
/-- The path of a value, if it is wanted. -/
def own (leaves : Bool) (n : Int) (ahead : List M.Cl) : List (List M.Cl) := if leaves = false ∨ n = 0 then [ahead] else []
/-- The paths of a value and of all in it, behind steps, by fuel. -/
def all (leaves : Bool) : Nat → List M.Cl → List M.Cl → List (List M.Cl)
  | 0, _, _ => []
  | f + 1, v, ahead => own leaves (v.getD 0 M.zero).n ahead ++ allK (all leaves f) (decide ((v.getD 0 M.zero).kind = 6)) (keysAt v 0) (subs v 0) ahead (M.arity v 0)
theorem all_part (leaves : Bool) (f : Nat) {v : List M.Cl} (hv : M.valueFault v = 0) {a : Nat} (ha : a < v.length) (ahead : List M.Cl) : all leaves (f + 1) (part v a) ahead = own leaves (v.getD a M.zero).n ahead ++ allK (all leaves f) (decide ((v.getD a M.zero).kind = 6)) (keysAt v a) (subs v a) ahead (M.arity v a) := by
  rw [all, part_zero hv ha, (subs_part hv ha).1, (subs_part hv ha).2, part_arity hv ha]
theorem places_getD (v : List M.Cl) (a k : Nat) (hk : k < M.arity v a) : (M.places v a)[k]? = some (M.iter v k (a + 1)) := by
  simp [M.places, hk]
theorem subs_getD (v : List M.Cl) (a k : Nat) (hk : k < M.arity v a) : (subs v a).getD k [] = part v (M.iter v k (a + 1)) := by
  rw [List.getD_eq_getElem?_getD, subs, List.getElem?_map, places_getD v a k hk]; rfl
theorem keysAt_getD (v : List M.Cl) (a k : Nat) (hk : k < M.arity v a) : (keysAt v a).getD k ByteArray.empty = (v.getD (M.iter v k (a + 1)) M.zero).key := by
  rw [List.getD_eq_getElem?_getD, keysAt, List.getElem?_map, places_getD v a k hk]; rfl
/-- The first k parts lie ahead of the place of the next one. -/
theorem iter_le {v : List M.Cl} (hv : M.valueFault v = 0) {k : Nat} (hk : k ≤ M.arity v 0) : k + 1 ≤ M.iter v k 1 ∧ M.iter v k 1 ≤ v.length := by
  have hl := (M.fault_zero hv).1
  obtain ⟨h1, h2, h3, _⟩ := M.places_in hv 0 (by omega)
  simp only [Nat.zero_add] at h1 h2
  induction k with
  | zero => exact ⟨Nat.le_refl _, by show 1 ≤ _; omega⟩
  | succ k ih =>
    obtain ⟨i1, i2⟩ := ih (by omega)
    have h5 := h1 k (by omega)
    have hg := end_gt hv (a := M.iter v k 1) (by omega)
    rw [M.iter_next]
    exact ⟨by omega, by omega⟩
theorem part_lt {v : List M.Cl} (hv : M.valueFault v = 0) {k : Nat} (hk : k < M.arity v 0) : M.iter v k 1 < v.length ∧ M.iter v k 1 + (part v (M.iter v k 1)).length = M.iter v (k + 1) 1 ∧ M.valueFault (part v (M.iter v k 1)) = 0 := by
  have hl := (M.fault_zero hv).1
  obtain ⟨h1, h2, h3, _⟩ := M.places_in hv 0 (by omega)
  simp only [Nat.zero_add] at h1
  have h5 := h1 k hk
  have hlt : M.iter v k 1 < v.length := by omega
  have hg := end_gt hv hlt
  have hp := part_len hv hlt
  refine ⟨hlt, ?_, part_valid hv hlt⟩
  rw [M.iter_next]
  omega
/-- There are no more paths than cells. -/
theorem all_len (leaves : Bool) : ∀ (f : Nat) (v ahead : List M.Cl), M.valueFault v = 0 → (all leaves f v ahead).length ≤ v.length
  | 0, v, ahead, _ => by simp [all]
  | f + 1, v, ahead, hv => by
    have hl := (M.fault_zero hv).1
    have key : ∀ k, k ≤ M.arity v 0 → (allK (all leaves f) (decide ((v.getD 0 M.zero).kind = 6)) (keysAt v 0) (subs v 0) ahead k).length + 1 ≤ M.iter v k 1 := by
      intro k
      induction k with
      | zero => intro _; exact Nat.le_refl _
      | succ k ih =>
        intro hk
        have i1 := ih (by omega)
        obtain ⟨_, p2, p3⟩ := part_lt hv (show k < M.arity v 0 by omega)
        have h := all_len leaves f (part v (M.iter v k 1)) (ahead ++ [stepAt (decide ((v.getD 0 M.zero).kind = 6)) (keysAt v 0) k]) p3
        rw [allK, List.length_append, subs_getD v 0 k (by omega), Nat.zero_add]
        omega
    have h1 := key _ (Nat.le_refl _)
    have h2 := (iter_le hv (Nat.le_refl (M.arity v 0))).2
    have h3 : (own leaves (v.getD 0 M.zero).n ahead).length ≤ 1 := by unfold own; split <;> simp
    rw [all, List.length_append]
    omega
theorem mem_allK {g : List M.Cl → List M.Cl → List (List M.Cl)} {obj : Bool} {ks : List ByteArray} {ps : List (List M.Cl)} {ahead p : List M.Cl} : ∀ {n : Nat}, p ∈ allK g obj ks ps ahead n → ∃ k, k < n ∧ p ∈ g (ps.getD k []) (ahead ++ [stepAt obj ks k])
  | 0, h => by simp [allK] at h
  | n + 1, h => by
    rw [allK, List.mem_append] at h
    rcases h with h | h
    · obtain ⟨k, hk, h⟩ := mem_allK h
      exact ⟨k, by omega, h⟩
    · exact ⟨n, by omega, h⟩
/-- A step to a part is a step, and gets the part. -/
theorem step_to {v : List M.Cl} (hv : M.valueFault v = 0) {k : Nat} (hk : k < M.arity v 0) : Pth.Stp (stepAt (decide ((v.getD 0 M.zero).kind = 6)) (keysAt v 0) k) ∧ atIn v (stepAt (decide ((v.getD 0 M.zero).kind = 6)) (keysAt v 0) k) = (0, part v (M.iter v k 1)) := by
  have hl := (M.fault_zero hv).2.1
  obtain ⟨p1, _, _⟩ := part_lt hv hk
  have hi := iter_le hv (Nat.le_of_lt hk)
  have hcc := M.first_zero (M.fault_zero hv).2.2.1 _ (getD_mem v (M.iter v k 1) p1)
  have hnull : M.textOk ByteArray.empty = true := by decide
  unfold stepAt
  by_cases h6 : (v.getD 0 M.zero).kind = 6
  · rw [if_pos (by simpa using h6), keysAt_getD v 0 k hk, Nat.zero_add]
    have htk : M.textOk (v.getD (M.iter v k 1) M.zero).key = true := by
      generalize v.getD (M.iter v k 1) M.zero = c at *
      unfold M.cellCode at hcc
      split at hcc
      · cases hcc
      split at hcc
      · cases hcc
      split at hcc
      · cases hcc
      split at hcc
      · rename_i h4; exact h4.2
      · cases hcc
    refine ⟨⟨?_, .inl rfl, htk, by show (-1000000000000000 : Int) ≤ 0; decide, by show (0 : Int) ≤ 1000000000000000; decide⟩, ?_⟩
    · refine (one_valid (c := ⟨4, 0, (v.getD (M.iter v k 1) M.zero).key, ByteArray.empty, 0⟩) ?_ empty_list rfl).1
      unfold M.cellCode
      simp only
      rw [if_neg (by omega), if_neg (by omega), if_neg (by omega), if_pos ⟨htk, hnull⟩]
    · show getOut v (v.getD (M.iter v k 1) M.zero).key = _
      rw [get_some (.inr h6), getV_hit hk (fun j hj => ?_) (by simp)]
      have hr := keys_rise2 v hv h6 j k hj hk
      rw [beq_eq_false_iff_ne]
      intro e
      rw [e, St.bl_irr] at hr
      cases hr
  · rw [if_neg (by simpa using h6)]
    have h5 : (v.getD 0 M.zero).kind = 5 := by
      by_cases h : (v.getD 0 M.zero).kind = 5
      · exact h
      · have := arity_null hv h h6; omega
    refine ⟨⟨?_, .inr rfl, hnull, by show (-1000000000000000 : Int) ≤ (k : Int); omega, by show (k : Int) ≤ 1000000000000000; omega⟩, ?_⟩
    · refine (one_valid (c := ⟨3, (k : Int), ByteArray.empty, ByteArray.empty, 0⟩) ?_ empty_list rfl).1
      unfold M.cellCode
      simp only
      rw [if_neg (by omega), if_neg (by have := empty_list; simp [this]), if_neg (by omega), if_pos ⟨hnull, hnull⟩]
    · show idxOut v (k : Int) = _
      rw [idx_some (.inr h5), idx_pos hk]
/-- What is told of a path: it goes on from the steps ahead, by steps that lead somewhere. -/
structure Leads (v ahead p : List M.Cl) : Prop where
  ex : ∃ q, p = ahead ++ q ∧ (∀ c ∈ q, Pth.Stp c) ∧ q.length + 1 ≤ v.length ∧ ∃ u, Pth.getS v q = (0, u) ∧ M.valueFault u = 0
theorem all_leads (leaves : Bool) : ∀ (f : Nat) (v ahead p : List M.Cl), M.valueFault v = 0 → p ∈ all leaves f v ahead → Leads v ahead p
  | 0, v, ahead, p, _, h => by simp [all] at h
  | f + 1, v, ahead, p, hv, h => by
    have hl := (M.fault_zero hv).1
    rw [all, List.mem_append] at h
    rcases h with h | h
    · have e : p = ahead := by
        unfold own at h
        split at h
        · simpa using h
        · simp at h
      exact ⟨[], by rw [e]; simp, fun c hc => by simp at hc, by simp; omega, v, rfl, hv⟩
    · obtain ⟨k, hk, hm⟩ := mem_allK h
      obtain ⟨p1, p2, p3⟩ := part_lt hv hk
      have hi := iter_le hv (show k + 1 ≤ M.arity v 0 by omega)
      have hi0 := (iter_le hv (Nat.le_of_lt hk)).1
      rw [subs_getD v 0 k hk, Nat.zero_add] at hm
      obtain ⟨q, e, hq, hql, u, hu, huv⟩ := (all_leads leaves f _ _ p p3 hm).ex
      obtain ⟨s1, s2⟩ := step_to hv hk
      refine ⟨stepAt (decide ((v.getD 0 M.zero).kind = 6)) (keysAt v 0) k :: q, by rw [e, List.append_assoc]; rfl, fun c hc => ?_, ?_, u, ?_, huv⟩
      · rcases List.mem_cons.1 hc with hc | hc
        · rw [hc]; exact s1
        · exact hq c hc
      · rw [List.length_cons]; omega
      · rw [Pth.getS, s2]
        simp only [if_true]
        exact hu
end Al
end Go.Proofs.YtfcglmkbfdfaeaaDoor
