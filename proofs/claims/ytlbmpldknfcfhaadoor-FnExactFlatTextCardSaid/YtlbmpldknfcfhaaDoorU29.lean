/-
  spec.l13SetIndex.
  impl.setSteps by induction on the steps.
  spec.l13Set by induction on the steps.
  impl.SetPath and spec.SetPath, whole.
  The paths of a value and of all in it, plainly. No word of the program is used here.
  Paths as they lie in memory: rows of steps, rows of paths; an append of a row that may be nil.
-/
import Derived.Test.YtlbmpldknfcfhaaDoorU18
import Derived.Test.YtlbmpldknfcfhaaDoorU19
import Derived.Test.YtlbmpldknfcfhaaDoorU21
import Derived.Test.YtlbmpldknfcfhaaDoorU22
import Derived.Test.YtlbmpldknfcfhaaDoorU23
import Derived.Test.YtlbmpldknfcfhaaDoorU27
import Derived.Test.YtlbmpldknfcfhaaDoorU28
import Derived.Laws.OwnMore
namespace Go.Proofs.YtlbmpldknfcfhaaDoor
open Go.RowKit
set_option linter.unusedVariables false
set_option linter.unusedSimpArgs false

/-- The slice from a on holds the steps, each as a list of its own. -/
def Pth.PL (w : World) (a : Option Addr) (cs : List M.Cl) : Prop := cs = [] ∨ ∃ g o, a = some ⟨g, o, none⟩ ∧ g < w.heap.size ∧ ∀ i, i < cs.length → ∃ b off c, w.cell? ⟨g, o + i, none⟩ = some (.slice (some ⟨b, off, none⟩) 1 c) ∧ 1 ≤ c ∧ b < w.heap.size ∧ Row w b off [cs.getD i M.zero]
theorem Pth.PL.below {w w' : World} {B : Nat} {a : Option Addr} {cs : List M.Cl} (h : Pth.PL w a cs) (hb : Below w.heap.size w w') : Pth.PL w' a cs := by
  rcases h with h | ⟨g, o, rfl, h1, h2⟩
  · exact .inl h
  · refine .inr ⟨g, o, rfl, Nat.lt_of_lt_of_le h1 hb.size, fun i hi => ?_⟩
    obtain ⟨b, off, c, q1, q2, q3, q4⟩ := h2 i hi
    exact ⟨b, off, c, (hb.cell h1).trans q1, q2, Nat.lt_of_lt_of_le q3 hb.size, q4.below hb q3⟩
end Go.Proofs.YtlbmpldknfcfhaaDoor

namespace Go.Proofs.YtlbmpldknfcfhaaDoor
open Go.RowKit
set_option linter.unusedVariables false
set_option linter.unusedSimpArgs false

end Go.Proofs.YtlbmpldknfcfhaaDoor

namespace Go.Proofs.YtlbmpldknfcfhaaDoor
open Go.RowKit
set_option linter.unusedVariables false
set_option linter.unusedSimpArgs false

end Go.Proofs.YtlbmpldknfcfhaaDoor

namespace Go.Proofs.YtlbmpldknfcfhaaDoor
open Go.RowKit
set_option linter.unusedVariables false
set_option linter.unusedSimpArgs false

end Go.Proofs.YtlbmpldknfcfhaaDoor

namespace Go.Proofs.YtlbmpldknfcfhaaDoor
open Go.RowKit
set_option linter.unusedVariables false
set_option linter.unusedSimpArgs false
namespace Al
/-- The step to the k-th part. -/
def stepAt (obj : Bool) (ks : List ByteArray) (k : Nat) : M.Cl := if obj = true then ⟨4, 0, ks.getD k ByteArray.empty, ByteArray.empty, 0⟩ else ⟨3, (k : Int), ByteArray.empty, ByteArray.empty, 0⟩
/-- The paths of the first k parts and of all in them. -/
def allK (g : List M.Cl → List M.Cl → List (List M.Cl)) (obj : Bool) (ks : List ByteArray) (ps : List (List M.Cl)) (ahead : List M.Cl) : Nat → List (List M.Cl)
  | 0 => []
  | k + 1 => allK g obj ks ps ahead k ++ g (ps.getD k []) (ahead ++ [stepAt obj ks k])
/-- The path of a value, if it is wanted. -/
def own (leaves : Bool) (n : Int) (ahead : List M.Cl) : List (List M.Cl) := if leaves = false ∨ n = 0 then [ahead] else []
/-- The paths of a value and of all in it, behind steps, by fuel. -/
def all (leaves : Bool) : Nat → List M.Cl → List M.Cl → List (List M.Cl)
  | 0, _, _ => []
  | f + 1, v, ahead => own leaves (v.getD 0 M.zero).n ahead ++ allK (all leaves f) (decide ((v.getD 0 M.zero).kind = 6)) (keysAt v 0) (subs v 0) ahead (M.arity v 0)
theorem all_part (leaves : Bool) (f : Nat) {v : List M.Cl} (hv : M.valueFault v = 0) {a : Nat} (ha : a < v.length) (ahead : List M.Cl) : all leaves (f + 1) (part v a) ahead = own leaves (v.getD a M.zero).n ahead ++ allK (all leaves f) (decide ((v.getD a M.zero).kind = 6)) (keysAt v a) (subs v a) ahead (M.arity v a) := by
  rw [all, part_zero hv ha, (subs_part hv ha).1, (subs_part hv ha).2, part_arity hv ha]
theorem places_getD (v : List M.Cl) (a k : Nat) (hk : k < M.arity v a) : (M.places v a)[k]? = some (M.iter v k (a + 1)) := by
  simp [M.places, hk]
theorem subs_getD (v : List M.Cl) (a k : Nat) (hk : k < M.arity v a) : (subs v a).getD k [] = part v (M.iter v k (a + 1)) := by
  rw [List.getD_eq_getElem?_getD, subs, List.getElem?_map, places_getD v a k hk]; rfl
theorem keysAt_getD (v : List M.Cl) (a k : Nat) (hk : k < M.arity v a) : (keysAt v a).getD k ByteArray.empty = (v.getD (M.iter v k (a + 1)) M.zero).key := by
  rw [List.getD_eq_getElem?_getD, keysAt, List.getElem?_map, places_getD v a k hk]; rfl
/-- The first k parts lie ahead of the place of the next one. -/
theorem iter_le {v : List M.Cl} (hv : M.valueFault v = 0) {k : Nat} (hk : k ≤ M.arity v 0) : k + 1 ≤ M.iter v k 1 ∧ M.iter v k 1 ≤ v.length := by
  have hl := (M.fault_zero hv).1
  obtain ⟨h1, h2, h3, _⟩ := M.places_in hv 0 (by omega)
  simp only [Nat.zero_add] at h1 h2
  induction k with
  | zero => exact ⟨Nat.le_refl _, by show 1 ≤ _; omega⟩
  | succ k ih =>
    obtain ⟨i1, i2⟩ := ih (by omega)
    have h5 := h1 k (by omega)
    have hg := end_gt hv (a := M.iter v k 1) (by omega)
    rw [M.iter_next]
    exact ⟨by omega, by omega⟩
theorem part_lt {v : List M.Cl} (hv : M.valueFault v = 0) {k : Nat} (hk : k < M.arity v 0) : M.iter v k 1 < v.length ∧ M.iter v k 1 + (part v (M.iter v k 1)).length = M.iter v (k + 1) 1 ∧ M.valueFault (part v (M.iter v k 1)) = 0 := by
  have hl := (M.fault_zero hv).1
  obtain ⟨h1, h2, h3, _⟩ := M.places_in hv 0 (by omega)
  simp only [Nat.zero_add] at h1
  have h5 := h1 k hk
  have hlt : M.iter v k 1 < v.length := by omega
  have hg := end_gt hv hlt
  have hp := part_len hv hlt
  refine ⟨hlt, ?_, part_valid hv hlt⟩
  rw [M.iter_next]
  omega
/-- There are no more paths than cells. -/
theorem all_len (leaves : Bool) : ∀ (f : Nat) (v ahead : List M.Cl), M.valueFault v = 0 → (all leaves f v ahead).length ≤ v.length
  | 0, v, ahead, _ => by simp [all]
  | f + 1, v, ahead, hv => by
    have hl := (M.fault_zero hv).1
    have key : ∀ k, k ≤ M.arity v 0 → (allK (all leaves f) (decide ((v.getD 0 M.zero).kind = 6)) (keysAt v 0) (subs v 0) ahead k).length + 1 ≤ M.iter v k 1 := by
      intro k
      induction k with
      | zero => intro _; exact Nat.le_refl _
      | succ k ih =>
        intro hk
        have i1 := ih (by omega)
        obtain ⟨_, p2, p3⟩ := part_lt hv (show k < M.arity v 0 by omega)
        have h := all_len leaves f (part v (M.iter v k 1)) (ahead ++ [stepAt (decide ((v.getD 0 M.zero).kind = 6)) (keysAt v 0) k]) p3
        rw [allK, List.length_append, subs_getD v 0 k (by omega), Nat.zero_add]
        omega
    have h1 := key _ (Nat.le_refl _)
    have h2 := (iter_le hv (Nat.le_refl (M.arity v 0))).2
    have h3 : (own leaves (v.getD 0 M.zero).n ahead).length ≤ 1 := by unfold own; split <;> simp
    rw [all, List.length_append]
    omega
theorem mem_allK {g : List M.Cl → List M.Cl → List (List M.Cl)} {obj : Bool} {ks : List ByteArray} {ps : List (List M.Cl)} {ahead p : List M.Cl} : ∀ {n : Nat}, p ∈ allK g obj ks ps ahead n → ∃ k, k < n ∧ p ∈ g (ps.getD k []) (ahead ++ [stepAt obj ks k])
  | 0, h => by simp [allK] at h
  | n + 1, h => by
    rw [allK, List.mem_append] at h
    rcases h with h | h
    · obtain ⟨k, hk, h⟩ := mem_allK h
      exact ⟨k, by omega, h⟩
    · exact ⟨n, by omega, h⟩
/-- A step to a part is a step, and gets the part. -/
theorem step_to {v : List M.Cl} (hv : M.valueFault v = 0) {k : Nat} (hk : k < M.arity v 0) : Pth.Stp (stepAt (decide ((v.getD 0 M.zero).kind = 6)) (keysAt v 0) k) ∧ atIn v (stepAt (decide ((v.getD 0 M.zero).kind = 6)) (keysAt v 0) k) = (0, part v (M.iter v k 1)) := by
  have hl := (M.fault_zero hv).2.1
  obtain ⟨p1, _, _⟩ := part_lt hv hk
  have hi := iter_le hv (Nat.le_of_lt hk)
  have hcc := M.first_zero (M.fault_zero hv).2.2.1 _ (getD_mem v (M.iter v k 1) p1)
  have hnull : M.textOk ByteArray.empty = true := by decide
  unfold stepAt
  by_cases h6 : (v.getD 0 M.zero).kind = 6
  · rw [if_pos (by simpa using h6), keysAt_getD v 0 k hk, Nat.zero_add]
    have htk : M.textOk (v.getD (M.iter v k 1) M.zero).key = true := by
      generalize v.getD (M.iter v k 1) M.zero = c at *
      unfold M.cellCode at hcc
      split at hcc
      · cases hcc
      split at hcc
      · cases hcc
      split at hcc
      · cases hcc
      split at hcc
      · rename_i h4; exact h4.2
      · cases hcc
    refine ⟨⟨?_, .inl rfl, htk, by show (-1000000000000000 : Int) ≤ 0; decide, by show (0 : Int) ≤ 1000000000000000; decide⟩, ?_⟩
    · refine (one_valid (c := ⟨4, 0, (v.getD (M.iter v k 1) M.zero).key, ByteArray.empty, 0⟩) ?_ empty_list rfl).1
      unfold M.cellCode
      simp only
      rw [if_neg (by omega), if_neg (by omega), if_neg (by omega), if_pos ⟨htk, hnull⟩]
    · show getOut v (v.getD (M.iter v k 1) M.zero).key = _
      rw [get_some (.inr h6), getV_hit hk (fun j hj => ?_) (by simp)]
      have hr := keys_rise2 v hv h6 j k hj hk
      rw [beq_eq_false_iff_ne]
      intro e
      rw [e, St.bl_irr] at hr
      cases hr
  · rw [if_neg (by simpa using h6)]
    have h5 : (v.getD 0 M.zero).kind = 5 := by
      by_cases h : (v.getD 0 M.zero).kind = 5
      · exact h
      · have := arity_null hv h h6; omega
    refine ⟨⟨?_, .inr rfl, hnull, by show (-1000000000000000 : Int) ≤ (k : Int); omega, by show (k : Int) ≤ 1000000000000000; omega⟩, ?_⟩
    · refine (one_valid (c := ⟨3, (k : Int), ByteArray.empty, ByteArray.empty, 0⟩) ?_ empty_list rfl).1
      unfold M.cellCode
      simp only
      rw [if_neg (by omega), if_neg (by have := empty_list; simp [this]), if_neg (by omega), if_pos ⟨hnull, hnull⟩]
    · show idxOut v (k : Int) = _
      rw [idx_some (.inr h5), idx_pos hk]
/-- What is told of a path: it goes on from the steps ahead, by steps that lead somewhere. -/
structure Leads (v ahead p : List M.Cl) : Prop where
  ex : ∃ q, p = ahead ++ q ∧ (∀ c ∈ q, Pth.Stp c) ∧ q.length + 1 ≤ v.length ∧ ∃ u, Pth.getS v q = (0, u) ∧ M.valueFault u = 0
theorem all_leads (leaves : Bool) : ∀ (f : Nat) (v ahead p : List M.Cl), M.valueFault v = 0 → p ∈ all leaves f v ahead → Leads v ahead p
  | 0, v, ahead, p, _, h => by simp [all] at h
  | f + 1, v, ahead, p, hv, h => by
    have hl := (M.fault_zero hv).1
    rw [all, List.mem_append] at h
    rcases h with h | h
    · have e : p = ahead := by
        unfold own at h
        split at h
        · simpa using h
        · simp at h
      exact ⟨[], by rw [e]; simp, fun c hc => by simp at hc, by simp; omega, v, rfl, hv⟩
    · obtain ⟨k, hk, hm⟩ := mem_allK h
      obtain ⟨p1, p2, p3⟩ := part_lt hv hk
      have hi := iter_le hv (show k + 1 ≤ M.arity v 0 by omega)
      have hi0 := (iter_le hv (Nat.le_of_lt hk)).1
      rw [subs_getD v 0 k hk, Nat.zero_add] at hm
      obtain ⟨q, e, hq, hql, u, hu, huv⟩ := (all_leads leaves f _ _ p p3 hm).ex
      obtain ⟨s1, s2⟩ := step_to hv hk
      refine ⟨stepAt (decide ((v.getD 0 M.zero).kind = 6)) (keysAt v 0) k :: q, by rw [e, List.append_assoc]; rfl, fun c hc => ?_, ?_, u, ?_, huv⟩
      · rcases List.mem_cons.1 hc with hc | hc
        · rw [hc]; exact s1
        · exact hq c hc
      · rw [List.length_cons]; omega
      · rw [Pth.getS, s2]
        simp only [if_true]
        exact hu
end Al
end Go.Proofs.YtlbmpldknfcfhaaDoor

namespace Go.Proofs.YtlbmpldknfcfhaaDoor
open Go.RowKit
set_option linter.unusedVariables false
set_option linter.unusedSimpArgs false
namespace Al
/-- Blocks of cells, of slices of cells and of texts are kept. -/
def Kq (w w' : World) : Prop := ∀ (k : Nat) (c : Array Value) (t : TypeId), w.heap[k]? = some (Obj.cells c t (0, 0)) → (t = 27 ∨ t = 44 ∨ t = 9) → w'.heap[k]? = w.heap[k]?
theorem Kq.ofBelow {w w' : World} (h : Below w.heap.size w w') : Kq w w' := fun k c t h1 _ => h.block k (Array.getElem?_eq_some_iff.1 h1).1
theorem Kq.own {w w' : World} (h : Kq w w') {b : Nat} {t : TypeId} {xs : List Value} (ho : Own w b t xs) (ht : t = 27 ∨ t = 44 ∨ t = 9) : Own w' b t xs := by
  obtain ⟨c, h1, h2⟩ := ho
  exact ⟨c, (h b c t h1 ht).trans h1, h2⟩
theorem Kq.ownG {w w' : World} (h : Kq w w') {b : Nat} {l : List M.Cl} (ho : OwnG w b 44 l) : OwnG w' b 44 l := by
  obtain ⟨xs, h1, h2⟩ := ho
  exact ⟨xs, h.own h1 (.inr (.inl rfl)), h2⟩
theorem Kq.grown {w w' : World} {B size n : Nat} {e : TypeId} {v : Value} {xs : List Value} (ho : w.ownsRow B e size v n xs) (h1 : e ≠ 27) (h2 : e ≠ 44) (hs : e ≠ 9) (hg : w.grownBy w' v.ownBlock) : Kq w w' := fun k c t h3 ht => by
  refine hg.block k (Array.getElem?_eq_some_iff.1 h3).1 (Ne.symm (other_block ho (b := k) (t := t) (ys := c.toList) ⟨c, h3, rfl⟩ ?_))
  rcases ht with ht | ht | ht
  · rw [ht]; exact h1
  · rw [ht]; exact h2
  · rw [ht]; exact hs
theorem Kq.row {w w' : World} (h : Kq w w') {B n s : Nat} {t : TypeId} {v : Value} {xs : List Value} (ho : w.ownsRow B t s v n xs) (ht : t = 27 ∨ t = 44 ∨ t = 9) : w'.ownsRow B t s v n xs := by
  obtain ⟨h1, ⟨h2, h3⟩ | ⟨g, cap, cur, h4, hg, hh, h5⟩⟩ := ho
  · exact ⟨h1, .inl ⟨h2, h3⟩⟩
  · exact ⟨h1, .inr ⟨g, cap, cur, h4, hg, (h g cur t hh ht).trans hh, h5⟩⟩
theorem Kq.res {w w' : World} (h : Kq w w') {B : Nat} {s : Value} {l : List M.Cl} (hr : Res w B s l) : Res w' B s l := by
  obtain ⟨hn, h1 | ⟨b, cap, h1, h2, h3, h4⟩⟩ := hr
  · exact ⟨hn, .inl h1⟩
  · exact ⟨hn, .inr ⟨b, cap, h1, h2, h3, h.ownG h4⟩⟩
theorem Kq.ss {w w' : World} (h : Kq w w') {B : Nat} {s : Value} {ps : List (List M.Cl)} (hs : SS w B s ps) : SS w' B s ps := by
  obtain ⟨ss, h1, h2, h3⟩ := hs
  exact ⟨ss, h1, h.row h2 (.inl rfl), fun i hi => h.res (h3 i hi)⟩
theorem Kq.ks {w w' : World} (h : Kq w w') {B : Nat} {s : Value} {ks : List ByteArray} (hs : KS w B s ks) : KS w' B s ks := h.row hs (.inr (.inr rfl))
/-- Slices of one cell each. -/
def Sl (w : World) (vs : List Value) (cs : List M.Cl) : Prop := vs.length = cs.length ∧ ∀ i, i < cs.length → ∃ b cap, vs[i]? = some (.slice (some ⟨b, 0, none⟩) 1 cap) ∧ 1 ≤ cap ∧ OwnG w b 44 [cs.getD i M.zero]
theorem Sl.keep {w w' : World} {vs : List Value} {cs : List M.Cl} (h : Sl w vs cs) (hk : Kq w w') : Sl w' vs cs := ⟨h.1, fun i hi => by
  obtain ⟨b, cap, h1, h2, h3⟩ := h.2 i hi
  exact ⟨b, cap, h1, h2, hk.ownG h3⟩⟩
theorem Sl.snoc {w : World} {vs : List Value} {cs : List M.Cl} (h : Sl w vs cs) {c : M.Cl} {b cap : Nat} (hc : 1 ≤ cap) (ho : OwnG w b 44 [c]) : Sl w (vs ++ [.slice (some ⟨b, 0, none⟩) 1 cap]) (cs ++ [c]) := by
  obtain ⟨h1, h2⟩ := h
  refine ⟨by simp [h1], fun i hi => ?_⟩
  by_cases e : i < cs.length
  · obtain ⟨b', cap', q1, q2, q3⟩ := h2 i e
    exact ⟨b', cap', by rw [List.getElem?_append_left (by omega)]; exact q1, q2, by rw [List.getD_eq_getElem?_getD, List.getElem?_append_left e, ← List.getD_eq_getElem?_getD]; exact q3⟩
  · have hi' : i = cs.length := by simp at hi; omega
    subst hi'
    exact ⟨b, cap, by rw [← h1]; simp, hc, by rw [List.getD_eq_getElem?_getD]; simpa using ho⟩
theorem Sl.plain {w : World} {vs : List Value} {cs : List M.Cl} (h : Sl w vs cs) : ∀ u ∈ vs, u.oneCell' = true := by
  intro u hu
  obtain ⟨i, hi, rfl⟩ := List.getElem_of_mem hu
  obtain ⟨b, cap, q1, _⟩ := h.2 i (by rw [← h.1]; exact hi)
  rw [List.getElem?_eq_getElem hi, Option.some.injEq] at q1
  rw [q1]; rfl
/-- A slice that holds steps, each as a list of its own. -/
def PT (w : World) (a : Option Addr) (cs : List M.Cl) : Prop := ∃ vs, Sl w vs cs ∧ (cs = [] ∨ ∃ g o c, a = some ⟨g, o, none⟩ ∧ w.heap[g]? = some (.cells c 27 (0, 0)) ∧ ∀ i, i < cs.length → c.toList[o + i]? = vs[i]?)
theorem PT.keep {w w' : World} {a : Option Addr} {cs : List M.Cl} (h : PT w a cs) (hk : Kq w w') : PT w' a cs := by
  obtain ⟨vs, h1, h2 | ⟨g, o, c, h3, h4, h5⟩⟩ := h
  · exact ⟨vs, h1.keep hk, .inl h2⟩
  · exact ⟨vs, h1.keep hk, .inr ⟨g, o, c, h3, (hk g c _ h4 (.inl rfl)).trans h4, h5⟩⟩
theorem PT.nil (w : World) (a : Option Addr) : PT w a [] := ⟨[], ⟨rfl, fun i hi => by simp at hi⟩, .inl rfl⟩
theorem cell_in {w : World} {g o : Nat} {c : Array Value} {t : TypeId} (h : w.heap[g]? = some (.cells c t (0, 0))) : w.cell? ⟨g, o, none⟩ = c.toList[o]? := Own.cell (xs := c.toList) ⟨c, h, rfl⟩ o
theorem PT.pl {w : World} {a : Option Addr} {cs : List M.Cl} (h : PT w a cs) : Pth.PL w a cs := by
  obtain ⟨vs, h1, h2 | ⟨g, o, c, h3, h4, h5⟩⟩ := h
  · exact .inl h2
  · refine .inr ⟨g, o, h3, (Array.getElem?_eq_some_iff.1 h4).1, fun i hi => ?_⟩
    obtain ⟨b, cap, q1, q2, q3⟩ := h1.2 i hi
    exact ⟨b, 0, cap, by rw [cell_in h4, h5 i hi]; exact q1, q2, q3.lt, q3.row⟩
theorem PT.of_own {w : World} {B : Nat} {v : Value} {vs : List Value} {cs : List M.Cl} (ho : w.ownsRow B 27 1 v cs.length vs) (hs : Sl w vs cs) : ∃ a c, v = .slice a cs.length c ∧ cs.length ≤ c ∧ c ≤ 9223372036854775807 ∧ PT w a cs := by
  obtain ⟨h1, ⟨h2, h3⟩ | ⟨g, cap, cur, h2, h3, h4, h5, h6, h7, h8⟩⟩ := ho
  · have : cs = [] := List.length_eq_zero_iff.1 h3
    subst this
    exact ⟨none, 0, h2, Nat.le_refl _, by omega, PT.nil _ _⟩
  · refine ⟨_, cap, h2, h5, by unfold maxLen at h6; omega, vs, hs, .inr ⟨g, 0, cur, rfl, h4, fun i hi => ?_⟩⟩
    rw [Nat.zero_add, ← h8, List.getElem?_take_of_lt (by omega)]
/-- A row of paths. -/
def PPL (w : World) (B : Nat) (s : Value) (L : List (List M.Cl)) : Prop := ∃ xs, w.ownsRow B 50 1 s L.length xs ∧ ∀ i, i < L.length → ∃ pa pc, xs[i]? = some (.slice pa (L.getD i []).length pc) ∧ (L.getD i []).length ≤ pc ∧ pc ≤ 9223372036854775807 ∧ PT w pa (L.getD i [])
theorem PPL.below {w w' : World} {B : Nat} {s : Value} {L : List (List M.Cl)} (h : PPL w B s L) (hb : Below w.heap.size w w') : PPL w' B s L := by
  obtain ⟨xs, h1, h2⟩ := h
  refine ⟨xs, ownsRow_below (B := 0) h1 hb, fun i hi => ?_⟩
  obtain ⟨pa, pc, q1, q2, q3, q4⟩ := h2 i hi
  exact ⟨pa, pc, q1, q2, q3, q4.keep (Kq.ofBelow hb)⟩
theorem PPL.shape {w : World} {B : Nat} {s : Value} {L : List (List M.Cl)} (h : PPL w B s L) : ∃ a k c, s = .slice a k c := by
  obtain ⟨xs, ⟨_, ⟨h2, _⟩ | ⟨g, cap, cur, h2, _⟩⟩, _⟩ := h
  · exact ⟨_, _, _, h2⟩
  · exact ⟨_, _, _, h2⟩
theorem PPL.plain {w : World} {xs : List Value} {L : List (List M.Cl)} (hl : xs.length = L.length) (h2 : ∀ i, i < L.length → ∃ pa pc, xs[i]? = some (.slice pa (L.getD i []).length pc) ∧ (L.getD i []).length ≤ pc ∧ pc ≤ 9223372036854775807 ∧ PT w pa (L.getD i [])) : ∀ u ∈ xs, u.oneCell' = true := by
  intro u hu
  obtain ⟨i, hi, rfl⟩ := List.getElem_of_mem hu
  obtain ⟨pa, pc, q1, _⟩ := h2 i (by omega)
  rw [List.getElem?_eq_getElem hi, Option.some.injEq] at q1
  rw [q1]; rfl
/-- Paths behind paths. -/
theorem PPL.app {w w' : World} {B : Nat} {v' : Value} {L M' : List (List M.Cl)} {xs ys : List Value} (h1 : xs.length = L.length) (h2 : ∀ i, i < L.length → ∃ pa pc, xs[i]? = some (.slice pa (L.getD i []).length pc) ∧ (L.getD i []).length ≤ pc ∧ pc ≤ 9223372036854775807 ∧ PT w pa (L.getD i [])) (h3 : ys.length = M'.length) (h4 : ∀ i, i < M'.length → ∃ pa pc, ys[i]? = some (.slice pa (M'.getD i []).length pc) ∧ (M'.getD i []).length ≤ pc ∧ pc ≤ 9223372036854775807 ∧ PT w pa (M'.getD i [])) (ho : w'.ownsRow B 50 1 v' (L.length + M'.length) (xs ++ ys)) (hk : Kq w w') : PPL w' B v' (L ++ M') := by
  refine ⟨xs ++ ys, by rw [List.length_append]; exact ho, fun i hi => ?_⟩
  by_cases e : i < L.length
  · obtain ⟨pa, pc, q1, q2, q3, q4⟩ := h2 i e
    have eg : (L ++ M').getD i [] = L.getD i [] := by rw [List.getD_eq_getElem?_getD, List.getElem?_append_left e, ← List.getD_eq_getElem?_getD]
    rw [eg]
    exact ⟨pa, pc, by rw [List.getElem?_append_left (by omega)]; exact q1, q2, q3, q4.keep hk⟩
  · rw [List.length_append] at hi
    obtain ⟨pa, pc, q1, q2, q3, q4⟩ := h4 (i - L.length) (by omega)
    have eg : (L ++ M').getD i [] = M'.getD (i - L.length) [] := by rw [List.getD_eq_getElem?_getD, List.getElem?_append_right (by omega), ← List.getD_eq_getElem?_getD]
    rw [eg]
    exact ⟨pa, pc, by rw [List.getElem?_append_right (by omega), h1]; exact q1, q2, q3, q4.keep hk⟩
theorem allK_len (leaves : Bool) (f : Nat) {v : List M.Cl} (hv : M.valueFault v = 0) (ahead : List M.Cl) : ∀ k, k ≤ M.arity v 0 → (allK (all leaves f) (decide ((v.getD 0 M.zero).kind = 6)) (keysAt v 0) (subs v 0) ahead k).length ≤ 200
  | 0, _ => by simp [allK]
  | k + 1, hk => by
    have key : ∀ k, k ≤ M.arity v 0 → (allK (all leaves f) (decide ((v.getD 0 M.zero).kind = 6)) (keysAt v 0) (subs v 0) ahead k).length + 1 ≤ M.iter v k 1 := by
      intro k
      induction k with
      | zero => intro _; exact Nat.le_refl _
      | succ k ih =>
        intro hk
        have i1 := ih (by omega)
        obtain ⟨_, p2, p3⟩ := part_lt hv (show k < M.arity v 0 by omega)
        have h := all_len leaves f (part v (M.iter v k 1)) (ahead ++ [stepAt (decide ((v.getD 0 M.zero).kind = 6)) (keysAt v 0) k]) p3
        rw [allK, List.length_append, subs_getD v 0 k (by omega), Nat.zero_add]
        omega
    have h1 := key (k + 1) hk
    have h2 := (iter_le hv hk).2
    have h3 := (M.fault_zero hv).2.1
    omega
theorem own_len (leaves : Bool) (n : Int) (ahead : List M.Cl) : (own leaves n ahead).length ≤ 1 := by unfold own; split <;> simp
section
variable {P : Program}
/-- An append of a row that lies somewhere, or of nil. -/
theorem run_row (w : World) (t ty e : TypeId) (i : TypeInfo) (z : Value) (bytes : Nat) (ht : P.underlying t = some (.slice e)) (hi : P.info? e = some i) (hz : i.zero = some z) (hsize : i.size = 1) (hby : i.bytes = bytes) (hzs : z.cells.size = 1)
    (base : Nat) (v : Value) (n : Nat) (xs : List Value) (hown : w.ownsRow base e 1 v n xs) (x : Value) (ys : List Value)
    (hx : (x = .slice none 0 0 ∧ ys = []) ∨ ∃ ad c, x = .slice (some ad) ys.length c ∧ ∀ j u, ys[j]? = some u → w.cell? (ad.add j) = some u) (h1 : ∀ u ∈ ys, u.oneCell' = true)
    (h63 : n + ys.length ≤ maxLen) (hbytes : (n + ys.length) * bytes ≤ 140737488355328) (hbase : base ≤ w.heap.size) :
    ∃ v' w', (Builtin.append_ #[t, t] ty #[v, x]).run P w = .ok v' w' ∧ w'.ownsRow base e 1 v' (n + ys.length) (xs ++ ys) ∧ w.grownBy w' v.ownBlock := by
  rcases hx with ⟨rfl, rfl⟩ | ⟨ad, c, rfl, hc⟩
  · exact ⟨v, w, run_append_owned_none (P := P) (w := w) base t ty e i 1 ht hi v n xs hown, by simpa using hown, ⟨rfl, rfl, rfl, Nat.le_refl _, fun _ _ _ => rfl⟩⟩
  · obtain ⟨v', w', hr, h2, h3, _⟩ := run_append_own (P := P) w base t ty e i z 1 bytes ht hi hz hsize hby hzs (by decide) v n xs hown ad ys.length c ys (by simp) hc h1 h63 hbytes hbase
    exact ⟨v', w', hr, h2, h3⟩
theorem wp_row (w : World) {o : Oper} {a : Act} {K : Act → World → Prop} {Q : Exit → Act → World → Prop} (s x : Operand) (t : TypeId) (ho : o.op = .call { callee := .builtin .append, args := #[s, x], argTypes := #[t, t] })
    (e : TypeId) (i : TypeInfo) (z : Value) (bytes : Nat) (ht : P.underlying t = some (.slice e)) (hi : P.info? e = some i) (hz : i.zero = some z) (hsize : i.size = 1) (hby : i.bytes = bytes) (hzs : z.cells.size = 1)
    (base : Nat) (v : Value) (n : Nat) (xs : List Value) (hs : a.eval s = v) (hown : w.ownsRow base e 1 v n xs) (xv : Value) (hxv : a.eval x = xv) (ys : List Value)
    (hx : (xv = .slice none 0 0 ∧ ys = []) ∨ ∃ ad c, xv = .slice (some ad) ys.length c ∧ ∀ j u, ys[j]? = some u → w.cell? (ad.add j) = some u) (h1 : ∀ u ∈ ys, u.oneCell' = true)
    (h63 : n + ys.length ≤ maxLen) (hbytes : (n + ys.length) * bytes ≤ 140737488355328) (hbase : base ≤ w.heap.size)
    (h : ∀ v' w', w'.ownsRow base e 1 v' (n + ys.length) (xs ++ ys) → w.grownBy w' v.ownBlock → K (a.put o.dst v') w') : Oper.wp P o a w K Q := by
  obtain ⟨v', w', hr, h2, h3⟩ := run_row (P := P) w t o.type e i z bytes ht hi hz hsize hby hzs base v n xs hown xv ys hx h1 h63 hbytes hbase
  unfold Oper.wp execOp
  simp only [ho, resolve, invoke, builtin, Sem.run_bind, Sem.run_pure, Result.andThen_ok, List.map_toArray, List.map_cons, List.map_nil, hs, hxv, hr]
  exact h v' w' h2 h3
theorem wpList_row {w : World} {ops : Array Oper} {rest : List Oper} {o : Oper} {a : Act} {Q : Exit → Act → World → Prop} (hgd : o.guard = none) (s x : Operand) (t : TypeId) (ho : o.op = .call { callee := .builtin .append, args := #[s, x], argTypes := #[t, t] })
    (e : TypeId) (i : TypeInfo) (z : Value) (bytes : Nat) (ht : P.underlying t = some (.slice e)) (hi : P.info? e = some i) (hz : i.zero = some z) (hsize : i.size = 1) (hby : i.bytes = bytes) (hzs : z.cells.size = 1)
    (base : Nat) (v : Value) (n : Nat) (xs : List Value) (hs : a.eval s = v) (hown : w.ownsRow base e 1 v n xs) (xv : Value) (hxv : a.eval x = xv) (ys : List Value)
    (hx : (xv = .slice none 0 0 ∧ ys = []) ∨ ∃ ad c, xv = .slice (some ad) ys.length c ∧ ∀ j u, ys[j]? = some u → w.cell? (ad.add j) = some u) (h1 : ∀ u ∈ ys, u.oneCell' = true)
    (h63 : n + ys.length ≤ maxLen) (hbytes : (n + ys.length) * bytes ≤ 140737488355328) (hbase : base ≤ w.heap.size)
    (h : ∀ v' w', w'.ownsRow base e 1 v' (n + ys.length) (xs ++ ys) → w.grownBy w' v.ownBlock → wpList P ops Q rest (a.put o.dst v') w') : wpList P ops Q (o :: rest) a w := by
  refine wpList_plain hgd fun K hK => ?_
  exact wp_row w s x t ho e i z bytes ht hi hz hsize hby hzs base v n xs hs hown xv hxv ys hx h1 h63 hbytes hbase fun v' w' h2 h3 => hK _ _ (h v' w' h2 h3)
end
end Al
end Go.Proofs.YtlbmpldknfcfhaaDoor
