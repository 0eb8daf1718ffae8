/-
  What the getters tell, plainly, and what those are told that lay slices of slices by a literal.
  The faults of two values, one behind the other.
-/
import Derived.Test.YthaabakpcokomaaR19
namespace Go.Proofs.Ythaabakpcokomaa
open Go.RowKit
set_option linter.unusedVariables false

theorem code_fields' {c : M.Cl} (h : M.cellCode c = 0) : (c.kind ≠ 3 → c.num = 0) ∧ (c.kind ≠ 4 → c.text.toList = []) ∧ (c.kind ≠ 5 → c.kind ≠ 6 → c.n = 0) := by
  unfold M.cellCode at h
  split at h
  · cases h
  split at h
  · cases h
  rename_i h1
  refine ⟨fun hk => ?_, fun hk => ?_, fun hk hk' => ?_⟩
  · by_cases e : c.num = 0
    · exact e
    · exact absurd (.inl ⟨e, hk⟩) h1
  · by_cases e : c.text.toList = []
    · exact e
    · exact absurd (.inr (.inl ⟨e, hk⟩)) h1
  · by_cases e : c.n = 0
    · exact e
    · exact absurd (.inr (.inr ⟨e, hk, hk'⟩)) h1
/-- The member of a key; null, if there is none. -/
def getV (v : List M.Cl) (key : ByteArray) : List M.Cl := match (List.range (M.arity v 0)).find? (fun j => (v.getD (M.iter v j 1) M.zero).key.toList == key.toList) with
  | some j => part v (M.iter v j 1)
  | none => [M.zero]
def getOut (v : List M.Cl) (key : ByteArray) : Int × List M.Cl := if (v.getD 0 M.zero).kind ≠ 0 ∧ (v.getD 0 M.zero).kind ≠ 6 then (6, []) else (0, getV v key)
theorem getV_hit {v : List M.Cl} {key : ByteArray} {k : Nat} (hk : k < M.arity v 0) (h : ∀ j, j < k → ((v.getD (M.iter v j 1) M.zero).key.toList == key.toList) = false) (hh : ((v.getD (M.iter v k 1) M.zero).key.toList == key.toList) = true) : getV v key = part v (M.iter v k 1) := by
  unfold getV
  rw [List.find?_range_eq_some.2 ⟨hh, List.mem_range.2 hk, fun j hj => by rw [h j hj]; rfl⟩]
theorem get_some {v : List M.Cl} {key : ByteArray} (h : (v.getD 0 M.zero).kind = 0 ∨ (v.getD 0 M.zero).kind = 6) : getOut v key = (0, getV v key) := if_neg fun g => by
  rcases h with h | h
  · exact g.1 h
  · exact g.2 h
theorem arity_null {v : List M.Cl} (hv : M.valueFault v = 0) (h : (v.getD 0 M.zero).kind ≠ 5) (h' : (v.getD 0 M.zero).kind ≠ 6) : M.arity v 0 = 0 := by
  have hl := (M.fault_zero hv).1
  have := (code_fields' (M.first_zero (M.fault_zero hv).2.2.1 _ (getD_mem v 0 (by omega)))).2.2 h h'
  unfold M.arity
  rw [this]
  rfl
/-- The element of a number, from the end on, if it is below 0; null, if there is none. -/
def idxV (v : List M.Cl) (n : Int) : List M.Cl := if n < -(M.arity v 0 : Int) ∨ (M.arity v 0 : Int) ≤ n then [M.zero] else part v (M.iter v (if n < 0 then n + M.arity v 0 else n).toNat 1)
def idxOut (v : List M.Cl) (n : Int) : Int × List M.Cl := if (v.getD 0 M.zero).kind ≠ 0 ∧ (v.getD 0 M.zero).kind ≠ 5 then (6, []) else (0, idxV v n)
theorem idx_some {v : List M.Cl} {n : Int} (h : (v.getD 0 M.zero).kind = 0 ∨ (v.getD 0 M.zero).kind = 5) : idxOut v n = (0, idxV v n) := if_neg fun g => by
  rcases h with h | h
  · exact g.1 h
  · exact g.2 h
theorem idx_pos {v : List M.Cl} {k : Nat} (h2 : k < M.arity v 0) : idxV v k = part v (M.iter v k 1) := by
  unfold idxV; rw [if_neg (by omega), if_neg (by omega), Int.toNat_natCast]
/-- An element of a row of slices. -/
theorem SS.at {w : World} {B : Nat} {v : Value} {ps : List (List M.Cl)} (h : SS w B v ps) {i : Nat} (hi : i < ps.length) : ∃ g cap s, v = .slice (some ⟨g, 0, none⟩) ps.length cap ∧ ps.length ≤ cap ∧ w.cell? ⟨g, i, none⟩ = some s ∧ Res w B s (ps.getD i []) := by
  obtain ⟨ss, hl, ho, hr⟩ := h
  obtain ⟨_, ⟨rfl, h0⟩ | ⟨g, cap, cur, rfl, hg, hh, hnc, hcm, hcs, ht⟩⟩ := ho
  · omega
  · refine ⟨g, cap, ss.getD i (.slice none 0 0), rfl, hnc, ?_, hr i hi⟩
    rw [row_at (base := 0) (cap := 0) hh ht hi, List.getElem?_eq_getElem (by omega), List.getD_eq_getElem?_getD, List.getElem?_eq_getElem (by omega)]
    rfl

theorem LV.two (w : World) (g b off cap b' off' cap' : Nat) (v u : List M.Cl) (t : TypeId) (hg : g = w.heap.size) (hrow : Row w b off v) (hb : b < w.heap.size) (hcap : v.length ≤ cap) (hrow' : Row w b' off' u) (hb' : b' < w.heap.size) (hcap' : u.length ≤ cap') : LV (w.alloc (.cells #[.slice (some ⟨b, off, none⟩) v.length cap, .slice (some ⟨b', off', none⟩) u.length cap'] t)) (some ⟨g, 0, none⟩) [v, u] := by
  subst hg
  intro i hi
  simp only [List.length_cons, List.length_nil] at hi
  by_cases h0 : i = 0
  · subst h0
    exact ⟨w.heap.size, b, off, cap, rfl, by simp, World.cell?_alloc_mark w _ _ (0, 0) 0, hcap, by simp; omega, hrow.below ((Below.refl _ _).alloc (Nat.le_refl _) _) hb⟩
  · obtain rfl : i = 1 := by omega
    exact ⟨w.heap.size, b', off', cap', rfl, by simp, World.cell?_alloc_mark w _ _ (0, 0) 1, hcap', by simp; omega, hrow'.below ((Below.refl _ _).alloc (Nat.le_refl _) _) hb'⟩
end Go.Proofs.Ythaabakpcokomaa

namespace Go.Proofs.Ythaabakpcokomaa
open Go.RowKit
set_option linter.unusedVariables false

end Go.Proofs.Ythaabakpcokomaa
