/-
  What the getters tell, plainly, and what those are told that lay slices of slices by a literal.
  The faults of two values, one behind the other.
-/
import Derived.Test.YtlbmpldknfcfhaaDoorU18
namespace Go.Proofs.YtlbmpldknfcfhaaDoor
open Go.RowKit
set_option linter.unusedVariables false

theorem code_fields' {c : M.Cl} (h : M.cellCode c = 0) : (c.kind ≠ 3 → c.num = 0) ∧ (c.kind ≠ 4 → c.text.toList = []) ∧ (c.kind ≠ 5 → c.kind ≠ 6 → c.n = 0) := by
  unfold M.cellCode at h
  split at h
  · cases h
  split at h
  · cases h
  rename_i h1
  refine ⟨fun hk => ?_, fun hk => ?_, fun hk hk' => ?_⟩
  · by_cases e : c.num = 0
    · exact e
    · exact absurd (.inl ⟨e, hk⟩) h1
  · by_cases e : c.text.toList = []
    · exact e
    · exact absurd (.inr (.inl ⟨e, hk⟩)) h1
  · by_cases e : c.n = 0
    · exact e
    · exact absurd (.inr (.inr ⟨e, hk, hk'⟩)) h1
/-- The member of a key; null, if there is none. -/
def getV (v : List M.Cl) (key : ByteArray) : List M.Cl := match (List.range (M.arity v 0)).find? (fun j => (v.getD (M.iter v j 1) M.zero).key.toList == key.toList) with
  | some j => part v (M.iter v j 1)
  | none => [M.zero]
def getOut (v : List M.Cl) (key : ByteArray) : Int × List M.Cl := if (v.getD 0 M.zero).kind ≠ 0 ∧ (v.getD 0 M.zero).kind ≠ 6 then (6, []) else (0, getV v key)
theorem getV_hit {v : List M.Cl} {key : ByteArray} {k : Nat} (hk : k < M.arity v 0) (h : ∀ j, j < k → ((v.getD (M.iter v j 1) M.zero).key.toList == key.toList) = false) (hh : ((v.getD (M.iter v k 1) M.zero).key.toList == key.toList) = true) : getV v key = part v (M.iter v k 1) := by
  unfold getV
  rw [List.find?_range_eq_some.2 ⟨hh, List.mem_range.2 hk, fun j hj => by rw [h j hj]; rfl⟩]
theorem getV_none {v : List M.Cl} {key : ByteArray} (h : ∀ j, j < M.arity v 0 → ((v.getD (M.iter v j 1) M.zero).key.toList == key.toList) = false) : getV v key = [M.zero] := by
  unfold getV
  rw [List.find?_range_eq_none.2 fun j hj => by rw [h j hj]; rfl]
theorem get_kind {v : List M.Cl} {key : ByteArray} (h0 : (v.getD 0 M.zero).kind ≠ 0) (h6 : (v.getD 0 M.zero).kind ≠ 6) : getOut v key = (6, []) := if_pos ⟨h0, h6⟩
theorem get_some {v : List M.Cl} {key : ByteArray} (h : (v.getD 0 M.zero).kind = 0 ∨ (v.getD 0 M.zero).kind = 6) : getOut v key = (0, getV v key) := if_neg fun g => by
  rcases h with h | h
  · exact g.1 h
  · exact g.2 h
theorem arity_null {v : List M.Cl} (hv : M.valueFault v = 0) (h : (v.getD 0 M.zero).kind ≠ 5) (h' : (v.getD 0 M.zero).kind ≠ 6) : M.arity v 0 = 0 := by
  have hl := (M.fault_zero hv).1
  have := (code_fields' (M.first_zero (M.fault_zero hv).2.2.1 _ (getD_mem v 0 (by omega)))).2.2 h h'
  unfold M.arity
  rw [this]
  rfl
theorem get_null {v : List M.Cl} {key : ByteArray} (hv : M.valueFault v = 0) (h : (v.getD 0 M.zero).kind = 0) : getOut v key = (0, [M.zero]) := by
  rw [get_some (.inl h), getV_none]
  intro j hj
  rw [arity_null hv (by rw [h]; decide) (by rw [h]; decide)] at hj
  omega

/-- The element of a number, from the end on, if it is below 0; null, if there is none. -/
def idxV (v : List M.Cl) (n : Int) : List M.Cl := if n < -(M.arity v 0 : Int) ∨ (M.arity v 0 : Int) ≤ n then [M.zero] else part v (M.iter v (if n < 0 then n + M.arity v 0 else n).toNat 1)
def idxOut (v : List M.Cl) (n : Int) : Int × List M.Cl := if (v.getD 0 M.zero).kind ≠ 0 ∧ (v.getD 0 M.zero).kind ≠ 5 then (6, []) else (0, idxV v n)
theorem idx_kind {v : List M.Cl} {n : Int} (h0 : (v.getD 0 M.zero).kind ≠ 0) (h6 : (v.getD 0 M.zero).kind ≠ 5) : idxOut v n = (6, []) := if_pos ⟨h0, h6⟩
theorem idx_some {v : List M.Cl} {n : Int} (h : (v.getD 0 M.zero).kind = 0 ∨ (v.getD 0 M.zero).kind = 5) : idxOut v n = (0, idxV v n) := if_neg fun g => by
  rcases h with h | h
  · exact g.1 h
  · exact g.2 h
theorem idx_out {v : List M.Cl} {n : Int} (h : n < -(M.arity v 0 : Int) ∨ (M.arity v 0 : Int) ≤ n) : idxV v n = [M.zero] := if_pos h
theorem idx_neg {v : List M.Cl} {n : Int} {k : Nat} (h1 : -(M.arity v 0 : Int) ≤ n) (h2 : n < 0) (hk : n + M.arity v 0 = k) : idxV v n = part v (M.iter v k 1) := by
  unfold idxV; rw [if_neg (by omega), if_pos h2, hk, Int.toNat_natCast]
theorem idx_pos {v : List M.Cl} {k : Nat} (h2 : k < M.arity v 0) : idxV v k = part v (M.iter v k 1) := by
  unfold idxV; rw [if_neg (by omega), if_neg (by omega), Int.toNat_natCast]
theorem idx_null {v : List M.Cl} {n : Int} (hv : M.valueFault v = 0) (h : (v.getD 0 M.zero).kind = 0) : idxOut v n = (0, [M.zero]) := by
  rw [idx_some (.inl h), idx_out]
  rw [arity_null hv (by rw [h]; decide) (by rw [h]; decide)]
  omega

def getKeyOut (v : List M.Cl) (key : ByteArray) : Int × List M.Cl := if M.valueFault v ≠ 0 then (M.valueFault v, []) else if M.textOk key = true then getOut v key else (5, [])
theorem gk_bad {v : List M.Cl} {key : ByteArray} (h : M.valueFault v ≠ 0) : getKeyOut v key = (M.valueFault v, []) := if_pos h
theorem gk_text {v : List M.Cl} {key : ByteArray} (h : M.valueFault v = 0) (ht : M.textOk key = false) : getKeyOut v key = (5, []) := by unfold getKeyOut; rw [if_neg (by simp [h]), if_neg (by simp [ht])]
theorem gk_ok {v : List M.Cl} {key : ByteArray} (h : M.valueFault v = 0) (ht : M.textOk key = true) : getKeyOut v key = getOut v key := by unfold getKeyOut; rw [if_neg (by simp [h]), if_pos ht]
def getIdxOut (v : List M.Cl) (n : Int) : Int × List M.Cl := if M.valueFault v ≠ 0 then (M.valueFault v, []) else idxOut v n
theorem gi_bad {v : List M.Cl} {n : Int} (h : M.valueFault v ≠ 0) : getIdxOut v n = (M.valueFault v, []) := if_pos h
theorem gi_ok {v : List M.Cl} {n : Int} (h : M.valueFault v = 0) : getIdxOut v n = idxOut v n := by unfold getIdxOut; rw [if_neg (by simp [h])]

/-- An element of a row of slices. -/
theorem SS.at {w : World} {B : Nat} {v : Value} {ps : List (List M.Cl)} (h : SS w B v ps) {i : Nat} (hi : i < ps.length) : ∃ g cap s, v = .slice (some ⟨g, 0, none⟩) ps.length cap ∧ ps.length ≤ cap ∧ w.cell? ⟨g, i, none⟩ = some s ∧ Res w B s (ps.getD i []) := by
  obtain ⟨ss, hl, ho, hr⟩ := h
  obtain ⟨_, ⟨rfl, h0⟩ | ⟨g, cap, cur, rfl, hg, hh, hnc, hcm, hcs, ht⟩⟩ := ho
  · omega
  · refine ⟨g, cap, ss.getD i (.slice none 0 0), rfl, hnc, ?_, hr i hi⟩
    rw [row_at (base := 0) (cap := 0) hh ht hi, List.getElem?_eq_getElem (by omega), List.getD_eq_getElem?_getD, List.getElem?_eq_getElem (by omega)]
    rfl

theorem LV.one (w : World) (g b off cap : Nat) (v : List M.Cl) (t : TypeId) (hg : g = w.heap.size) (hrow : Row w b off v) (hb : b < w.heap.size) (hcap : v.length ≤ cap) : LV (w.alloc (.cells #[.slice (some ⟨b, off, none⟩) v.length cap] t)) (some ⟨g, 0, none⟩) [v] := by
  subst hg
  intro i hi
  simp only [List.length_cons, List.length_nil] at hi
  obtain rfl : i = 0 := by omega
  exact ⟨w.heap.size, b, off, cap, rfl, by simp, World.cell?_alloc_mark w _ _ (0, 0) 0, hcap, by simp; omega, hrow.below ((Below.refl _ _).alloc (Nat.le_refl _) _) hb⟩
theorem LV.two (w : World) (g b off cap b' off' cap' : Nat) (v u : List M.Cl) (t : TypeId) (hg : g = w.heap.size) (hrow : Row w b off v) (hb : b < w.heap.size) (hcap : v.length ≤ cap) (hrow' : Row w b' off' u) (hb' : b' < w.heap.size) (hcap' : u.length ≤ cap') : LV (w.alloc (.cells #[.slice (some ⟨b, off, none⟩) v.length cap, .slice (some ⟨b', off', none⟩) u.length cap'] t)) (some ⟨g, 0, none⟩) [v, u] := by
  subst hg
  intro i hi
  simp only [List.length_cons, List.length_nil] at hi
  by_cases h0 : i = 0
  · subst h0
    exact ⟨w.heap.size, b, off, cap, rfl, by simp, World.cell?_alloc_mark w _ _ (0, 0) 0, hcap, by simp; omega, hrow.below ((Below.refl _ _).alloc (Nat.le_refl _) _) hb⟩
  · obtain rfl : i = 1 := by omega
    exact ⟨w.heap.size, b', off', cap', rfl, by simp, World.cell?_alloc_mark w _ _ (0, 0) 1, hcap', by simp; omega, hrow'.below ((Below.refl _ _).alloc (Nat.le_refl _) _) hb'⟩
theorem okS_one {v : List M.Cl} (h : ∀ c ∈ v, c.ok) : OkS [v] := by
  intro i hi
  simp only [List.length_cons, List.length_nil] at hi
  obtain rfl : i = 0 := by omega
  exact h
theorem okS_two {v u : List M.Cl} (h : ∀ c ∈ v, c.ok) (h' : ∀ c ∈ u, c.ok) : OkS [v, u] := by
  intro i hi
  simp only [List.length_cons, List.length_nil] at hi
  by_cases h0 : i = 0
  · subst h0; exact h
  · obtain rfl : i = 1 := by omega
    exact h'
theorem len_one {v : List M.Cl} (h : v.length ≤ 1048576) : ∀ j, j < [v].length → ([v].getD j []).length ≤ 1048576 := by
  intro i hi
  simp only [List.length_cons, List.length_nil] at hi
  obtain rfl : i = 0 := by omega
  exact h
theorem len_two {v u : List M.Cl} (h : v.length ≤ 1048576) (h' : u.length ≤ 1048576) : ∀ j, j < [v, u].length → ([v, u].getD j []).length ≤ 1048576 := by
  intro i hi
  simp only [List.length_cons, List.length_nil] at hi
  by_cases h0 : i = 0
  · subst h0; exact h
  · obtain rfl : i = 1 := by omega
    exact h'
theorem firstBad_one (v : List M.Cl) : firstBad [v] = M.valueFault v := by
  unfold firstBad; split
  · rename_i h; rw [h]; rfl
  · rfl
theorem firstBad_two (v u : List M.Cl) : firstBad [v, u] = if M.valueFault v = 0 then M.valueFault u else M.valueFault v := by
  rw [firstBad, firstBad_one]

/-- The fault of the values, and then that of the key. -/
def keyedOut (ps : List (List M.Cl)) (key : ByteArray) : Int := if firstBad ps ≠ 0 then firstBad ps else if M.textOk key = true then 0 else 5

set_option maxHeartbeats 1000000 in
theorem keyedFault_any (key : ByteArray) (a : Option Addr) (cap : Nat) (ps : List (List M.Cl)) (w : World) (hL : LV w a ps) (hcap : ps.length ≤ cap) (hn : ps.length ≤ 1048576) (hln : ∀ j, j < ps.length → (ps.getD j []).length ≤ 1048576) (hok : OkS ps) (hk : key.size ≤ 9223372036854775807) :
    Calls Tryd.prog 94 #[.string key, .slice a ps.length cap] w fun e w' => e = .returned (.int .i64 (keyedOut ps key)) ∧ Below w.heap.size w w' := by
  have H := hide (firstFaultV_any a cap ps w hL hcap hn hln hok)
  have HT := hide (textFits_any key)
  clear hL hok hln
  go_enter Tryd.func94, Tryd.ntmps94
  go_wp2_with fail
  refine (unhide H).mono ?_
  rintro e1 w1 ⟨rfl, hb1⟩
  generalize hq : firstBad ps = q
  by_cases hz : q = 0
  · subst hz
    go_wp2_with fail
    refine ((unhide HT) _ hk).mono ?_
    rintro e2 w2 ⟨rfl, rfl⟩
    have fin := hide (show keyedOut ps key = if M.textOk key = true then 0 else 5 by unfold keyedOut; rw [if_neg (by simp [hq])])
    cases ht : M.textOk key with
    | true =>
      rw [ht] at fin
      clear ht hq
      go_wp2_with fail
      go_ret
      exact ⟨ret_int (unhide fin).symm, hb1⟩
    | false =>
      rw [ht] at fin
      clear ht hq
      go_wp2_with fail
      go_ret
      exact ⟨ret_int (unhide fin).symm, hb1⟩
  · have fin := hide (show keyedOut ps key = q by unfold keyedOut; rw [if_pos (by rw [hq]; exact hz), hq])
    have hz' : (q == 0) = false := by simp [hz]
    clear hq
    go_wp2_with fail
    go_ret
    exact ⟨ret_int (unhide fin).symm, hb1⟩

end Go.Proofs.YtlbmpldknfcfhaaDoor

namespace Go.Proofs.YtlbmpldknfcfhaaDoor
open Go.RowKit
set_option linter.unusedVariables false

def bothOut (v u : List M.Cl) : Int := if M.valueFault v ≠ 0 then M.valueFault v else M.valueFault u
theorem firstBad_both (v u : List M.Cl) : firstBad [v, u] = bothOut v u := by
  rw [firstBad_two]; unfold bothOut
  by_cases h : M.valueFault v = 0
  · rw [if_pos h, if_neg (by simp [h])]
  · rw [if_neg h, if_pos h]
theorem both_zero {v u : List M.Cl} (h : bothOut v u = 0) : M.valueFault v = 0 ∧ M.valueFault u = 0 := by
  unfold bothOut at h
  by_cases h1 : M.valueFault v = 0
  · rw [if_neg (by simp [h1])] at h; exact ⟨h1, h⟩
  · rw [if_pos h1] at h; exact absurd h h1
end Go.Proofs.YtlbmpldknfcfhaaDoor
