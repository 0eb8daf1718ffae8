/-
  What the getters tell, plainly, and what those are told that lay slices of slices by a literal.
  The faults of two values, one behind the other.
-/
import Derived.Test.YtlmibdddfjbbdaaM28
namespace Go.Proofs.Ytlmibdddfjbbdaa
open Go.RowKit
set_option linter.unusedVariables false

/-- An element of a row of slices. -/
theorem SS.at {w : World} {B : Nat} {v : Value} {ps : List (List M.Cl)} (h : SS w B v ps) {i : Nat} (hi : i < ps.length) : ∃ g cap s, v = .slice (some ⟨g, 0, none⟩) ps.length cap ∧ ps.length ≤ cap ∧ w.cell? ⟨g, i, none⟩ = some s ∧ Res w B s (ps.getD i []) := by
  obtain ⟨ss, hl, ho, hr⟩ := h
  obtain ⟨_, ⟨rfl, h0⟩ | ⟨g, cap, cur, rfl, hg, hh, hnc, hcm, hcs, ht⟩⟩ := ho
  · omega
  · refine ⟨g, cap, ss.getD i (.slice none 0 0), rfl, hnc, ?_, hr i hi⟩
    rw [row_at (base := 0) (cap := 0) hh ht hi, List.getElem?_eq_getElem (by omega), List.getD_eq_getElem?_getD, List.getElem?_eq_getElem (by omega)]
    rfl

theorem LV.two (w : World) (g b off cap b' off' cap' : Nat) (v u : List M.Cl) (t : TypeId) (hg : g = w.heap.size) (hrow : Row w b off v) (hb : b < w.heap.size) (hcap : v.length ≤ cap) (hrow' : Row w b' off' u) (hb' : b' < w.heap.size) (hcap' : u.length ≤ cap') : LV (w.alloc (.cells #[.slice (some ⟨b, off, none⟩) v.length cap, .slice (some ⟨b', off', none⟩) u.length cap'] t)) (some ⟨g, 0, none⟩) [v, u] := by
  subst hg
  intro i hi
  simp only [List.length_cons, List.length_nil] at hi
  by_cases h0 : i = 0
  · subst h0
    exact ⟨w.heap.size, b, off, cap, rfl, by simp, World.cell?_alloc_mark w _ _ (0, 0) 0, hcap, by simp; omega, hrow.below ((Below.refl _ _).alloc (Nat.le_refl _) _) hb⟩
  · obtain rfl : i = 1 := by omega
    exact ⟨w.heap.size, b', off', cap', rfl, by simp, World.cell?_alloc_mark w _ _ (0, 0) 1, hcap', by simp; omega, hrow'.below ((Below.refl _ _).alloc (Nat.le_refl _) _) hb'⟩
theorem okS_two {v u : List M.Cl} (h : ∀ c ∈ v, c.ok) (h' : ∀ c ∈ u, c.ok) : OkS [v, u] := by
  intro i hi
  simp only [List.length_cons, List.length_nil] at hi
  by_cases h0 : i = 0
  · subst h0; exact h
  · obtain rfl : i = 1 := by omega
    exact h'
theorem len_two {v u : List M.Cl} (h : v.length ≤ 1048576) (h' : u.length ≤ 1048576) : ∀ j, j < [v, u].length → ([v, u].getD j []).length ≤ 1048576 := by
  intro i hi
  simp only [List.length_cons, List.length_nil] at hi
  by_cases h0 : i = 0
  · subst h0; exact h
  · obtain rfl : i = 1 := by omega
    exact h'
theorem firstBad_one (v : List M.Cl) : firstBad [v] = M.valueFault v := by
  unfold firstBad; split
  · rename_i h; rw [h]; rfl
  · rfl
theorem firstBad_two (v u : List M.Cl) : firstBad [v, u] = if M.valueFault v = 0 then M.valueFault u else M.valueFault v := by
  rw [firstBad, firstBad_one]

end Go.Proofs.Ytlmibdddfjbbdaa

namespace Go.Proofs.Ytlmibdddfjbbdaa
open Go.RowKit
set_option linter.unusedVariables false

def bothOut (v u : List M.Cl) : Int := if M.valueFault v ≠ 0 then M.valueFault v else M.valueFault u
set_option maxHeartbeats 1000000 in
theorem l3Both_any (v : List M.Cl) (b off cap : Nat) (u : List M.Cl) (b' off' cap' : Nat) (w : World) (hrow : Row w b off v) (hb : b < w.heap.size) (hn : v.length ≤ 1048576) (hcap : v.length ≤ cap) (hok : ∀ c ∈ v, c.ok) (hrow' : Row w b' off' u) (hb' : b' < w.heap.size) (hn' : u.length ≤ 1048576) (hcap' : u.length ≤ cap') (hok' : ∀ c ∈ u, c.ok) :
    Calls Try.prog 14 #[.slice (some ⟨b, off, none⟩) v.length cap, .slice (some ⟨b', off', none⟩) u.length cap'] w fun e w' => e = .returned (.int .i64 (bothOut v u)) ∧ Below w.heap.size w w' := by
  have OK := hide hok
  have OK' := hide hok'
  clear hok hok'
  go_enter Try.func14, Try.ntmps14
  go_wp2_with fail
  refine (specFault_any v b off cap _ hrow hb hn hcap (unhide OK)).mono ?_
  rintro e1 w1 ⟨rfl, hb1⟩
  generalize hq : M.valueFault v = q
  by_cases hz : q = 0
  · subst hz
    have fin := hide (show bothOut v u = M.valueFault u by unfold bothOut; rw [if_neg (by simp [hq])])
    clear hq
    go_wp2_with fail
    refine (specFault_any u b' off' cap' _ (hrow'.below hb1 hb') (Nat.lt_of_lt_of_le hb' hb1.size) hn' hcap' (unhide OK')).mono ?_
    rintro e2 w2 ⟨rfl, hb2⟩
    go_wp2_with fail
    go_ret
    exact ⟨ret_int (unhide fin).symm, hb1.trans (hb2.mono hb1.size)⟩
  · have fin := hide (show bothOut v u = q by unfold bothOut; rw [if_pos (by rw [hq]; exact hz), hq])
    have hz' : (q == 0) = false := by simp [hz]
    clear hq
    go_wp2_with fail
    go_ret
    exact ⟨ret_int (unhide fin).symm, hb1⟩
theorem firstBad_both (v u : List M.Cl) : firstBad [v, u] = bothOut v u := by
  rw [firstBad_two]; unfold bothOut
  by_cases h : M.valueFault v = 0
  · rw [if_pos h, if_neg (by simp [h])]
  · rw [if_neg h, if_pos h]
theorem both_zero {v u : List M.Cl} (h : bothOut v u = 0) : M.valueFault v = 0 ∧ M.valueFault u = 0 := by
  unfold bothOut at h
  by_cases h1 : M.valueFault v = 0
  · rw [if_neg (by simp [h1])] at h; exact ⟨h1, h⟩
  · rw [if_pos h1] at h; exact absurd h h1
end Go.Proofs.Ytlmibdddfjbbdaa
