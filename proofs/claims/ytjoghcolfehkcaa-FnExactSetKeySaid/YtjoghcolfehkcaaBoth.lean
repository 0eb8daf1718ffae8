/-
  The faults of two values, one behind the other.
-/
import Derived.Test.YtjoghcolfehkcaaGet0
namespace Go.Proofs.Ytjoghcolfehkcaa
open Go.RowKit
set_option linter.unusedVariables false

def bothOut (v u : List M.Cl) : Int := if M.valueFault v ≠ 0 then M.valueFault v else M.valueFault u
set_option maxHeartbeats 1000000 in
theorem l3Both_any (v : List M.Cl) (b off cap : Nat) (u : List M.Cl) (b' off' cap' : Nat) (w : World) (hrow : Row w b off v) (hb : b < w.heap.size) (hn : v.length ≤ 1048576) (hcap : v.length ≤ cap) (hok : ∀ c ∈ v, c.ok) (hrow' : Row w b' off' u) (hb' : b' < w.heap.size) (hn' : u.length ≤ 1048576) (hcap' : u.length ≤ cap') (hok' : ∀ c ∈ u, c.ok) :
    Calls Try.prog 70 #[.slice (some ⟨b, off, none⟩) v.length cap, .slice (some ⟨b', off', none⟩) u.length cap'] w fun e w' => e = .returned (.int .i64 (bothOut v u)) ∧ Below w.heap.size w w' := by
  have OK := hide hok
  have OK' := hide hok'
  clear hok hok'
  go_enter Try.func70, Try.ntmps70
  go_wp2_with fail
  refine (specFault_any v b off cap _ hrow hb hn hcap (unhide OK)).mono ?_
  rintro e1 w1 ⟨rfl, hb1⟩
  generalize hq : M.valueFault v = q
  by_cases hz : q = 0
  · subst hz
    have fin := hide (show bothOut v u = M.valueFault u by unfold bothOut; rw [if_neg (by simp [hq])])
    clear hq
    go_wp2_with fail
    refine (specFault_any u b' off' cap' _ (hrow'.below hb1 hb') (Nat.lt_of_lt_of_le hb' hb1.size) hn' hcap' (unhide OK')).mono ?_
    rintro e2 w2 ⟨rfl, hb2⟩
    go_wp2_with fail
    go_ret
    exact ⟨ret_int (unhide fin).symm, hb1.trans (hb2.mono hb1.size)⟩
  · have fin := hide (show bothOut v u = q by unfold bothOut; rw [if_pos (by rw [hq]; exact hz), hq])
    have hz' : (q == 0) = false := by simp [hz]
    clear hq
    go_wp2_with fail
    go_ret
    exact ⟨ret_int (unhide fin).symm, hb1⟩
theorem firstBad_both (v u : List M.Cl) : firstBad [v, u] = bothOut v u := by
  rw [firstBad_two]; unfold bothOut
  by_cases h : M.valueFault v = 0
  · rw [if_pos h, if_neg (by simp [h])]
  · rw [if_neg h, if_pos h]
theorem both_zero {v u : List M.Cl} (h : bothOut v u = 0) : M.valueFault v = 0 ∧ M.valueFault u = 0 := by
  unfold bothOut at h
  by_cases h1 : M.valueFault v = 0
  · rw [if_neg (by simp [h1])] at h; exact ⟨h1, h⟩
  · rw [if_pos h1] at h; exact absurd h h1
end Go.Proofs.Ytjoghcolfehkcaa
