/-
  Both CompareValues and both SameValues.
-/
import Derived.Test.YthbiclpifeobkaaQ40
namespace Go.Proofs.Ythbiclpifeobkaa
open Go.RowKit
set_option linter.unusedVariables false

section
variable (A C : List M.Cl) (b off cap b' off' cap' : Nat) (w : World) (hr : Row w b off A) (hb : b < w.heap.size) (hn : A.length ≤ 1048576) (hcap : A.length ≤ cap) (hok : ∀ c ∈ A, c.ok) (hr' : Row w b' off' C) (hb' : b' < w.heap.size) (hn' : C.length ≤ 1048576) (hcap' : C.length ≤ cap') (hok' : ∀ c ∈ C, c.ok)
include hr hb hn hcap hok hr' hb' hn' hcap' hok'

set_option maxHeartbeats 1000000 in
theorem implCompare_any : Calls Try.prog 13 #[.slice (some ⟨b, off, none⟩) A.length cap, .slice (some ⟨b', off', none⟩) C.length cap'] w fun e w' => e = .returned (.int .i64 (cmpOut A C)) ∧ Below w.heap.size w w' := by
  have OK := hide hok
  have OK' := hide hok'
  have HR := hide hr
  have HR' := hide hr'
  clear hok hok' hr hr'
  go_enter Try.func13, Try.ntmps13
  go_wp2_with fail
  refine (implFault_any A b off cap _ (unhide HR) hb hn hcap (unhide OK)).mono ?_
  rintro e1 w1 ⟨rfl, hb1⟩
  by_cases hz : M.valueFault A = 0
  · rw [hz]
    have HV := hide hz
    clear hz
    go_wp2_with fail
    refine (implFault_any C b' off' cap' _ ((unhide HR').below hb1 hb') (Nat.lt_of_lt_of_le hb' hb1.size) hn' hcap' (unhide OK')).mono ?_
    rintro e2 w2 ⟨rfl, hb2⟩
    have B2 : Below w.heap.size w w2 := hb1.trans (hb2.mono hb1.size)
    clear hb1 hb2
    by_cases hz : M.valueFault C = 0
    · rw [hz]
      have HU := hide hz
      clear hz
      have fin := hide ((show cmpOut A C = cmpL A.length A C from if_pos ⟨unhide HV, unhide HU⟩).trans (cmpL_whole (unhide HV) (unhide HU)).symm)
      have h1 := (M.fault_zero (unhide HV)).1
      have h2 := (M.fault_zero (unhide HU)).1
      have h3 := part_len (unhide HV) (show 0 < A.length by omega)
      have h4 := (end_gt (unhide HV) (show 0 < A.length by omega)).2
      go_wp2_with fail
      refine (compareAt_any A C b off cap b' off' cap' A.length (unhide HV) (unhide HU) hcap hcap' 0 0 _ (by omega) (by omega) (by omega) ((unhide HR).below B2 hb) (Nat.lt_of_lt_of_le hb B2.size) ((unhide HR').below B2 hb') (Nat.lt_of_lt_of_le hb' B2.size)).mono ?_
      rintro e3 w3 ⟨rfl, hb3⟩
      have B3 : Below w.heap.size w w3 := B2.trans (hb3.mono B2.size)
      clear hb3 B2 h3 h4
      generalize cmpL A.length (part A 0) (part C 0) = q at *
      go_wp2_with fail
      go_ret
      exact ⟨ret_int (unhide fin).symm, B3⟩
    · have fin := hide (show cmpOut A C = 0 from if_neg (fun g => hz g.2))
      have hz' : (M.valueFault C == 0) = false := by simp [hz]
      generalize M.valueFault C = q at *
      go_wp2_with fail
      go_ret
      exact ⟨ret_int (unhide fin).symm, B2⟩
  · have fin := hide (show cmpOut A C = 0 from if_neg (fun g => hz g.1))
    have hz' : (M.valueFault A == 0) = false := by simp [hz]
    generalize M.valueFault A = q at *
    go_wp2_with fail
    go_ret
    exact ⟨ret_int (unhide fin).symm, hb1⟩

set_option maxHeartbeats 1000000 in
theorem implSame_any : Calls Try.prog 14 #[.slice (some ⟨b, off, none⟩) A.length cap, .slice (some ⟨b', off', none⟩) C.length cap'] w fun e w' => e = .returned (.bool (sameOut A C)) ∧ Below w.heap.size w w' := by
  have OK := hide hok
  have OK' := hide hok'
  have HR := hide hr
  have HR' := hide hr'
  clear hok hok' hr hr'
  go_enter Try.func14, Try.ntmps14
  go_wp2_with fail
  refine (implFault_any A b off cap _ (unhide HR) hb hn hcap (unhide OK)).mono ?_
  rintro e1 w1 ⟨rfl, hb1⟩
  by_cases hz : M.valueFault A = 0
  · rw [hz]
    have HV := hide hz
    clear hz
    go_wp2_with fail
    refine (implFault_any C b' off' cap' _ ((unhide HR').below hb1 hb') (Nat.lt_of_lt_of_le hb' hb1.size) hn' hcap' (unhide OK')).mono ?_
    rintro e2 w2 ⟨rfl, hb2⟩
    have B2 : Below w.heap.size w w2 := hb1.trans (hb2.mono hb1.size)
    clear hb1 hb2
    by_cases hz : M.valueFault C = 0
    · rw [hz]
      have HU := hide hz
      clear hz
      have fin := hide (show sameOut A C = (cmpL A.length (part A 0) (part C 0) == 0) by
        unfold sameOut
        rw [cmpL_whole (unhide HV) (unhide HU), unhide HV, unhide HU]
        by_cases e : cmpL A.length A C = 0
        · rw [e]; rfl
        · simp [e])
      have h1 := (M.fault_zero (unhide HV)).1
      have h2 := (M.fault_zero (unhide HU)).1
      have h3 := part_len (unhide HV) (show 0 < A.length by omega)
      have h4 := (end_gt (unhide HV) (show 0 < A.length by omega)).2
      go_wp2_with fail
      refine (compareAt_any A C b off cap b' off' cap' A.length (unhide HV) (unhide HU) hcap hcap' 0 0 _ (by omega) (by omega) (by omega) ((unhide HR).below B2 hb) (Nat.lt_of_lt_of_le hb B2.size) ((unhide HR').below B2 hb') (Nat.lt_of_lt_of_le hb' B2.size)).mono ?_
      rintro e3 w3 ⟨rfl, hb3⟩
      have B3 : Below w.heap.size w w3 := B2.trans (hb3.mono B2.size)
      clear hb3 B2 h3 h4
      generalize cmpL A.length (part A 0) (part C 0) = q at *
      go_wp2_with fail
      go_ret
      exact ⟨ret_bool (unhide fin).symm, B3⟩
    · have fin := hide (show sameOut A C = false by unfold sameOut; exact decide_eq_false (fun g => hz g.2.1))
      have hz' : (M.valueFault C == 0) = false := by simp [hz]
      generalize M.valueFault C = q at *
      go_wp2_with fail
      go_ret
      exact ⟨ret_bool (unhide fin).symm, B2⟩
  · have fin := hide (show sameOut A C = false by unfold sameOut; exact decide_eq_false (fun g => hz g.1))
    have hz' : (M.valueFault A == 0) = false := by simp [hz]
    generalize M.valueFault A = q at *
    go_wp2_with fail
    go_ret
    exact ⟨ret_bool (unhide fin).symm, hb1⟩
end
end Go.Proofs.Ythbiclpifeobkaa
