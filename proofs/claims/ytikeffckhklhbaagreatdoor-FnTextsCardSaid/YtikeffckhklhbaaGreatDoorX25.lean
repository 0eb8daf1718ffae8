/-
  (*scalarReader).numeral: it goes past a number, however great, or tells where it cannot.
-/
import Derived.Test.YtikeffckhklhbaaGreatDoorX04
namespace Go.Proofs.YtikeffckhklhbaaGreatDoor
open Go.RowKit
set_option linter.unusedVariables false

set_option maxHeartbeats 1000000 in
theorem numeralNegZero (b : Nat) (t : TypeId) (s : ByteArray) (k : Nat) (rest : List Value) (w : World) (h : Rd w b t s k rest) (hk : k ≤ s.size) (hs : s.size ≤ 1048576) (hm : J.peek s k = 45) (hk1 : (k + 1) ≤ s.size) (h0 : J.peek s (k + 1) = 48) :
    Calls Tryz.prog 118 #[.pointer (some ⟨b, 0, none⟩)] w fun e w' => e = .returned .nilIface ∧ Rd w' b t s ((k + 1) + 1) rest ∧ Tch w.heap.size b w w' := by
  go_enter Tryz.func118, Tryz.ntmps118
  go_wp2_with fail
  refine (take_yes b t s k 45 rest _ h hs (by decide) hm).mono ?_
  rintro e w1 ⟨rfl, h1, hT⟩
  clear h
  have h := h1
  clear h1
  go_wp2_with fail
  refine (take_yes b t s (k + 1) 48 rest _ h hs (by decide) h0).mono ?_
  rintro e w2 ⟨rfl, h2, hT2⟩
  have hT3 := hT.trans (hT2.mono hT.size)
  clear h hT hT2
  go_wp2_with fail
  go_ret
  exact ⟨rfl, h2, hT3⟩

set_option maxHeartbeats 1000000 in
theorem numeralNegStuck (b : Nat) (t : TypeId) (s : ByteArray) (k : Nat) (rest : List Value) (w : World) (h : Rd w b t s k rest) (hk : k ≤ s.size) (hs : s.size ≤ 1048576) (hm : J.peek s k = 45) (hk1 : (k + 1) ≤ s.size) (h0 : J.peek s (k + 1) ≠ 48) (hd : (decide (48 ≤ J.peek s (k + 1)) && decide (J.peek s (k + 1) ≤ 57)) = false) :
    Calls Tryz.prog 118 #[.pointer (some ⟨b, 0, none⟩)] w fun e w' => e = .returned (.iface 55 (.agg #[.int .i64 5, .int .i64 ((k + 1) : Nat)])) ∧ Rd w' b t s ((k + 1)) rest ∧ Tch w.heap.size b w w' := by
  go_enter Tryz.func118, Tryz.ntmps118
  go_wp2_with fail
  refine (take_yes b t s k 45 rest _ h hs (by decide) hm).mono ?_
  rintro e w1 ⟨rfl, h1, hT⟩
  clear h
  have h := h1
  clear h1
  go_wp2_with fail
  refine (take_no b t s (k + 1) 48 rest _ h hk1 hs h0).mono ?_
  rintro e w2 ⟨rfl, q2, rfl⟩
  replace h := h.drewN q2
  replace hT := hT.drewN q2
  generalize hw : w1.drewN q2 = w2 at h hT ⊢
  clear hw q2
  go_wp2_with fail
  refine (peek_any b t s (k + 1) rest _ h hk1 hs).mono ?_
  rintro e w3 ⟨rfl, q3, rfl⟩
  replace h := h.drewN q3
  replace hT := hT.drewN q3
  generalize hw : w2.drewN q3 = w3 at h hT ⊢
  clear hw q3
  go_wp2_with fail
  refine (isDigit_any _ _).mono ?_
  rintro e w4 ⟨rfl, rfl⟩
  rw [hd]
  go_wp2_with fail
  refine (stuck_any b t s (k + 1) rest _ h).mono ?_
  rintro e w5 ⟨rfl, h5, hT5⟩
  have hT6 := hT.trans (hT5.mono hT.size)
  clear h hT hT5
  go_wp2_with fail
  go_ret
  exact ⟨rfl, h5, hT6⟩

set_option maxHeartbeats 1000000 in
theorem numeralNegRun (b : Nat) (t : TypeId) (s : ByteArray) (k : Nat) (rest : List Value) (w : World) (h : Rd w b t s k rest) (hk : k ≤ s.size) (hs : s.size ≤ 1048576) (hm : J.peek s k = 45) (hk1 : (k + 1) ≤ s.size) (h0 : J.peek s (k + 1) ≠ 48) (hd : (decide (48 ≤ J.peek s (k + 1)) && decide (J.peek s (k + 1) ≤ 57)) = true) :
    Calls Tryz.prog 118 #[.pointer (some ⟨b, 0, none⟩)] w fun e w' => e = .returned .nilIface ∧ Rd w' b t s (J.run J.dig s (k + 1)) rest ∧ Tch w.heap.size b w w' := by
  go_enter Tryz.func118, Tryz.ntmps118
  go_wp2_with fail
  refine (take_yes b t s k 45 rest _ h hs (by decide) hm).mono ?_
  rintro e w1 ⟨rfl, h1, hT⟩
  clear h
  have h := h1
  clear h1
  go_wp2_with fail
  refine (take_no b t s (k + 1) 48 rest _ h hk1 hs h0).mono ?_
  rintro e w2 ⟨rfl, q2, rfl⟩
  replace h := h.drewN q2
  replace hT := hT.drewN q2
  generalize hw : w1.drewN q2 = w2 at h hT ⊢
  clear hw q2
  go_wp2_with fail
  refine (peek_any b t s (k + 1) rest _ h hk1 hs).mono ?_
  rintro e w3 ⟨rfl, q3, rfl⟩
  replace h := h.drewN q3
  replace hT := hT.drewN q3
  generalize hw : w2.drewN q3 = w3 at h hT ⊢
  clear hw q3
  go_wp2_with fail
  refine (isDigit_any _ _).mono ?_
  rintro e w4 ⟨rfl, rfl⟩
  rw [hd]
  go_wp2_with fail
  go_loopg [] (s.size - (k + 1)) (fun gh wr => ∃ j : Nat, Hid (gh = s.size - j) ∧ j ≤ s.size ∧ Hid (J.run J.dig s j = J.run J.dig s (k + 1)) ∧ Rd wr b t s j rest ∧ Tch w.heap.size b w wr)
  case atStart => exact ⟨(k + 1), rfl, hk1, rfl, h, hT⟩
  case round =>
    obtain ⟨j, hg, hj, hrun, hr, ht⟩ := hrel
    clear h hT hd
    go_wp2_with fail
    refine (peek_any b t s j rest _ hr hj hs).mono ?_
    rintro e w2 ⟨rfl, q, rfl⟩
    replace hr := hr.drewN q
    replace ht := ht.drewN q
    generalize wr.drewN q = wr at *
    go_wp2_with fail
    refine (isDigit_any _ _).mono ?_
    rintro e w2 ⟨rfl, rfl⟩
    by_cases hjs : j < s.size
    · have hpj := J.dig_peek s j hjs
      rw [← hpj]
      cases hdj : J.dig s[j] with
      | true =>
        have hrun2 := hide ((J.run_go J.dig s j hjs hdj).symm.trans hrun.out)
        have r1 := hr.cell 1
        have z1 := hr.frozen 1
        have hset := hide (show Rd (w2.setCell ⟨b, 1, none⟩ (.int .i64 ((j : Int) + 1))) b t s (j + 1) rest from hr.set 1 _)
        simp only [List.getElem?_cons_zero, List.getElem?_cons_succ] at r1
        clear hpj
        go_wp2_with fail
        go_roundg (s.size - (j + 1))
        case rel => exact ⟨j + 1, rfl, by omega, unhide hrun2, unhide hset, ht.trans (Tch.set _ _ _ _ _)⟩
        case measure => have := hg.out; omega
      | false =>
        have fin := hide ((J.run_stop J.dig s j hjs hdj).symm.trans hrun.out)
        clear hpj
        go_wp2_with fail
        go_ret
        exact ⟨rfl, by rw [← unhide fin]; exact hr, ht⟩
    · have hp0 := J.peek_out s j hjs
      rw [hp0]
      have fin := hide ((J.run_end J.dig s j (by omega)).symm.trans hrun.out)
      go_wp2_with fail
      go_ret
      exact ⟨rfl, by rw [← unhide fin]; exact hr, ht⟩

set_option maxHeartbeats 1000000 in
theorem numeralPosZero (b : Nat) (t : TypeId) (s : ByteArray) (k : Nat) (rest : List Value) (w : World) (h : Rd w b t s k rest) (hk : k ≤ s.size) (hs : s.size ≤ 1048576) (hm : J.peek s k ≠ 45) (hk1 : k ≤ s.size) (h0 : J.peek s k = 48) :
    Calls Tryz.prog 118 #[.pointer (some ⟨b, 0, none⟩)] w fun e w' => e = .returned .nilIface ∧ Rd w' b t s (k + 1) rest ∧ Tch w.heap.size b w w' := by
  go_enter Tryz.func118, Tryz.ntmps118
  go_wp2_with fail
  have hT : Tch w.heap.size b w w := Tch.refl _ _ _
  refine (take_no b t s k 45 rest _ h hk hs hm).mono ?_
  rintro e w1 ⟨rfl, q1, rfl⟩
  replace h := h.drewN q1
  replace hT := hT.drewN q1
  generalize hw : w.drewN q1 = w1 at h hT ⊢
  clear hw q1
  go_wp2_with fail
  refine (take_yes b t s k 48 rest _ h hs (by decide) h0).mono ?_
  rintro e w2 ⟨rfl, h2, hT2⟩
  have hT3 := hT.trans (hT2.mono hT.size)
  clear h hT hT2
  go_wp2_with fail
  go_ret
  exact ⟨rfl, h2, hT3⟩

set_option maxHeartbeats 1000000 in
theorem numeralPosStuck (b : Nat) (t : TypeId) (s : ByteArray) (k : Nat) (rest : List Value) (w : World) (h : Rd w b t s k rest) (hk : k ≤ s.size) (hs : s.size ≤ 1048576) (hm : J.peek s k ≠ 45) (hk1 : k ≤ s.size) (h0 : J.peek s k ≠ 48) (hd : (decide (48 ≤ J.peek s k) && decide (J.peek s k ≤ 57)) = false) :
    Calls Tryz.prog 118 #[.pointer (some ⟨b, 0, none⟩)] w fun e w' => e = .returned (.iface 55 (.agg #[.int .i64 5, .int .i64 (k : Nat)])) ∧ Rd w' b t s (k) rest ∧ Tch w.heap.size b w w' := by
  go_enter Tryz.func118, Tryz.ntmps118
  go_wp2_with fail
  have hT : Tch w.heap.size b w w := Tch.refl _ _ _
  refine (take_no b t s k 45 rest _ h hk hs hm).mono ?_
  rintro e w1 ⟨rfl, q1, rfl⟩
  replace h := h.drewN q1
  replace hT := hT.drewN q1
  generalize hw : w.drewN q1 = w1 at h hT ⊢
  clear hw q1
  go_wp2_with fail
  refine (take_no b t s k 48 rest _ h hk1 hs h0).mono ?_
  rintro e w2 ⟨rfl, q2, rfl⟩
  replace h := h.drewN q2
  replace hT := hT.drewN q2
  generalize hw : w1.drewN q2 = w2 at h hT ⊢
  clear hw q2
  go_wp2_with fail
  refine (peek_any b t s k rest _ h hk1 hs).mono ?_
  rintro e w3 ⟨rfl, q3, rfl⟩
  replace h := h.drewN q3
  replace hT := hT.drewN q3
  generalize hw : w2.drewN q3 = w3 at h hT ⊢
  clear hw q3
  go_wp2_with fail
  refine (isDigit_any _ _).mono ?_
  rintro e w4 ⟨rfl, rfl⟩
  rw [hd]
  go_wp2_with fail
  refine (stuck_any b t s k rest _ h).mono ?_
  rintro e w5 ⟨rfl, h5, hT5⟩
  have hT6 := hT.trans (hT5.mono hT.size)
  clear h hT hT5
  go_wp2_with fail
  go_ret
  exact ⟨rfl, h5, hT6⟩

set_option maxHeartbeats 1000000 in
theorem numeralPosRun (b : Nat) (t : TypeId) (s : ByteArray) (k : Nat) (rest : List Value) (w : World) (h : Rd w b t s k rest) (hk : k ≤ s.size) (hs : s.size ≤ 1048576) (hm : J.peek s k ≠ 45) (hk1 : k ≤ s.size) (h0 : J.peek s k ≠ 48) (hd : (decide (48 ≤ J.peek s k) && decide (J.peek s k ≤ 57)) = true) :
    Calls Tryz.prog 118 #[.pointer (some ⟨b, 0, none⟩)] w fun e w' => e = .returned .nilIface ∧ Rd w' b t s (J.run J.dig s k) rest ∧ Tch w.heap.size b w w' := by
  go_enter Tryz.func118, Tryz.ntmps118
  go_wp2_with fail
  have hT : Tch w.heap.size b w w := Tch.refl _ _ _
  refine (take_no b t s k 45 rest _ h hk hs hm).mono ?_
  rintro e w1 ⟨rfl, q1, rfl⟩
  replace h := h.drewN q1
  replace hT := hT.drewN q1
  generalize hw : w.drewN q1 = w1 at h hT ⊢
  clear hw q1
  go_wp2_with fail
  refine (take_no b t s k 48 rest _ h hk1 hs h0).mono ?_
  rintro e w2 ⟨rfl, q2, rfl⟩
  replace h := h.drewN q2
  replace hT := hT.drewN q2
  generalize hw : w1.drewN q2 = w2 at h hT ⊢
  clear hw q2
  go_wp2_with fail
  refine (peek_any b t s k rest _ h hk1 hs).mono ?_
  rintro e w3 ⟨rfl, q3, rfl⟩
  replace h := h.drewN q3
  replace hT := hT.drewN q3
  generalize hw : w2.drewN q3 = w3 at h hT ⊢
  clear hw q3
  go_wp2_with fail
  refine (isDigit_any _ _).mono ?_
  rintro e w4 ⟨rfl, rfl⟩
  rw [hd]
  go_wp2_with fail
  go_loopg [] (s.size - k) (fun gh wr => ∃ j : Nat, Hid (gh = s.size - j) ∧ j ≤ s.size ∧ Hid (J.run J.dig s j = J.run J.dig s k) ∧ Rd wr b t s j rest ∧ Tch w.heap.size b w wr)
  case atStart => exact ⟨k, rfl, hk1, rfl, h, hT⟩
  case round =>
    obtain ⟨j, hg, hj, hrun, hr, ht⟩ := hrel
    clear h hT hd
    go_wp2_with fail
    refine (peek_any b t s j rest _ hr hj hs).mono ?_
    rintro e w2 ⟨rfl, q, rfl⟩
    replace hr := hr.drewN q
    replace ht := ht.drewN q
    generalize wr.drewN q = wr at *
    go_wp2_with fail
    refine (isDigit_any _ _).mono ?_
    rintro e w2 ⟨rfl, rfl⟩
    by_cases hjs : j < s.size
    · have hpj := J.dig_peek s j hjs
      rw [← hpj]
      cases hdj : J.dig s[j] with
      | true =>
        have hrun2 := hide ((J.run_go J.dig s j hjs hdj).symm.trans hrun.out)
        have r1 := hr.cell 1
        have z1 := hr.frozen 1
        have hset := hide (show Rd (w2.setCell ⟨b, 1, none⟩ (.int .i64 ((j : Int) + 1))) b t s (j + 1) rest from hr.set 1 _)
        simp only [List.getElem?_cons_zero, List.getElem?_cons_succ] at r1
        clear hpj
        go_wp2_with fail
        go_roundg (s.size - (j + 1))
        case rel => exact ⟨j + 1, rfl, by omega, unhide hrun2, unhide hset, ht.trans (Tch.set _ _ _ _ _)⟩
        case measure => have := hg.out; omega
      | false =>
        have fin := hide ((J.run_stop J.dig s j hjs hdj).symm.trans hrun.out)
        clear hpj
        go_wp2_with fail
        go_ret
        exact ⟨rfl, by rw [← unhide fin]; exact hr, ht⟩
    · have hp0 := J.peek_out s j hjs
      rw [hp0]
      have fin := hide ((J.run_end J.dig s j (by omega)).symm.trans hrun.out)
      go_wp2_with fail
      go_ret
      exact ⟨rfl, by rw [← unhide fin]; exact hr, ht⟩

end Go.Proofs.YtikeffckhklhbaaGreatDoor
