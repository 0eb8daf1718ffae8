/-
  The program's reader of numbers: isDigit, (*byteReader).stuck, (*scalarReader).numeral.
  (*scalarReader).numeral: it goes past a number, however great, or tells where it cannot.
  (*scalarReader).numeral against the plain 'num': where it stands behind a number, or where it stuck.
  A numeral by the library's words: what strconv.ParseInt says of it.
  impl.DecodeNumber.
-/
import Derived.Test.YtepfdlbnnkojbaaGreatDoorSkipT
import Derived.Test.YtepfdlbnnkojbaaGreatDoorShelf
import Derived.Lib.ParseIntB
import Derived.Lib.AtoiErrMem
namespace Go.Proofs.YtepfdlbnnkojbaaGreatDoor
open Go.RowKit
set_option linter.unusedVariables false

set_option maxHeartbeats 1000000 in
theorem isDigit_any (c : Int) (w : World) : Calls Tryz.prog 93 #[.int .u8 c] w fun e w' => e = .returned (.bool (decide (48 ≤ c) && decide (c ≤ 57))) ∧ w' = w := by
  by_cases h1 : 48 ≤ c
  · by_cases h2 : c ≤ 57
    · go_enter Tryz.func93, Tryz.ntmps93
      go_wp2
      go_ret
      exact ⟨ret_bool (by simp [h1, h2]), rfl⟩
    · go_enter Tryz.func93, Tryz.ntmps93
      go_wp2
      go_ret
      exact ⟨ret_bool (by simp; omega), rfl⟩
  · go_enter Tryz.func93, Tryz.ntmps93
    go_wp2
    go_ret
    exact ⟨ret_bool (by simp; omega), rfl⟩

set_option maxHeartbeats 1000000 in
theorem stuck_any (b : Nat) (t : TypeId) (s : ByteArray) (k : Nat) (rest : List Value) (w : World) (h : Rd w b t s k rest) :
    Calls Tryz.prog 36 #[.pointer (some ⟨b, 0, none⟩)] w fun e w' => e = .returned (.iface 50 (.agg #[.int .i64 5, .int .i64 k])) ∧ Rd w' b t s k rest ∧ Tch w.heap.size b w w' := by
  have r1 := h.cell 1
  simp only [List.getElem?_cons_zero, List.getElem?_cons_succ] at r1
  go_enter Tryz.func36, Tryz.ntmps36
  go_wp2_with fail
  go_ret
  exact ⟨rfl, h, Tch.refl _ _ _⟩

theorem J.dig_peek (s : ByteArray) (k : Nat) (h : k < s.size) : J.dig s[k] = (decide (48 ≤ J.peek s k) && decide (J.peek s k ≤ 57)) := by
  rw [J.peek_in s k h]; rfl

set_option maxHeartbeats 1000000 in
/-- The digits are gone past. -/
theorem numeral_rest (b : Nat) (t : TypeId) (s : ByteArray) (k : Nat) (rest : List Value) (w : World) (h : Rd w b t s k rest) (hk : k ≤ s.size) (hs : s.size ≤ 1048576) (hm : J.peek s k ≠ 45) (h0 : J.peek s k ≠ 48) (hlt : k < s.size) (hd : J.dig s[k] = true) :
    Calls Tryz.prog 82 #[.pointer (some ⟨b, 0, none⟩)] w fun e w' => e = .returned .nilIface ∧ Rd w' b t s (J.run J.dig s k) rest ∧ Tch w.heap.size b w w' := by
  go_enter Tryz.func82, Tryz.ntmps82
  go_wp2_with fail
  have hT : Tch w.heap.size b w w := Tch.refl _ _ _
  refine (take_no b t s k 45 rest _ h hk hs hm).mono ?_
  rintro e w1 ⟨rfl, q1, rfl⟩
  replace h := h.drewN q1
  replace hT := hT.drewN q1
  generalize hw1 : w.drewN q1 = w1 at h hT ⊢
  clear hw1 q1
  go_wp2_with fail
  refine (take_no b t s k 48 rest _ h hk hs h0).mono ?_
  rintro e w2 ⟨rfl, q2, rfl⟩
  replace h := h.drewN q2
  replace hT := hT.drewN q2
  generalize hw2 : w1.drewN q2 = w2 at h hT ⊢
  clear hw2 q2
  go_wp2_with fail
  refine (peek_any b t s k rest _ h hk hs).mono ?_
  rintro e w3 ⟨rfl, q3, rfl⟩
  replace h := h.drewN q3
  replace hT := hT.drewN q3
  generalize hw3 : w2.drewN q3 = w3 at h hT ⊢
  clear hw3 q3
  have hpd := J.dig_peek s k hlt
  rw [hd] at hpd
  go_wp2_with fail
  refine (isDigit_any _ _).mono ?_
  rintro e w4 ⟨rfl, rfl⟩
  rw [← hpd]
  clear hpd
  go_wp2_with fail
  go_loopg [] (s.size - k) (fun gh wr => ∃ j : Nat, Hid (gh = s.size - j) ∧ j ≤ s.size ∧ Hid (J.run J.dig s j = J.run J.dig s k) ∧ Rd wr b t s j rest ∧ Tch w.heap.size b w wr)
  case atStart => exact ⟨k, rfl, hk, rfl, h, hT⟩
  case round =>
    obtain ⟨j, hg, hj, hrun, hr, ht⟩ := hrel
    go_wp2_with fail
    refine (peek_any b t s j rest _ hr hj hs).mono ?_
    rintro e w2 ⟨rfl, q, rfl⟩
    replace hr := hr.drewN q
    replace ht := ht.drewN q
    generalize wr.drewN q = wr at *
    go_wp2_with fail
    refine (isDigit_any _ _).mono ?_
    rintro e w2 ⟨rfl, rfl⟩
    by_cases hjs : j < s.size
    · have hpj := J.dig_peek s j hjs
      rw [← hpj]
      cases hdj : J.dig s[j] with
      | true =>
        have hrun2 := hide ((J.run_go J.dig s j hjs hdj).symm.trans hrun.out)
        have r1 := hr.cell 1
        have z1 := hr.frozen 1
        have hset := hide (show Rd (w2.setCell ⟨b, 1, none⟩ (.int .i64 ((j : Int) + 1))) b t s (j + 1) rest from hr.set 1 _)
        simp only [List.getElem?_cons_zero, List.getElem?_cons_succ] at r1
        clear hpj
        go_wp2_with fail
        go_roundg (s.size - (j + 1))
        case rel => exact ⟨j + 1, rfl, by omega, unhide hrun2, unhide hset, ht.trans (Tch.set _ _ _ _ _)⟩
        case measure => have := hg.out; omega
      | false =>
        have fin := hide ((J.run_stop J.dig s j hjs hdj).symm.trans hrun.out)
        clear hpj
        go_wp2_with fail
        go_ret
        exact ⟨rfl, by rw [← unhide fin]; exact hr, ht⟩
    · have hp0 := J.peek_out s j hjs
      rw [hp0]
      have fin := hide ((J.run_end J.dig s j (by omega)).symm.trans hrun.out)
      go_wp2_with fail
      go_ret
      exact ⟨rfl, by rw [← unhide fin]; exact hr, ht⟩
end Go.Proofs.YtepfdlbnnkojbaaGreatDoor

namespace Go.Proofs.YtepfdlbnnkojbaaGreatDoor
open Go.RowKit
set_option linter.unusedVariables false

set_option maxHeartbeats 1000000 in
theorem numeralNegZero (b : Nat) (t : TypeId) (s : ByteArray) (k : Nat) (rest : List Value) (w : World) (h : Rd w b t s k rest) (hk : k ≤ s.size) (hs : s.size ≤ 1048576) (hm : J.peek s k = 45) (hk1 : (k + 1) ≤ s.size) (h0 : J.peek s (k + 1) = 48) :
    Calls Tryz.prog 82 #[.pointer (some ⟨b, 0, none⟩)] w fun e w' => e = .returned .nilIface ∧ Rd w' b t s ((k + 1) + 1) rest ∧ Tch w.heap.size b w w' := by
  go_enter Tryz.func82, Tryz.ntmps82
  go_wp2_with fail
  refine (take_yes b t s k 45 rest _ h hs (by decide) hm).mono ?_
  rintro e w1 ⟨rfl, h1, hT⟩
  clear h
  have h := h1
  clear h1
  go_wp2_with fail
  refine (take_yes b t s (k + 1) 48 rest _ h hs (by decide) h0).mono ?_
  rintro e w2 ⟨rfl, h2, hT2⟩
  have hT3 := hT.trans (hT2.mono hT.size)
  clear h hT hT2
  go_wp2_with fail
  go_ret
  exact ⟨rfl, h2, hT3⟩

set_option maxHeartbeats 1000000 in
theorem numeralNegStuck (b : Nat) (t : TypeId) (s : ByteArray) (k : Nat) (rest : List Value) (w : World) (h : Rd w b t s k rest) (hk : k ≤ s.size) (hs : s.size ≤ 1048576) (hm : J.peek s k = 45) (hk1 : (k + 1) ≤ s.size) (h0 : J.peek s (k + 1) ≠ 48) (hd : (decide (48 ≤ J.peek s (k + 1)) && decide (J.peek s (k + 1) ≤ 57)) = false) :
    Calls Tryz.prog 82 #[.pointer (some ⟨b, 0, none⟩)] w fun e w' => e = .returned (.iface 50 (.agg #[.int .i64 5, .int .i64 ((k + 1) : Nat)])) ∧ Rd w' b t s ((k + 1)) rest ∧ Tch w.heap.size b w w' := by
  go_enter Tryz.func82, Tryz.ntmps82
  go_wp2_with fail
  refine (take_yes b t s k 45 rest _ h hs (by decide) hm).mono ?_
  rintro e w1 ⟨rfl, h1, hT⟩
  clear h
  have h := h1
  clear h1
  go_wp2_with fail
  refine (take_no b t s (k + 1) 48 rest _ h hk1 hs h0).mono ?_
  rintro e w2 ⟨rfl, q2, rfl⟩
  replace h := h.drewN q2
  replace hT := hT.drewN q2
  generalize hw : w1.drewN q2 = w2 at h hT ⊢
  clear hw q2
  go_wp2_with fail
  refine (peek_any b t s (k + 1) rest _ h hk1 hs).mono ?_
  rintro e w3 ⟨rfl, q3, rfl⟩
  replace h := h.drewN q3
  replace hT := hT.drewN q3
  generalize hw : w2.drewN q3 = w3 at h hT ⊢
  clear hw q3
  go_wp2_with fail
  refine (isDigit_any _ _).mono ?_
  rintro e w4 ⟨rfl, rfl⟩
  rw [hd]
  go_wp2_with fail
  refine (stuck_any b t s (k + 1) rest _ h).mono ?_
  rintro e w5 ⟨rfl, h5, hT5⟩
  have hT6 := hT.trans (hT5.mono hT.size)
  clear h hT hT5
  go_wp2_with fail
  go_ret
  exact ⟨rfl, h5, hT6⟩

set_option maxHeartbeats 1000000 in
theorem numeralNegRun (b : Nat) (t : TypeId) (s : ByteArray) (k : Nat) (rest : List Value) (w : World) (h : Rd w b t s k rest) (hk : k ≤ s.size) (hs : s.size ≤ 1048576) (hm : J.peek s k = 45) (hk1 : (k + 1) ≤ s.size) (h0 : J.peek s (k + 1) ≠ 48) (hd : (decide (48 ≤ J.peek s (k + 1)) && decide (J.peek s (k + 1) ≤ 57)) = true) :
    Calls Tryz.prog 82 #[.pointer (some ⟨b, 0, none⟩)] w fun e w' => e = .returned .nilIface ∧ Rd w' b t s (J.run J.dig s (k + 1)) rest ∧ Tch w.heap.size b w w' := by
  go_enter Tryz.func82, Tryz.ntmps82
  go_wp2_with fail
  refine (take_yes b t s k 45 rest _ h hs (by decide) hm).mono ?_
  rintro e w1 ⟨rfl, h1, hT⟩
  clear h
  have h := h1
  clear h1
  go_wp2_with fail
  refine (take_no b t s (k + 1) 48 rest _ h hk1 hs h0).mono ?_
  rintro e w2 ⟨rfl, q2, rfl⟩
  replace h := h.drewN q2
  replace hT := hT.drewN q2
  generalize hw : w1.drewN q2 = w2 at h hT ⊢
  clear hw q2
  go_wp2_with fail
  refine (peek_any b t s (k + 1) rest _ h hk1 hs).mono ?_
  rintro e w3 ⟨rfl, q3, rfl⟩
  replace h := h.drewN q3
  replace hT := hT.drewN q3
  generalize hw : w2.drewN q3 = w3 at h hT ⊢
  clear hw q3
  go_wp2_with fail
  refine (isDigit_any _ _).mono ?_
  rintro e w4 ⟨rfl, rfl⟩
  rw [hd]
  go_wp2_with fail
  go_loopg [] (s.size - (k + 1)) (fun gh wr => ∃ j : Nat, Hid (gh = s.size - j) ∧ j ≤ s.size ∧ Hid (J.run J.dig s j = J.run J.dig s (k + 1)) ∧ Rd wr b t s j rest ∧ Tch w.heap.size b w wr)
  case atStart => exact ⟨(k + 1), rfl, hk1, rfl, h, hT⟩
  case round =>
    obtain ⟨j, hg, hj, hrun, hr, ht⟩ := hrel
    clear h hT hd
    go_wp2_with fail
    refine (peek_any b t s j rest _ hr hj hs).mono ?_
    rintro e w2 ⟨rfl, q, rfl⟩
    replace hr := hr.drewN q
    replace ht := ht.drewN q
    generalize wr.drewN q = wr at *
    go_wp2_with fail
    refine (isDigit_any _ _).mono ?_
    rintro e w2 ⟨rfl, rfl⟩
    by_cases hjs : j < s.size
    · have hpj := J.dig_peek s j hjs
      rw [← hpj]
      cases hdj : J.dig s[j] with
      | true =>
        have hrun2 := hide ((J.run_go J.dig s j hjs hdj).symm.trans hrun.out)
        have r1 := hr.cell 1
        have z1 := hr.frozen 1
        have hset := hide (show Rd (w2.setCell ⟨b, 1, none⟩ (.int .i64 ((j : Int) + 1))) b t s (j + 1) rest from hr.set 1 _)
        simp only [List.getElem?_cons_zero, List.getElem?_cons_succ] at r1
        clear hpj
        go_wp2_with fail
        go_roundg (s.size - (j + 1))
        case rel => exact ⟨j + 1, rfl, by omega, unhide hrun2, unhide hset, ht.trans (Tch.set _ _ _ _ _)⟩
        case measure => have := hg.out; omega
      | false =>
        have fin := hide ((J.run_stop J.dig s j hjs hdj).symm.trans hrun.out)
        clear hpj
        go_wp2_with fail
        go_ret
        exact ⟨rfl, by rw [← unhide fin]; exact hr, ht⟩
    · have hp0 := J.peek_out s j hjs
      rw [hp0]
      have fin := hide ((J.run_end J.dig s j (by omega)).symm.trans hrun.out)
      go_wp2_with fail
      go_ret
      exact ⟨rfl, by rw [← unhide fin]; exact hr, ht⟩

set_option maxHeartbeats 1000000 in
theorem numeralPosZero (b : Nat) (t : TypeId) (s : ByteArray) (k : Nat) (rest : List Value) (w : World) (h : Rd w b t s k rest) (hk : k ≤ s.size) (hs : s.size ≤ 1048576) (hm : J.peek s k ≠ 45) (hk1 : k ≤ s.size) (h0 : J.peek s k = 48) :
    Calls Tryz.prog 82 #[.pointer (some ⟨b, 0, none⟩)] w fun e w' => e = .returned .nilIface ∧ Rd w' b t s (k + 1) rest ∧ Tch w.heap.size b w w' := by
  go_enter Tryz.func82, Tryz.ntmps82
  go_wp2_with fail
  have hT : Tch w.heap.size b w w := Tch.refl _ _ _
  refine (take_no b t s k 45 rest _ h hk hs hm).mono ?_
  rintro e w1 ⟨rfl, q1, rfl⟩
  replace h := h.drewN q1
  replace hT := hT.drewN q1
  generalize hw : w.drewN q1 = w1 at h hT ⊢
  clear hw q1
  go_wp2_with fail
  refine (take_yes b t s k 48 rest _ h hs (by decide) h0).mono ?_
  rintro e w2 ⟨rfl, h2, hT2⟩
  have hT3 := hT.trans (hT2.mono hT.size)
  clear h hT hT2
  go_wp2_with fail
  go_ret
  exact ⟨rfl, h2, hT3⟩

set_option maxHeartbeats 1000000 in
theorem numeralPosStuck (b : Nat) (t : TypeId) (s : ByteArray) (k : Nat) (rest : List Value) (w : World) (h : Rd w b t s k rest) (hk : k ≤ s.size) (hs : s.size ≤ 1048576) (hm : J.peek s k ≠ 45) (hk1 : k ≤ s.size) (h0 : J.peek s k ≠ 48) (hd : (decide (48 ≤ J.peek s k) && decide (J.peek s k ≤ 57)) = false) :
    Calls Tryz.prog 82 #[.pointer (some ⟨b, 0, none⟩)] w fun e w' => e = .returned (.iface 50 (.agg #[.int .i64 5, .int .i64 (k : Nat)])) ∧ Rd w' b t s (k) rest ∧ Tch w.heap.size b w w' := by
  go_enter Tryz.func82, Tryz.ntmps82
  go_wp2_with fail
  have hT : Tch w.heap.size b w w := Tch.refl _ _ _
  refine (take_no b t s k 45 rest _ h hk hs hm).mono ?_
  rintro e w1 ⟨rfl, q1, rfl⟩
  replace h := h.drewN q1
  replace hT := hT.drewN q1
  generalize hw : w.drewN q1 = w1 at h hT ⊢
  clear hw q1
  go_wp2_with fail
  refine (take_no b t s k 48 rest _ h hk1 hs h0).mono ?_
  rintro e w2 ⟨rfl, q2, rfl⟩
  replace h := h.drewN q2
  replace hT := hT.drewN q2
  generalize hw : w1.drewN q2 = w2 at h hT ⊢
  clear hw q2
  go_wp2_with fail
  refine (peek_any b t s k rest _ h hk1 hs).mono ?_
  rintro e w3 ⟨rfl, q3, rfl⟩
  replace h := h.drewN q3
  replace hT := hT.drewN q3
  generalize hw : w2.drewN q3 = w3 at h hT ⊢
  clear hw q3
  go_wp2_with fail
  refine (isDigit_any _ _).mono ?_
  rintro e w4 ⟨rfl, rfl⟩
  rw [hd]
  go_wp2_with fail
  refine (stuck_any b t s k rest _ h).mono ?_
  rintro e w5 ⟨rfl, h5, hT5⟩
  have hT6 := hT.trans (hT5.mono hT.size)
  clear h hT hT5
  go_wp2_with fail
  go_ret
  exact ⟨rfl, h5, hT6⟩

set_option maxHeartbeats 1000000 in
theorem numeralPosRun (b : Nat) (t : TypeId) (s : ByteArray) (k : Nat) (rest : List Value) (w : World) (h : Rd w b t s k rest) (hk : k ≤ s.size) (hs : s.size ≤ 1048576) (hm : J.peek s k ≠ 45) (hk1 : k ≤ s.size) (h0 : J.peek s k ≠ 48) (hd : (decide (48 ≤ J.peek s k) && decide (J.peek s k ≤ 57)) = true) :
    Calls Tryz.prog 82 #[.pointer (some ⟨b, 0, none⟩)] w fun e w' => e = .returned .nilIface ∧ Rd w' b t s (J.run J.dig s k) rest ∧ Tch w.heap.size b w w' := by
  go_enter Tryz.func82, Tryz.ntmps82
  go_wp2_with fail
  have hT : Tch w.heap.size b w w := Tch.refl _ _ _
  refine (take_no b t s k 45 rest _ h hk hs hm).mono ?_
  rintro e w1 ⟨rfl, q1, rfl⟩
  replace h := h.drewN q1
  replace hT := hT.drewN q1
  generalize hw : w.drewN q1 = w1 at h hT ⊢
  clear hw q1
  go_wp2_with fail
  refine (take_no b t s k 48 rest _ h hk1 hs h0).mono ?_
  rintro e w2 ⟨rfl, q2, rfl⟩
  replace h := h.drewN q2
  replace hT := hT.drewN q2
  generalize hw : w1.drewN q2 = w2 at h hT ⊢
  clear hw q2
  go_wp2_with fail
  refine (peek_any b t s k rest _ h hk1 hs).mono ?_
  rintro e w3 ⟨rfl, q3, rfl⟩
  replace h := h.drewN q3
  replace hT := hT.drewN q3
  generalize hw : w2.drewN q3 = w3 at h hT ⊢
  clear hw q3
  go_wp2_with fail
  refine (isDigit_any _ _).mono ?_
  rintro e w4 ⟨rfl, rfl⟩
  rw [hd]
  go_wp2_with fail
  go_loopg [] (s.size - k) (fun gh wr => ∃ j : Nat, Hid (gh = s.size - j) ∧ j ≤ s.size ∧ Hid (J.run J.dig s j = J.run J.dig s k) ∧ Rd wr b t s j rest ∧ Tch w.heap.size b w wr)
  case atStart => exact ⟨k, rfl, hk1, rfl, h, hT⟩
  case round =>
    obtain ⟨j, hg, hj, hrun, hr, ht⟩ := hrel
    clear h hT hd
    go_wp2_with fail
    refine (peek_any b t s j rest _ hr hj hs).mono ?_
    rintro e w2 ⟨rfl, q, rfl⟩
    replace hr := hr.drewN q
    replace ht := ht.drewN q
    generalize wr.drewN q = wr at *
    go_wp2_with fail
    refine (isDigit_any _ _).mono ?_
    rintro e w2 ⟨rfl, rfl⟩
    by_cases hjs : j < s.size
    · have hpj := J.dig_peek s j hjs
      rw [← hpj]
      cases hdj : J.dig s[j] with
      | true =>
        have hrun2 := hide ((J.run_go J.dig s j hjs hdj).symm.trans hrun.out)
        have r1 := hr.cell 1
        have z1 := hr.frozen 1
        have hset := hide (show Rd (w2.setCell ⟨b, 1, none⟩ (.int .i64 ((j : Int) + 1))) b t s (j + 1) rest from hr.set 1 _)
        simp only [List.getElem?_cons_zero, List.getElem?_cons_succ] at r1
        clear hpj
        go_wp2_with fail
        go_roundg (s.size - (j + 1))
        case rel => exact ⟨j + 1, rfl, by omega, unhide hrun2, unhide hset, ht.trans (Tch.set _ _ _ _ _)⟩
        case measure => have := hg.out; omega
      | false =>
        have fin := hide ((J.run_stop J.dig s j hjs hdj).symm.trans hrun.out)
        clear hpj
        go_wp2_with fail
        go_ret
        exact ⟨rfl, by rw [← unhide fin]; exact hr, ht⟩
    · have hp0 := J.peek_out s j hjs
      rw [hp0]
      have fin := hide ((J.run_end J.dig s j (by omega)).symm.trans hrun.out)
      go_wp2_with fail
      go_ret
      exact ⟨rfl, by rw [← unhide fin]; exact hr, ht⟩

end Go.Proofs.YtepfdlbnnkojbaaGreatDoor

namespace Go.Proofs.YtepfdlbnnkojbaaGreatDoor
open Go.RowKit
set_option linter.unusedVariables false

/-- What numeral leaves: behind a number, or an error at the place where it stuck. -/
def NumLeft (b : Nat) (t : TypeId) (s : ByteArray) (k : Nat) (rest : List Value) (e : Ending) (w' : World) : Prop :=
  (∃ m : Nat, J.num s k = ((m : Int), 0) ∧ m ≤ s.size ∧ e = .returned .nilIface ∧ Rd w' b t s m rest) ∨
  (∃ m : Nat, J.num s k = (-1, (m : Int)) ∧ m ≤ s.size ∧ e = .returned (.iface 50 (.agg #[.int .i64 5, .int .i64 m])) ∧ Rd w' b t s m rest)

theorem J.num_zero (s : ByteArray) (k p : Nat) (hp : J.sign s k = p) (h : J.peek s p = 48) : J.num s k = (((p + 1 : Nat) : Int), 0) ∧ p + 1 ≤ s.size := by
  have hl := J.peek_lt s p 48 (by decide) h
  rw [J.peek_in s p hl] at h
  refine ⟨?_, by omega⟩
  unfold J.num
  simp only [hp]
  rw [dif_pos hl, if_neg (by unfold J.dig; rw [h]; decide), if_pos (by omega)]
  rfl
theorem J.num_stuck (s : ByteArray) (k p : Nat) (hp : J.sign s k = p) (h : (decide (48 ≤ J.peek s p) && decide (J.peek s p ≤ 57)) = false) : J.num s k = (-1, (p : Int)) := by
  unfold J.num
  simp only [hp]
  by_cases hl : p < s.size
  · rw [dif_pos hl, if_pos (by rw [J.dig_peek s p hl]; exact h)]
  · rw [dif_neg hl]
theorem J.num_run (s : ByteArray) (k p : Nat) (hp : J.sign s k = p) (h0 : J.peek s p ≠ 48) (h : (decide (48 ≤ J.peek s p) && decide (J.peek s p ≤ 57)) = true) : J.num s k = (((J.run J.dig s p : Nat) : Int), 0) := by
  have hl : p < s.size := by
    by_cases hl : p < s.size
    · exact hl
    · rw [J.peek_out s p hl] at h; simp at h
  unfold J.num
  simp only [hp]
  rw [dif_pos hl, if_neg (by rw [J.dig_peek s p hl, h]; simp), if_neg (by rw [J.peek_in s p hl] at h0; omega)]

theorem numeral_any (b : Nat) (t : TypeId) (s : ByteArray) (k : Nat) (rest : List Value) (w : World) (h : Rd w b t s k rest) (hk : k ≤ s.size) (hs : s.size ≤ 1048576) :
    Calls Tryz.prog 82 #[.pointer (some ⟨b, 0, none⟩)] w fun e w' => NumLeft b t s k rest e w' ∧ Tch w.heap.size b w w' := by
  by_cases hm : J.peek s k = 45
  · have hp : J.sign s k = k + 1 := by unfold J.sign; rw [if_pos hm]
    have hk1 : k + 1 ≤ s.size := by have := J.peek_lt s k 45 (by decide) hm; omega
    by_cases h0 : J.peek s (k + 1) = 48
    · refine (numeralNegZero b t s k rest w h hk hs hm hk1 h0).mono ?_
      rintro e w' ⟨rfl, hr, ht⟩
      have := J.num_zero s k (k + 1) hp h0
      exact ⟨.inl ⟨_, this.1, this.2, rfl, hr⟩, ht⟩
    · cases hd : (decide (48 ≤ J.peek s (k + 1)) && decide (J.peek s (k + 1) ≤ 57)) with
      | false =>
        refine (numeralNegStuck b t s k rest w h hk hs hm hk1 h0 hd).mono ?_
        rintro e w' ⟨rfl, hr, ht⟩
        exact ⟨.inr ⟨_, J.num_stuck s k (k + 1) hp hd, hk1, rfl, hr⟩, ht⟩
      | true =>
        refine (numeralNegRun b t s k rest w h hk hs hm hk1 h0 hd).mono ?_
        rintro e w' ⟨rfl, hr, ht⟩
        exact ⟨.inl ⟨_, J.num_run s k (k + 1) hp h0 hd, J.run_le _ _ _ hk1, rfl, hr⟩, ht⟩
  · have hp : J.sign s k = k := by unfold J.sign; rw [if_neg hm]
    by_cases h0 : J.peek s k = 48
    · refine (numeralPosZero b t s k rest w h hk hs hm hk h0).mono ?_
      rintro e w' ⟨rfl, hr, ht⟩
      have := J.num_zero s k k hp h0
      exact ⟨.inl ⟨_, this.1, this.2, rfl, hr⟩, ht⟩
    · cases hd : (decide (48 ≤ J.peek s k) && decide (J.peek s k ≤ 57)) with
      | false =>
        refine (numeralPosStuck b t s k rest w h hk hs hm hk h0 hd).mono ?_
        rintro e w' ⟨rfl, hr, ht⟩
        exact ⟨.inr ⟨_, J.num_stuck s k k hp hd, hk, rfl, hr⟩, ht⟩
      | true =>
        refine (numeralPosRun b t s k rest w h hk hs hm hk h0 hd).mono ?_
        rintro e w' ⟨rfl, hr, ht⟩
        exact ⟨.inl ⟨_, J.num_run s k k hp h0 hd, J.run_le _ _ _ hk, rfl, hr⟩, ht⟩
end Go.Proofs.YtepfdlbnnkojbaaGreatDoor

namespace Go.Proofs.YtepfdlbnnkojbaaGreatDoor
open Go.RowKit
set_option linter.unusedVariables false

namespace J
def valN (acc : Nat) (l : List UInt8) : Nat := l.foldl (fun n b => n * 10 + (b.toNat - 48)) acc
theorem valN_ge (l : List UInt8) : ∀ acc, acc ≤ valN acc l := by
  induction l with
  | nil => intro acc; exact Nat.le_refl _
  | cons c r ih => intro acc; have := ih (acc * 10 + (c.toNat - 48)); unfold valN at *; rw [List.foldl_cons]; omega
theorem parseM_cases (l : List UInt8) : ∀ acc, (∀ c ∈ l, 48 ≤ c.toNat ∧ c.toNat ≤ 57) → acc ≤ 18446744073709551615 →
    (Lib.parseUintM 18446744073709551615 acc l = .ok (valN acc l) ∧ valN acc l ≤ 18446744073709551615) ∨ (Lib.parseUintM 18446744073709551615 acc l = .range ∧ 18446744073709551615 < valN acc l) := by
  induction l with
  | nil => intro acc _ h; exact .inl ⟨rfl, h⟩
  | cons c r ih =>
    intro acc hd h
    have hc := hd c (by simp)
    have e : valN acc (c :: r) = valN (acc * 10 + (c.toNat - 48)) r := by unfold valN; rw [List.foldl_cons]
    have hge := valN_ge r (acc * 10 + (c.toNat - 48))
    rw [Lib.parseUintM, if_pos hc, e]
    by_cases h1 : 1844674407370955162 ≤ acc
    · rw [if_pos h1]; exact .inr ⟨rfl, by omega⟩
    rw [if_neg h1]
    by_cases h2 : 18446744073709551615 < acc * 10 + (c.toNat - 48)
    · rw [if_pos h2]; exact .inr ⟨rfl, by omega⟩
    rw [if_neg h2]
    exact ih _ (fun x hx => hd x (by simp [hx])) (by omega)
theorem valN_valK (D : ByteArray) (hd : allDig D) (k : Nat) (hk : k ≤ D.size) : ((valN 0 (D.data.toList.take k) : Nat) : Int) = valK D k := by
  induction k with
  | zero => rfl
  | succ k ih =>
    have h1 := ih (by omega)
    have h2 := dig_yes (hd k (by omega))
    rw [valK_succ D k (by omega), ← h1, take_snoc D k (by omega)]
    unfold valN
    rw [List.foldl_append]
    simp only [List.foldl_cons, List.foldl_nil]
    omega
theorem valN_whole (D : ByteArray) (hd : allDig D) : ((valN 0 D.data.toList : Nat) : Int) = valK D D.size := by
  rw [← valN_valK D hd D.size (Nat.le_refl _), List.take_of_length_le (by simp)]
theorem digs_mem (D : ByteArray) (hd : allDig D) : ∀ c ∈ D.data.toList, 48 ≤ c.toNat ∧ c.toNat ≤ 57 := by
  intro c hc
  obtain ⟨i, hi, rfl⟩ := List.getElem_of_mem hc
  have hi2 : i < D.size := by simpa using hi
  have := dig_yes (hd i hi2)
  have e : D.data.toList[i] = D[i] := rfl
  rw [e]
  omega
theorem valK_big (D : ByteArray) (hd : allDig D) (h0 : 0 < D.size) (hz : D[0].toNat ≠ 48) : ∀ k, k + 1 ≤ D.size → ((10 ^ k : Nat) : Int) ≤ valK D (k + 1) := by
  intro k
  induction k with
  | zero =>
    intro hk
    have h2 := dig_yes (hd 0 (by omega))
    rw [valK_succ D 0 (by omega), valK_zero]
    simp only [Nat.pow_zero]
    omega
  | succ k ih =>
    intro hk
    have h1 := ih (by omega)
    have h2 := dig_yes (hd (k + 1) (by omega))
    rw [valK_succ D (k + 1) (by omega), Nat.pow_succ]
    push_cast at h1 ⊢
    omega
/-- A numeral of more than one digit does not begin with 0. -/
theorem first_digit {s : ByteArray} (h : isNum s) (h2 : 1 < (digitsOf s).size) : ∃ h0 : 0 < (digitsOf s).size, (digitsOf s)[0].toNat ≠ 48 := by
  refine ⟨by omega, fun e => ?_⟩
  obtain ⟨h1, h3⟩ := h
  by_cases hp : peek s 0 = 45
  · have es : sign s 0 = 1 := by unfold sign; rw [if_pos hp]
    have ed : digitsOf s = s.extract 1 s.size := by unfold digitsOf; rw [if_pos hp]
    simp only [ed] at e h2
    rw [ByteArray.size_extract] at h2
    rw [ByteArray.getElem_extract] at e
    have hz := (J.num_zero s 0 1 es (by rw [peek_in s 1 (by omega)]; simp only [Nat.add_zero] at e; omega)).1
    rw [hz] at h1
    simp only at h1
    omega
  · have es : sign s 0 = 0 := by unfold sign; rw [if_neg hp]
    have ed : digitsOf s = s := by unfold digitsOf; rw [if_neg hp]
    simp only [ed] at e h2
    have hz := (J.num_zero s 0 0 es (by rw [peek_in s 0 (by omega)]; omega)).1
    rw [hz] at h1
    simp only at h1
    omega
theorem numVal_two {s : ByteArray} (h : isNum s) : (numVal (negOf s) (digitsOf s)).2 = decide (valK (digitsOf s) (digitsOf s).size ≤ 1000000000000000) := by
  have hd := digits_all h
  unfold numVal
  by_cases hb : 1000000000000000 < valK (digitsOf s) (digitsOf s).size
  · rw [if_pos (.inr hb), decide_eq_false (by omega)]
  · have h16 : ¬ 16 < (digitsOf s).size := fun h16 => by
      obtain ⟨h0, hz⟩ := first_digit h (by omega)
      have := valK_big (digitsOf s) hd h0 hz ((digitsOf s).size - 1) (by omega)
      rw [show (digitsOf s).size - 1 + 1 = (digitsOf s).size by omega] at this
      have h2 : 10 ^ 16 ≤ 10 ^ ((digitsOf s).size - 1) := Nat.pow_le_pow_right (by omega) (by omega)
      have h3 : (10 : Nat) ^ 16 = 10000000000000000 := by decide
      omega
    rw [if_neg (by omega), decide_eq_true (by omega)]
    split <;> rfl
theorem numVal_one {s : ByteArray} (h : isNum s) (hb : valK (digitsOf s) (digitsOf s).size ≤ 1000000000000000) : (numVal (negOf s) (digitsOf s)).1 = if negOf s = true then -(valK (digitsOf s) (digitsOf s).size) else valK (digitsOf s) (digitsOf s).size := by
  have h2 := numVal_two h
  rw [decide_eq_true hb] at h2
  unfold numVal at h2 ⊢
  split at h2
  · cases h2
  · rename_i hn; rw [if_neg hn]; split <;> rfl
/-- What ParseInt makes of a numeral. -/
theorem parse_num {s : ByteArray} (h : isNum s) : Lib.parseIntB 64 s.data.toList = .range ∧ 1000000000000000 < valK (digitsOf s) (digitsOf s).size ∨
    Lib.parseIntB 64 s.data.toList = .ok (if negOf s = true then -(valK (digitsOf s) (digitsOf s).size) else valK (digitsOf s) (digitsOf s).size) ∧ valK (digitsOf s) (digitsOf s).size ≤ 9223372036854775808 := by
  have hd := digits_all h
  have hm := digs_mem _ hd
  have hw := valN_whole _ hd
  have h0 := h.2
  have hpk := peek_in s 0 h0
  obtain ⟨c, r, hl⟩ : ∃ c r, s.data.toList = c :: r := by
    cases e : s.data.toList with
    | nil =>
      have h3 := congrArg List.length e
      have h4 : s.data.toList.length = s.size := by simp
      rw [h4] at h3
      simp only [List.length_nil] at h3
      omega
    | cons c r => exact ⟨c, r, rfl⟩
  have hc0 : s[0] = c := by
    have : s.data.toList[0]'(by simpa using h0) = c := by simp only [hl, List.getElem_cons_zero]
    exact this
  have hP := parseM_cases (digitsOf s).data.toList 0 hm (by omega)
  generalize hV : valK (digitsOf s) (digitsOf s).size = V at *
  by_cases hp : peek s 0 = 45
  · have hc : c.toNat = 45 := by rw [hpk, hc0] at hp; omega
    have en : negOf s = true := by unfold negOf; simp [hp]
    have ed : (digitsOf s).data.toList = r := by
      unfold digitsOf
      rw [if_pos hp]
      have : (s.extract 1 s.size).data.toList = s.data.toList.drop 1 := by
        rw [ByteArray.data_extract, Array.toList_extract]
        simp only [List.extract_eq_take_drop]
        rw [List.take_of_length_le (by simp)]
      rw [this, hl]; rfl
    have hr : r ≠ [] := fun e => by
      have hs1 : s.size = 1 := by have := congrArg List.length hl; rw [e] at this; simpa using this
      obtain ⟨q1, _⟩ := h
      unfold num at q1
      have es : sign s 0 = 1 := by unfold sign; rw [if_pos hp]
      rw [es, dif_neg (by omega)] at q1
      simp only at q1
      omega
    rw [ed] at hP hw
    rw [hl, en, if_pos rfl, Lib.parseIntB]
    simp only [hc]
    rw [if_pos (by decide)]
    unfold Lib.parseUintB
    rw [if_neg hr]
    rcases hP with ⟨e1, e2⟩ | ⟨e1, e2⟩
    · rw [show (2 ^ 64 - 1 : Nat) = 18446744073709551615 by decide, e1]
      simp only [not_true_eq_false, false_and, if_false, true_and, if_true]
      by_cases hb : (2 ^ (64 - 1) : Nat) < valN 0 r
      · rw [if_pos hb]
        have h63 : (2 ^ (64 - 1) : Nat) = 9223372036854775808 := by decide
        exact .inl ⟨rfl, by omega⟩
      · rw [if_neg hb]
        have h63 : (2 ^ (64 - 1) : Nat) = 9223372036854775808 := by decide
        exact .inr ⟨by rw [hw], by omega⟩
    · rw [show (2 ^ 64 - 1 : Nat) = 18446744073709551615 by decide, e1]
      exact .inl ⟨rfl, by omega⟩
  · have en : negOf s = false := by unfold negOf; simp [hp]
    have ed : digitsOf s = s := by unfold digitsOf; rw [if_neg hp]
    have hdig : 48 ≤ c.toNat ∧ c.toNat ≤ 57 := hm c (by rw [ed, hl]; simp)
    rw [ed, hl] at hP hw
    rw [hl, en, Lib.parseIntB]
    rw [if_neg (show ¬ (c.toNat = 43 ∨ c.toNat = 45) by omega)]
    unfold Lib.parseUintB
    rw [if_neg (by simp)]
    rcases hP with ⟨e1, e2⟩ | ⟨e1, e2⟩
    · rw [show (2 ^ 64 - 1 : Nat) = 18446744073709551615 by decide, e1]
      have hn : ¬ c.toNat = 45 := by omega
      have h63 : (2 ^ (64 - 1) : Nat) = 9223372036854775808 := by decide
      simp only [hn, not_false_eq_true, true_and, false_and, if_false]
      by_cases hb : (2 ^ (64 - 1) : Nat) ≤ valN 0 (c :: r)
      · rw [if_pos hb]; exact .inl ⟨rfl, by omega⟩
      · rw [if_neg hb]
        exact .inr ⟨by rw [hw]; rfl, by omega⟩
    · rw [show (2 ^ 64 - 1 : Nat) = 18446744073709551615 by decide, e1]
      exact .inl ⟨rfl, by omega⟩
end J

end Go.Proofs.YtepfdlbnnkojbaaGreatDoor

namespace Go.Proofs.YtepfdlbnnkojbaaGreatDoor
open Go.RowKit
set_option linter.unusedVariables false
set_option linter.unusedSimpArgs false

theorem below_drewN2 {B : Nat} {a b : World} (h : Below B a b) (q : Nat) : Below B a (b.drewN q) := ⟨h.os, h.tape, h.output, h.size, h.block⟩
theorem J.num_pos {s : ByteArray} {m : Nat} (h : J.num s 0 = ((m : Int), 0)) : 0 < s.size := by
  unfold J.num at h
  by_cases hp : J.sign s 0 < s.size
  · omega
  · rw [dif_neg hp] at h
    have := congrArg Prod.fst h
    simp only at this
    omega

set_option maxHeartbeats 1000000 in
theorem numberFits_num (n : Int) (w : World) : Calls Tryz.prog 95 #[.int .i64 n] w fun e w' => e = .returned (.bool (decide (-1000000000000000 ≤ n) && decide (n ≤ 1000000000000000))) ∧ w' = w := by
  by_cases h1 : -1000000000000000 ≤ n
  · by_cases h2 : n ≤ 1000000000000000
    · go_enter Tryz.func95, Tryz.ntmps95
      go_wp2
      go_ret
      exact ⟨ret_bool (by first | simp [h1, h2] | (simp; omega)), rfl⟩
    · go_enter Tryz.func95, Tryz.ntmps95
      go_wp2
      go_ret
      exact ⟨ret_bool (by first | simp [h1, h2] | (simp; omega)), rfl⟩
  · go_enter Tryz.func95, Tryz.ntmps95
    go_wp2
    go_ret
    exact ⟨ret_bool (by first | (simp; omega) | simp [h1]), rfl⟩

set_option maxRecDepth 100000 in
set_option maxHeartbeats 4000000 in
theorem impl_DecodeNumber (s : ByteArray) (w : World) (hs : s.size ≤ 1048576) (ev : Value) (hev : ev = .nilIface ∨ ∃ te pe, ev = .iface te pe) (g : Nat) (hg : g < w.heap.size) (hv : w.cell? ⟨g, 0, none⟩ = some ev) (hgv : g = 5) :
    Calls Tryz.prog 83 #[.string s] w fun e w' => e = .returned (.agg #[.int .i64 (J.numOut s).1, .int .i64 (J.numOut s).2]) ∧ Below w.heap.size w w' := by
  subst hgv
  obtain ⟨w1, hw1⟩ : ∃ w1, w1 = (w.alloc (.cells #[.int .i64 0, .int .i64 0] 130)).alloc (.cells #[.string s, .int .i64 0] 42) := ⟨_, rfl⟩
  have hX : Own w1 w.heap.size 130 [.int .i64 0, .int .i64 0] := by rw [hw1]; exact Own.alloc ⟨_, heap_alloc_new _ _, rfl⟩ _
  have hR : Rd w1 (w.heap.size + 1) 42 s 0 [] := by
    rw [hw1]
    exact ⟨_, by rw [← show (w.alloc (.cells #[.int .i64 0, .int .i64 0] 130)).heap.size = w.heap.size + 1 by simp]; exact heap_alloc_new _ _, rfl⟩
  have B1 : Below w.heap.size w w1 := by rw [hw1]; exact ((Below.refl _ _).alloc (Nat.le_refl _) _).alloc (by simp) _
  have hs1 : w1.heap.size = w.heap.size + 2 := by rw [hw1]; simp
  have HN := hide (numeral_any (w.heap.size + 1) _ s 0 [] w1 hR (by omega) hs)
  go_enter Tryz.func83, Tryz.ntmps83
  go_wp2_with fail
  rw [← hw1]
  clear hw1 hR
  refine (unhide HN).mono ?_
  rintro e w2 ⟨hleft, ht2⟩
  have hX2 : Own w2 w.heap.size 130 [.int .i64 0, .int .i64 0] := by
    obtain ⟨c, h1, h2⟩ := hX
    exact ⟨c, (ht2.block w.heap.size (by omega) (by omega)).trans h1, h2⟩
  have B2 : Below w.heap.size w w2 := B1.trans (ht2.below (by omega) (by omega))
  clear hX HN ht2 B1
  rcases hleft with ⟨m, hnum, hm, rfl, hR2⟩ | ⟨m, hnum, hm, rfl, hR2⟩
  · have hpos := J.num_pos hnum
    have HE := hide (ended_any (w.heap.size + 1) _ s m [] w2 hR2 hs)
    by_cases hend : s.size ≤ m
    · have hisn : J.isNum s := ⟨by rw [hnum]; simp only; omega, hpos⟩
      have hed : decide (s.size ≤ m) = true := decide_eq_true hend
      rw [hed] at HE
      have H2 := J.numVal_two hisn
      rcases J.parse_num hisn with ⟨hp, hbig⟩ | ⟨hp, hle⟩
      · have fin := hide (J.numOut_big hisn (by rw [H2]; exact decide_eq_false (by omega)))
        have HP := hide (fun (wq : World) (hq : Below w.heap.size w wq) => Tryz.strconv_ParseInt_10_at64_range s (by omega) hp ev wq ((hq.cell (p := ⟨5, 0, none⟩) hg).trans hv) hev)
        clear hp hbig H2 hisn hed hend hnum
        go_wp2_with fail
        refine (unhide HE).mono ?_
        rintro e w3 ⟨rfl, q, rfl⟩
        have hX3 : Own (w2.drewN q) w.heap.size 130 [.int .i64 0, .int .i64 0] := hX2
        have B3 : Below w.heap.size w (w2.drewN q) := below_drewN2 B2 q
        clear hX2 B2 hR2 HE
        generalize w2.drewN q = w3 at *
        go_wp2_with fail
        refine ((unhide HP) _ B3).mono ?_
        rintro e w4 ⟨N, rfl, _, _, hb4⟩
        have hX4 := hX3.below hb4 hX3.lt
        have B4 : Below w.heap.size w w4 := B3.trans (hb4.mono B3.size)
        clear hX3 B3 hb4 HP
        have r0 := hX4.cell 0
        have r1 := hX4.cell 1
        have z0 := hX4.frozen 0
        have z1 := hX4.frozen 1
        simp only [List.getElem?_cons_zero, List.getElem?_cons_succ] at r0 r1
        go_wp2_with fail
        refine bodyPost_ret (v := .agg #[.int .i64 3, .int .i64 0]) (by simp [results, Tryz.results83, go_sem, r0, r1]) rfl ⟨by rw [unhide fin], ?_⟩
        exact (B4.setCell (Nat.le_refl _) _).setCell (Nat.le_refl _) _
      · obtain ⟨v, hvv⟩ : ∃ v : Int, v = if J.negOf s = true then -(J.valK (J.digitsOf s) (J.digitsOf s).size) else J.valK (J.digitsOf s) (J.digitsOf s).size := ⟨_, rfl⟩
        rw [← hvv] at hp
        have hge := (J.valK_bd (J.digitsOf s) (J.digits_all hisn) _ (Nat.le_refl _)).1
        have HP := hide (fun (wq : World) => Tryz.strconv_ParseInt_10_at64_ok s (by omega) v hp wq)
        have hfit : (decide (-1000000000000000 ≤ v) && decide (v ≤ 1000000000000000)) = (J.numVal (J.negOf s) (J.digitsOf s)).2 := by
          rw [H2, Bool.eq_iff_iff]
          simp only [Bool.and_eq_true, decide_eq_true_eq]
          rw [hvv]
          split <;> omega
        have HF := hide (numberFits_num v)
        cases hok : (J.numVal (J.negOf s) (J.digitsOf s)).2 with
        | true =>
          have hone := J.numVal_one hisn (by rw [H2] at hok; exact of_decide_eq_true hok)
          rw [← hvv] at hone
          have fin := hide ((J.numOut_ok hisn hok).trans (by rw [hone]))
          rw [hok] at hfit
          clear hp H2 hisn hed hend hnum hvv hone hok hge hle
          go_wp2_with fail
          refine (unhide HE).mono ?_
          rintro e w3 ⟨rfl, q, rfl⟩
          have hX3 : Own (w2.drewN q) w.heap.size 130 [.int .i64 0, .int .i64 0] := hX2
          have B3 : Below w.heap.size w (w2.drewN q) := below_drewN2 B2 q
          clear hX2 B2 hR2 HE
          generalize w2.drewN q = w3 at *
          go_wp2_with fail
          refine ((unhide HP) _).mono ?_
          rintro e w4 ⟨rfl, hw4⟩
          have hb4 : Below w3.heap.size w3 w4 := by
            rcases hw4 with rfl | ⟨t, rfl⟩
            · exact Below.refl _ _
            · exact Lib.bytesWorld_below _ _ _
          have hX4 := hX3.below hb4 hX3.lt
          have B4 : Below w.heap.size w w4 := B3.trans (hb4.mono B3.size)
          clear hX3 B3 hb4 HP hw4
          go_wp2_with fail
          refine ((unhide HF) _).mono ?_
          rintro e w5 ⟨rfl, hw5⟩
          have hw6 := hw5.symm
          clear hw5
          subst hw6
          rw [hfit]
          have r0 := hX4.cell 0
          have r1 := hX4.cell 1
          have z0 := hX4.frozen 0
          have z1 := hX4.frozen 1
          simp only [List.getElem?_cons_zero, List.getElem?_cons_succ] at r0 r1
          go_wp2_with fail
          refine bodyPost_ret (v := .agg #[.int .i64 0, .int .i64 v]) (by simp [results, Tryz.results83, go_sem, r0, r1]) rfl ⟨by rw [unhide fin], ?_⟩
          exact (B4.setCell (Nat.le_refl _) _).setCell (Nat.le_refl _) _
        | false =>
          have fin := hide (J.numOut_big hisn hok)
          rw [hok] at hfit
          clear hp H2 hisn hed hend hnum hvv hok hge hle
          go_wp2_with fail
          refine (unhide HE).mono ?_
          rintro e w3 ⟨rfl, q, rfl⟩
          have hX3 : Own (w2.drewN q) w.heap.size 130 [.int .i64 0, .int .i64 0] := hX2
          have B3 : Below w.heap.size w (w2.drewN q) := below_drewN2 B2 q
          clear hX2 B2 hR2 HE
          generalize w2.drewN q = w3 at *
          go_wp2_with fail
          refine ((unhide HP) _).mono ?_
          rintro e w4 ⟨rfl, hw4⟩
          have hb4 : Below w3.heap.size w3 w4 := by
            rcases hw4 with rfl | ⟨t, rfl⟩
            · exact Below.refl _ _
            · exact Lib.bytesWorld_below _ _ _
          have hX4 := hX3.below hb4 hX3.lt
          have B4 : Below w.heap.size w w4 := B3.trans (hb4.mono B3.size)
          clear hX3 B3 hb4 HP hw4
          go_wp2_with fail
          refine ((unhide HF) _).mono ?_
          rintro e w5 ⟨rfl, hw5⟩
          have hw6 := hw5.symm
          clear hw5
          subst hw6
          rw [hfit]
          have r0 := hX4.cell 0
          have r1 := hX4.cell 1
          have z0 := hX4.frozen 0
          have z1 := hX4.frozen 1
          simp only [List.getElem?_cons_zero, List.getElem?_cons_succ] at r0 r1
          go_wp2_with fail
          refine bodyPost_ret (v := .agg #[.int .i64 3, .int .i64 0]) (by simp [results, Tryz.results83, go_sem, r0, r1]) rfl ⟨by rw [unhide fin], ?_⟩
          exact (B4.setCell (Nat.le_refl _) _).setCell (Nat.le_refl _) _
    · have hnot : ¬ J.isNum s := fun h => by
        have := h.1
        rw [hnum] at this
        simp only at this
        omega
      have fin := hide (J.numOut_no hnot)
      have hed : decide (s.size ≤ m) = false := decide_eq_false hend
      rw [hed] at HE
      clear hed hend hnum hnot
      go_wp2_with fail
      refine (unhide HE).mono ?_
      rintro e w3 ⟨rfl, q, rfl⟩
      have hX3 : Own (w2.drewN q) w.heap.size 130 [.int .i64 0, .int .i64 0] := hX2
      have B3 : Below w.heap.size w (w2.drewN q) := below_drewN2 B2 q
      clear hX2 B2 hR2 HE
      generalize w2.drewN q = w3 at *
      have r0 := hX3.cell 0
      have r1 := hX3.cell 1
      have z0 := hX3.frozen 0
      have z1 := hX3.frozen 1
      simp only [List.getElem?_cons_zero, List.getElem?_cons_succ] at r0 r1
      go_wp2_with fail
      refine bodyPost_ret (v := .agg #[.int .i64 5, .int .i64 0]) (by simp [results, Tryz.results83, go_sem, r0, r1]) rfl ⟨by rw [unhide fin], ?_⟩
      exact (B3.setCell (Nat.le_refl _) _).setCell (Nat.le_refl _) _
  · have hnot : ¬ J.isNum s := fun h => by
      have := h.1
      rw [hnum] at this
      simp only at this
      omega
    have fin := hide (J.numOut_no hnot)
    clear hnum hnot hR2
    have r0 := hX2.cell 0
    have r1 := hX2.cell 1
    have z0 := hX2.frozen 0
    have z1 := hX2.frozen 1
    simp only [List.getElem?_cons_zero, List.getElem?_cons_succ] at r0 r1
    go_wp2_with fail
    refine bodyPost_ret (v := .agg #[.int .i64 5, .int .i64 0]) (by simp [results, Tryz.results83, go_sem, r0, r1]) rfl ⟨by rw [unhide fin], ?_⟩
    exact (B2.setCell (Nat.le_refl _) _).setCell (Nat.le_refl _) _

end Go.Proofs.YtepfdlbnnkojbaaGreatDoor
