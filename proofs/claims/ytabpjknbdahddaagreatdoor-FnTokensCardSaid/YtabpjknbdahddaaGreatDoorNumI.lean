/-
  The program's reader of numbers: isDigit, (*byteReader).stuck, (*scalarReader).numeral.
-/
import Derived.Test.YtabpjknbdahddaaGreatDoorNumT
namespace Go.Proofs.YtabpjknbdahddaaGreatDoor
open Go.RowKit
set_option linter.unusedVariables false

set_option maxHeartbeats 1000000 in
theorem isDigit_any (c : Int) (w : World) : Calls Tryz.prog 95 #[.int .u8 c] w fun e w' => e = .returned (.bool (decide (48 ≤ c) && decide (c ≤ 57))) ∧ w' = w := by
  by_cases h1 : 48 ≤ c
  · by_cases h2 : c ≤ 57
    · go_enter Tryz.func95, Tryz.ntmps95
      go_wp2
      go_ret
      exact ⟨ret_bool (by simp [h1, h2]), rfl⟩
    · go_enter Tryz.func95, Tryz.ntmps95
      go_wp2
      go_ret
      exact ⟨ret_bool (by simp; omega), rfl⟩
  · go_enter Tryz.func95, Tryz.ntmps95
    go_wp2
    go_ret
    exact ⟨ret_bool (by simp; omega), rfl⟩

set_option maxHeartbeats 1000000 in
theorem stuck_any (b : Nat) (t : TypeId) (s : ByteArray) (k : Nat) (rest : List Value) (w : World) (h : Rd w b t s k rest) :
    Calls Tryz.prog 134 #[.pointer (some ⟨b, 0, none⟩)] w fun e w' => e = .returned (.iface 62 (.agg #[.int .i64 5, .int .i64 k])) ∧ Rd w' b t s k rest ∧ Tch w.heap.size b w w' := by
  have r1 := h.cell 1
  simp only [List.getElem?_cons_zero, List.getElem?_cons_succ] at r1
  go_enter Tryz.func134, Tryz.ntmps134
  go_wp2_with fail
  go_ret
  exact ⟨rfl, h, Tch.refl _ _ _⟩

theorem J.dig_peek (s : ByteArray) (k : Nat) (h : k < s.size) : J.dig s[k] = (decide (48 ≤ J.peek s k) && decide (J.peek s k ≤ 57)) := by
  rw [J.peek_in s k h]; rfl

set_option maxHeartbeats 1000000 in
/-- The digits are gone past. -/
theorem numeral_rest (b : Nat) (t : TypeId) (s : ByteArray) (k : Nat) (rest : List Value) (w : World) (h : Rd w b t s k rest) (hk : k ≤ s.size) (hs : s.size ≤ 1048576) (hm : J.peek s k ≠ 45) (h0 : J.peek s k ≠ 48) (hlt : k < s.size) (hd : J.dig s[k] = true) :
    Calls Tryz.prog 132 #[.pointer (some ⟨b, 0, none⟩)] w fun e w' => e = .returned .nilIface ∧ Rd w' b t s (J.run J.dig s k) rest ∧ Tch w.heap.size b w w' := by
  go_enter Tryz.func132, Tryz.ntmps132
  go_wp2_with fail
  have hT : Tch w.heap.size b w w := Tch.refl _ _ _
  refine (take_no b t s k 45 rest _ h hk hs hm).mono ?_
  rintro e w1 ⟨rfl, q1, rfl⟩
  replace h := h.drewN q1
  replace hT := hT.drewN q1
  generalize hw1 : w.drewN q1 = w1 at h hT ⊢
  clear hw1 q1
  go_wp2_with fail
  refine (take_no b t s k 48 rest _ h hk hs h0).mono ?_
  rintro e w2 ⟨rfl, q2, rfl⟩
  replace h := h.drewN q2
  replace hT := hT.drewN q2
  generalize hw2 : w1.drewN q2 = w2 at h hT ⊢
  clear hw2 q2
  go_wp2_with fail
  refine (peek_any b t s k rest _ h hk hs).mono ?_
  rintro e w3 ⟨rfl, q3, rfl⟩
  replace h := h.drewN q3
  replace hT := hT.drewN q3
  generalize hw3 : w2.drewN q3 = w3 at h hT ⊢
  clear hw3 q3
  have hpd := J.dig_peek s k hlt
  rw [hd] at hpd
  go_wp2_with fail
  refine (isDigit_any _ _).mono ?_
  rintro e w4 ⟨rfl, rfl⟩
  rw [← hpd]
  clear hpd
  go_wp2_with fail
  go_loopg [] (s.size - k) (fun gh wr => ∃ j : Nat, Hid (gh = s.size - j) ∧ j ≤ s.size ∧ Hid (J.run J.dig s j = J.run J.dig s k) ∧ Rd wr b t s j rest ∧ Tch w.heap.size b w wr)
  case atStart => exact ⟨k, rfl, hk, rfl, h, hT⟩
  case round =>
    obtain ⟨j, hg, hj, hrun, hr, ht⟩ := hrel
    go_wp2_with fail
    refine (peek_any b t s j rest _ hr hj hs).mono ?_
    rintro e w2 ⟨rfl, q, rfl⟩
    replace hr := hr.drewN q
    replace ht := ht.drewN q
    generalize wr.drewN q = wr at *
    go_wp2_with fail
    refine (isDigit_any _ _).mono ?_
    rintro e w2 ⟨rfl, rfl⟩
    by_cases hjs : j < s.size
    · have hpj := J.dig_peek s j hjs
      rw [← hpj]
      cases hdj : J.dig s[j] with
      | true =>
        have hrun2 := hide ((J.run_go J.dig s j hjs hdj).symm.trans hrun.out)
        have r1 := hr.cell 1
        have z1 := hr.frozen 1
        have hset := hide (show Rd (w2.setCell ⟨b, 1, none⟩ (.int .i64 ((j : Int) + 1))) b t s (j + 1) rest from hr.set 1 _)
        simp only [List.getElem?_cons_zero, List.getElem?_cons_succ] at r1
        clear hpj
        go_wp2_with fail
        go_roundg (s.size - (j + 1))
        case rel => exact ⟨j + 1, rfl, by omega, unhide hrun2, unhide hset, ht.trans (Tch.set _ _ _ _ _)⟩
        case measure => have := hg.out; omega
      | false =>
        have fin := hide ((J.run_stop J.dig s j hjs hdj).symm.trans hrun.out)
        clear hpj
        go_wp2_with fail
        go_ret
        exact ⟨rfl, by rw [← unhide fin]; exact hr, ht⟩
    · have hp0 := J.peek_out s j hjs
      rw [hp0]
      have fin := hide ((J.run_end J.dig s j (by omega)).symm.trans hrun.out)
      go_wp2_with fail
      go_ret
      exact ⟨rfl, by rw [← unhide fin]; exact hr, ht⟩
end Go.Proofs.YtabpjknbdahddaaGreatDoor
