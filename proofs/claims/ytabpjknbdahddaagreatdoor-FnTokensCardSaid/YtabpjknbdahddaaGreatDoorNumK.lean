/-
  (*scalarReader).numeral against the plain 'num': where it stands behind a number, or where it stuck.
-/
import Derived.Test.YtabpjknbdahddaaGreatDoorNumJ
namespace Go.Proofs.YtabpjknbdahddaaGreatDoor
open Go.RowKit
set_option linter.unusedVariables false

/-- What numeral leaves: behind a number, or an error at the place where it stuck. -/
def NumLeft (b : Nat) (t : TypeId) (s : ByteArray) (k : Nat) (rest : List Value) (e : Ending) (w' : World) : Prop :=
  (∃ m : Nat, J.num s k = ((m : Int), 0) ∧ m ≤ s.size ∧ e = .returned .nilIface ∧ Rd w' b t s m rest) ∨
  (∃ m : Nat, J.num s k = (-1, (m : Int)) ∧ m ≤ s.size ∧ e = .returned (.iface 62 (.agg #[.int .i64 5, .int .i64 m])) ∧ Rd w' b t s m rest)

theorem J.num_zero (s : ByteArray) (k p : Nat) (hp : J.sign s k = p) (h : J.peek s p = 48) : J.num s k = (((p + 1 : Nat) : Int), 0) ∧ p + 1 ≤ s.size := by
  have hl := J.peek_lt s p 48 (by decide) h
  rw [J.peek_in s p hl] at h
  refine ⟨?_, by omega⟩
  unfold J.num
  simp only [hp]
  rw [dif_pos hl, if_neg (by unfold J.dig; rw [h]; decide), if_pos (by omega)]
  rfl
theorem J.num_stuck (s : ByteArray) (k p : Nat) (hp : J.sign s k = p) (h : (decide (48 ≤ J.peek s p) && decide (J.peek s p ≤ 57)) = false) : J.num s k = (-1, (p : Int)) := by
  unfold J.num
  simp only [hp]
  by_cases hl : p < s.size
  · rw [dif_pos hl, if_pos (by rw [J.dig_peek s p hl]; exact h)]
  · rw [dif_neg hl]
theorem J.num_run (s : ByteArray) (k p : Nat) (hp : J.sign s k = p) (h0 : J.peek s p ≠ 48) (h : (decide (48 ≤ J.peek s p) && decide (J.peek s p ≤ 57)) = true) : J.num s k = (((J.run J.dig s p : Nat) : Int), 0) := by
  have hl : p < s.size := by
    by_cases hl : p < s.size
    · exact hl
    · rw [J.peek_out s p hl] at h; simp at h
  unfold J.num
  simp only [hp]
  rw [dif_pos hl, if_neg (by rw [J.dig_peek s p hl, h]; simp), if_neg (by rw [J.peek_in s p hl] at h0; omega)]

theorem numeral_any (b : Nat) (t : TypeId) (s : ByteArray) (k : Nat) (rest : List Value) (w : World) (h : Rd w b t s k rest) (hk : k ≤ s.size) (hs : s.size ≤ 1048576) :
    Calls Tryz.prog 132 #[.pointer (some ⟨b, 0, none⟩)] w fun e w' => NumLeft b t s k rest e w' ∧ Tch w.heap.size b w w' := by
  by_cases hm : J.peek s k = 45
  · have hp : J.sign s k = k + 1 := by unfold J.sign; rw [if_pos hm]
    have hk1 : k + 1 ≤ s.size := by have := J.peek_lt s k 45 (by decide) hm; omega
    by_cases h0 : J.peek s (k + 1) = 48
    · refine (numeralNegZero b t s k rest w h hk hs hm hk1 h0).mono ?_
      rintro e w' ⟨rfl, hr, ht⟩
      have := J.num_zero s k (k + 1) hp h0
      exact ⟨.inl ⟨_, this.1, this.2, rfl, hr⟩, ht⟩
    · cases hd : (decide (48 ≤ J.peek s (k + 1)) && decide (J.peek s (k + 1) ≤ 57)) with
      | false =>
        refine (numeralNegStuck b t s k rest w h hk hs hm hk1 h0 hd).mono ?_
        rintro e w' ⟨rfl, hr, ht⟩
        exact ⟨.inr ⟨_, J.num_stuck s k (k + 1) hp hd, hk1, rfl, hr⟩, ht⟩
      | true =>
        refine (numeralNegRun b t s k rest w h hk hs hm hk1 h0 hd).mono ?_
        rintro e w' ⟨rfl, hr, ht⟩
        exact ⟨.inl ⟨_, J.num_run s k (k + 1) hp h0 hd, J.run_le _ _ _ hk1, rfl, hr⟩, ht⟩
  · have hp : J.sign s k = k := by unfold J.sign; rw [if_neg hm]
    by_cases h0 : J.peek s k = 48
    · refine (numeralPosZero b t s k rest w h hk hs hm hk h0).mono ?_
      rintro e w' ⟨rfl, hr, ht⟩
      have := J.num_zero s k k hp h0
      exact ⟨.inl ⟨_, this.1, this.2, rfl, hr⟩, ht⟩
    · cases hd : (decide (48 ≤ J.peek s k) && decide (J.peek s k ≤ 57)) with
      | false =>
        refine (numeralPosStuck b t s k rest w h hk hs hm hk h0 hd).mono ?_
        rintro e w' ⟨rfl, hr, ht⟩
        exact ⟨.inr ⟨_, J.num_stuck s k k hp hd, hk, rfl, hr⟩, ht⟩
      | true =>
        refine (numeralPosRun b t s k rest w h hk hs hm hk h0 hd).mono ?_
        rintro e w' ⟨rfl, hr, ht⟩
        exact ⟨.inl ⟨_, J.num_run s k k hp h0 hd, J.run_le _ _ _ hk, rfl, hr⟩, ht⟩
end Go.Proofs.YtabpjknbdahddaaGreatDoor
