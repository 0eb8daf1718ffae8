/-
  Numbers in texts: where one ends and what it is; spec.l2Digit, spec.l2Number.
-/
import Derived.Test.YtabpjknbdahddaaGreatDoorRdT
namespace Go.Proofs.YtabpjknbdahddaaGreatDoor
open Go.RowKit
set_option linter.unusedVariables false

namespace J
/-- The first place from k on whose byte is not so. -/
def run (p : UInt8 → Bool) (s : ByteArray) (k : Nat) : Nat := k + ((s.data.toList.drop k).takeWhile p).length
theorem run_cons (s : ByteArray) (k : Nat) (h : k < s.size) : s.data.toList.drop k = s[k] :: s.data.toList.drop (k + 1) := List.drop_eq_getElem_cons (by simpa using h)
theorem run_end (p : UInt8 → Bool) (s : ByteArray) (k : Nat) (h : s.size ≤ k) : run p s k = k := by
  unfold run; rw [List.drop_eq_nil_of_le (by simpa using h)]; rfl
theorem run_stop (p : UInt8 → Bool) (s : ByteArray) (k : Nat) (h : k < s.size) (hb : p s[k] = false) : run p s k = k := by
  unfold run; rw [run_cons s k h, List.takeWhile_cons, hb]; rfl
theorem run_go (p : UInt8 → Bool) (s : ByteArray) (k : Nat) (h : k < s.size) (hb : p s[k] = true) : run p s k = run p s (k + 1) := by
  unfold run; rw [run_cons s k h, List.takeWhile_cons, hb]; simp only [if_true, List.length_cons]; omega
theorem run_le (p : UInt8 → Bool) (s : ByteArray) (k : Nat) (h : k ≤ s.size) : run p s k ≤ s.size := by
  unfold run
  have h1 := (List.takeWhile_sublist p (l := s.data.toList.drop k)).length_le
  rw [List.length_drop] at h1
  have : s.data.toList.length = s.size := by simp
  omega
def dig (b : UInt8) : Bool := decide (48 ≤ (b.toNat : Int)) && decide ((b.toNat : Int) ≤ 57)
theorem dig_yes {b : UInt8} (h : dig b = true) : 48 ≤ (b.toNat : Int) ∧ (b.toNat : Int) ≤ 57 := by
  unfold dig at h; simp only [Bool.and_eq_true, decide_eq_true_eq] at h; exact h
/-- Behind a sign, if there is one. -/
def sign (s : ByteArray) (k : Nat) : Nat := if peek s k = 45 then k + 1 else k
theorem sign_le (s : ByteArray) (k : Nat) (hk : k ≤ s.size) : sign s k ≤ s.size := by
  unfold sign
  split
  · rename_i h; have := peek_lt s k 45 (by decide) h; omega
  · exact hk
/-- Where the number at a place ends, or -1 and where it fails. -/
def num (s : ByteArray) (k : Nat) : Int × Int :=
  if h : sign s k < s.size then
    if dig s[sign s k] = false then (-1, sign s k) else if s[sign s k].toNat = 48 then ((sign s k : Int) + 1, 0) else (run dig s (sign s k), 0)
  else (-1, sign s k)
end J

theorem ret_pair {a b c d : Int} (h1 : a = c) (h2 : b = d) : Ending.returned (.tuple #[.int .i64 a, .int .i64 b]) = .returned (.tuple #[.int .i64 c, .int .i64 d]) := by rw [h1, h2]

set_option maxHeartbeats 1000000 in
theorem l2Digit_any (b : UInt8) (w : World) : Calls Tryz.prog 116 #[.int .u8 (b.toNat : Int)] w fun e w' => e = .returned (.bool (J.dig b)) ∧ w' = w := by
  unfold J.dig
  generalize (b.toNat : Int) = c
  by_cases h1 : 48 ≤ c
  · by_cases h2 : c ≤ 57
    · go_enter Tryz.func116, Tryz.ntmps116
      go_wp2
      go_ret
      exact ⟨ret_bool (by simp [h1, h2]), rfl⟩
    · go_enter Tryz.func116, Tryz.ntmps116
      go_wp2
      go_ret
      exact ⟨ret_bool (by simp; omega), rfl⟩
  · go_enter Tryz.func116, Tryz.ntmps116
    go_wp2
    go_ret
    exact ⟨ret_bool (by simp; omega), rfl⟩

set_option maxHeartbeats 2000000 in
/-- spec.l2Number: where a number ends. -/
theorem l2Number_any (s : ByteArray) (k : Nat) (w : World) (hk : k ≤ s.size) (hs : s.size ≤ 1048576) :
    Calls Tryz.prog 117 #[.string s, .int .i64 k] w fun e w' => e = .returned (.tuple #[.int .i64 (J.num s k).1, .int .i64 (J.num s k).2]) ∧ w' = w := by
  by_cases hsg : k < s.size ∧ J.peek s k = 45
  · have hkz : (k : Int) < (s.size : Int) := by omega
    have hc : ((s[k]'hsg.1).toNat : Int) = 45 := by rw [← J.peek_in s k hsg.1]; exact hsg.2
    have hcb : (((s[k]'hsg.1).toNat : Int) == 45) = true := by simp [hc]
    clear hc
    have e1 : J.sign s k = k + 1 := by unfold J.sign; rw [if_pos hsg.2]
    by_cases h1 : k + 1 < s.size
    · have h1z : ¬ (s.size : Int) ≤ ((k : Int) + 1) := by omega
      cases hd : J.dig s[k + 1] with
      | false =>
        have fin := hide (show J.num s k = (-1, ((k : Int) + 1)) by unfold J.num; simp only [e1]; rw [dif_pos h1, if_pos hd] <;> rfl)
        clear e1
        go_enter Tryz.func117, Tryz.ntmps117
        go_wp2_with fail
        refine (l2Digit_any s[k + 1] _).mono ?_
        rintro e w1 ⟨rfl, rfl⟩
        rw [hd]
        go_wp2_with fail
        go_ret2
        exact ⟨by rw [unhide fin] <;> rfl, rfl⟩
      | true =>
        have hdd := J.dig_yes hd
        by_cases h0 : (s[k + 1].toNat : Int) = 48
        · have fin := hide (show J.num s k = (((k : Int) + 1) + 1, 0) by unfold J.num; simp only [e1]; rw [dif_pos h1, if_neg (by rw [hd]; simp), if_pos (by omega)] <;> rfl)
          have h0b : ((s[k + 1].toNat : Int) == 48) = true := by simp [h0]
          clear e1 h0
          go_enter Tryz.func117, Tryz.ntmps117
          go_wp2_with fail
          refine (l2Digit_any s[k + 1] _).mono ?_
          rintro e w1 ⟨rfl, rfl⟩
          rw [hd]
          go_wp2_with fail
          go_ret2
          exact ⟨by rw [unhide fin] <;> rfl, rfl⟩
        · have fin := hide (show J.num s k = (((J.run J.dig s (k + 1) : Nat) : Int), 0) by unfold J.num; simp only [e1]; rw [dif_pos h1, if_neg (by rw [hd]; simp), if_neg (by omega)])
          have h0b : ((s[k + 1].toNat : Int) == 48) = false := by simp [h0]
          clear e1 h0
          go_enter Tryz.func117, Tryz.ntmps117
          go_wp2_with fail
          refine (l2Digit_any s[k + 1] _).mono ?_
          rintro e w1 ⟨rfl, hw1⟩
          rw [hd]
          go_wp2_with fail
          go_loopg [1] (s.size - (k + 1)) (fun gh s1 wr => ∃ j : Nat, Hid (gh = s.size - j) ∧ s1 = .int .i64 j ∧ j ≤ s.size ∧ Hid (J.run J.dig s j = J.run J.dig s (k + 1)) ∧ Hid (wr = w))
          case atStart => exact ⟨k + 1, rfl, by first | rfl | go_num, by omega, rfl, by first | rfl | exact hw1⟩
          case round =>
            obtain ⟨j, hg, rfl, hj, hsk, hw⟩ := hrel
            by_cases hlt : j < s.size
            · have hltz : (j : Int) < (s.size : Int) := by omega
              cases hb : J.dig s[j] with
              | true =>
                have hsk2 := hide ((J.run_go J.dig s j hlt hb).symm.trans hsk.out)
                go_wp2_with fail
                refine (l2Digit_any s[j] _).mono ?_
                rintro e w2 ⟨rfl, rfl⟩
                rw [hb]
                go_wp2_with fail
                go_roundg (s.size - (j + 1))
                case rel => exact ⟨j + 1, rfl, by go_num, by omega, unhide hsk2, hw⟩
                case measure => have := hg.out; omega
              | false =>
                have fin2 := hide ((J.run_stop J.dig s j hlt hb).symm.trans hsk.out)
                go_wp2_with fail
                refine (l2Digit_any s[j] _).mono ?_
                rintro e w2 ⟨rfl, rfl⟩
                rw [hb]
                go_wp2_with fail
                go_ret2
                exact ⟨by rw [unhide fin, ← unhide fin2] <;> rfl, hw⟩
            · have hltz : ¬ (j : Int) < (s.size : Int) := by omega
              have fin2 := hide ((J.run_end J.dig s j (by omega)).symm.trans hsk.out)
              go_wp2_with fail
              go_ret2
              exact ⟨by rw [unhide fin, ← unhide fin2] <;> rfl, hw⟩
    · have h1z : (s.size : Int) ≤ ((k : Int) + 1) := by omega
      have fin := hide (show J.num s k = (-1, ((k : Int) + 1)) by unfold J.num; simp only [e1]; rw [dif_neg h1] <;> rfl)
      clear e1
      go_enter Tryz.func117, Tryz.ntmps117
      go_wp2_with fail
      go_ret2
      exact ⟨by rw [unhide fin] <;> rfl, rfl⟩
  · have hne : J.peek s k ≠ 45 := fun h => hsg ⟨J.peek_lt s k 45 (by decide) h, h⟩
    have hkl : k < s.size → ((if h : k < s.size then ((s[k]).toNat : Int) else 0) == 45) = false := fun h => by rw [dif_pos h, ← J.peek_in s k h]; simp [hne]
    have e1 : J.sign s k = k := by unfold J.sign; rw [if_neg hne]
    by_cases h1 : k < s.size
    · have h1z : ¬ (s.size : Int) ≤ (k : Int) := by omega
      have h1y : (k : Int) < (s.size : Int) := by omega
      have hcb : ((s[k].toNat : Int) == 45) = false := by have := hkl h1; rw [dif_pos h1] at this; exact this
      cases hd : J.dig s[k] with
      | false =>
        have fin := hide (show J.num s k = (-1, (k : Int)) by unfold J.num; simp only [e1]; rw [dif_pos h1, if_pos hd] <;> rfl)
        clear e1
        go_enter Tryz.func117, Tryz.ntmps117
        go_wp2_with fail
        refine (l2Digit_any s[k] _).mono ?_
        rintro e w1 ⟨rfl, rfl⟩
        rw [hd]
        go_wp2_with fail
        go_ret2
        exact ⟨by rw [unhide fin] <;> rfl, rfl⟩
      | true =>
        have hdd := J.dig_yes hd
        by_cases h0 : (s[k].toNat : Int) = 48
        · have fin := hide (show J.num s k = ((k : Int) + 1, 0) by unfold J.num; simp only [e1]; rw [dif_pos h1, if_neg (by rw [hd]; simp), if_pos (by omega)] <;> rfl)
          have h0b : ((s[k].toNat : Int) == 48) = true := by simp [h0]
          clear e1 h0
          go_enter Tryz.func117, Tryz.ntmps117
          go_wp2_with fail
          refine (l2Digit_any s[k] _).mono ?_
          rintro e w1 ⟨rfl, rfl⟩
          rw [hd]
          go_wp2_with fail
          go_ret2
          exact ⟨by rw [unhide fin] <;> rfl, rfl⟩
        · have fin := hide (show J.num s k = (((J.run J.dig s (k) : Nat) : Int), 0) by unfold J.num; simp only [e1]; rw [dif_pos h1, if_neg (by rw [hd]; simp), if_neg (by omega)])
          have h0b : ((s[k].toNat : Int) == 48) = false := by simp [h0]
          clear e1 h0
          go_enter Tryz.func117, Tryz.ntmps117
          go_wp2_with fail
          refine (l2Digit_any s[k] _).mono ?_
          rintro e w1 ⟨rfl, hw1⟩
          rw [hd]
          go_wp2_with fail
          go_loopg [1] (s.size - (k)) (fun gh s1 wr => ∃ j : Nat, Hid (gh = s.size - j) ∧ s1 = .int .i64 j ∧ j ≤ s.size ∧ Hid (J.run J.dig s j = J.run J.dig s (k)) ∧ Hid (wr = w))
          case atStart => exact ⟨k, rfl, by first | rfl | go_num, by omega, rfl, by first | rfl | exact hw1⟩
          case round =>
            obtain ⟨j, hg, rfl, hj, hsk, hw⟩ := hrel
            by_cases hlt : j < s.size
            · have hltz : (j : Int) < (s.size : Int) := by omega
              cases hb : J.dig s[j] with
              | true =>
                have hsk2 := hide ((J.run_go J.dig s j hlt hb).symm.trans hsk.out)
                go_wp2_with fail
                refine (l2Digit_any s[j] _).mono ?_
                rintro e w2 ⟨rfl, rfl⟩
                rw [hb]
                go_wp2_with fail
                go_roundg (s.size - (j + 1))
                case rel => exact ⟨j + 1, rfl, by go_num, by omega, unhide hsk2, hw⟩
                case measure => have := hg.out; omega
              | false =>
                have fin2 := hide ((J.run_stop J.dig s j hlt hb).symm.trans hsk.out)
                go_wp2_with fail
                refine (l2Digit_any s[j] _).mono ?_
                rintro e w2 ⟨rfl, rfl⟩
                rw [hb]
                go_wp2_with fail
                go_ret2
                exact ⟨by rw [unhide fin, ← unhide fin2] <;> rfl, hw⟩
            · have hltz : ¬ (j : Int) < (s.size : Int) := by omega
              have fin2 := hide ((J.run_end J.dig s j (by omega)).symm.trans hsk.out)
              go_wp2_with fail
              go_ret2
              exact ⟨by rw [unhide fin, ← unhide fin2] <;> rfl, hw⟩
    · have h1z : (s.size : Int) ≤ (k : Int) := by omega
      have h1y : ¬ (k : Int) < (s.size : Int) := by omega
      have fin := hide (show J.num s k = (-1, (k : Int)) by unfold J.num; simp only [e1]; rw [dif_neg h1] <;> rfl)
      clear e1
      go_enter Tryz.func117, Tryz.ntmps117
      go_wp2_with fail
      go_ret2
      exact ⟨by rw [unhide fin] <;> rfl, rfl⟩
end Go.Proofs.YtabpjknbdahddaaGreatDoor
