/-
  (*scalarReader).numeral against the plain 'num': where it stands behind a number, or where it stuck.
  A numeral by the library's words: what strconv.ParseInt says of it.
-/
import Derived.Test.YtikeffckhklhbaaGreatDoorX04
import Derived.Test.YtikeffckhklhbaaGreatDoorX25
import Derived.Lib.ParseIntB
namespace Go.Proofs.YtikeffckhklhbaaGreatDoor
open Go.RowKit
set_option linter.unusedVariables false

/-- What numeral leaves: behind a number, or an error at the place where it stuck. -/
def NumLeft (b : Nat) (t : TypeId) (s : ByteArray) (k : Nat) (rest : List Value) (e : Ending) (w' : World) : Prop :=
  (∃ m : Nat, J.num s k = ((m : Int), 0) ∧ m ≤ s.size ∧ e = .returned .nilIface ∧ Rd w' b t s m rest) ∨
  (∃ m : Nat, J.num s k = (-1, (m : Int)) ∧ m ≤ s.size ∧ e = .returned (.iface 55 (.agg #[.int .i64 5, .int .i64 m])) ∧ Rd w' b t s m rest)

theorem J.num_zero (s : ByteArray) (k p : Nat) (hp : J.sign s k = p) (h : J.peek s p = 48) : J.num s k = (((p + 1 : Nat) : Int), 0) ∧ p + 1 ≤ s.size := by
  have hl := J.peek_lt s p 48 (by decide) h
  rw [J.peek_in s p hl] at h
  refine ⟨?_, by omega⟩
  unfold J.num
  simp only [hp]
  rw [dif_pos hl, if_neg (by unfold J.dig; rw [h]; decide), if_pos (by omega)]
  rfl
theorem J.num_stuck (s : ByteArray) (k p : Nat) (hp : J.sign s k = p) (h : (decide (48 ≤ J.peek s p) && decide (J.peek s p ≤ 57)) = false) : J.num s k = (-1, (p : Int)) := by
  unfold J.num
  simp only [hp]
  by_cases hl : p < s.size
  · rw [dif_pos hl, if_pos (by rw [J.dig_peek s p hl]; exact h)]
  · rw [dif_neg hl]
theorem J.num_run (s : ByteArray) (k p : Nat) (hp : J.sign s k = p) (h0 : J.peek s p ≠ 48) (h : (decide (48 ≤ J.peek s p) && decide (J.peek s p ≤ 57)) = true) : J.num s k = (((J.run J.dig s p : Nat) : Int), 0) := by
  have hl : p < s.size := by
    by_cases hl : p < s.size
    · exact hl
    · rw [J.peek_out s p hl] at h; simp at h
  unfold J.num
  simp only [hp]
  rw [dif_pos hl, if_neg (by rw [J.dig_peek s p hl, h]; simp), if_neg (by rw [J.peek_in s p hl] at h0; omega)]

theorem numeral_any (b : Nat) (t : TypeId) (s : ByteArray) (k : Nat) (rest : List Value) (w : World) (h : Rd w b t s k rest) (hk : k ≤ s.size) (hs : s.size ≤ 1048576) :
    Calls Tryz.prog 118 #[.pointer (some ⟨b, 0, none⟩)] w fun e w' => NumLeft b t s k rest e w' ∧ Tch w.heap.size b w w' := by
  by_cases hm : J.peek s k = 45
  · have hp : J.sign s k = k + 1 := by unfold J.sign; rw [if_pos hm]
    have hk1 : k + 1 ≤ s.size := by have := J.peek_lt s k 45 (by decide) hm; omega
    by_cases h0 : J.peek s (k + 1) = 48
    · refine (numeralNegZero b t s k rest w h hk hs hm hk1 h0).mono ?_
      rintro e w' ⟨rfl, hr, ht⟩
      have := J.num_zero s k (k + 1) hp h0
      exact ⟨.inl ⟨_, this.1, this.2, rfl, hr⟩, ht⟩
    · cases hd : (decide (48 ≤ J.peek s (k + 1)) && decide (J.peek s (k + 1) ≤ 57)) with
      | false =>
        refine (numeralNegStuck b t s k rest w h hk hs hm hk1 h0 hd).mono ?_
        rintro e w' ⟨rfl, hr, ht⟩
        exact ⟨.inr ⟨_, J.num_stuck s k (k + 1) hp hd, hk1, rfl, hr⟩, ht⟩
      | true =>
        refine (numeralNegRun b t s k rest w h hk hs hm hk1 h0 hd).mono ?_
        rintro e w' ⟨rfl, hr, ht⟩
        exact ⟨.inl ⟨_, J.num_run s k (k + 1) hp h0 hd, J.run_le _ _ _ hk1, rfl, hr⟩, ht⟩
  · have hp : J.sign s k = k := by unfold J.sign; rw [if_neg hm]
    by_cases h0 : J.peek s k = 48
    · refine (numeralPosZero b t s k rest w h hk hs hm hk h0).mono ?_
      rintro e w' ⟨rfl, hr, ht⟩
      have := J.num_zero s k k hp h0
      exact ⟨.inl ⟨_, this.1, this.2, rfl, hr⟩, ht⟩
    · cases hd : (decide (48 ≤ J.peek s k) && decide (J.peek s k ≤ 57)) with
      | false =>
        refine (numeralPosStuck b t s k rest w h hk hs hm hk h0 hd).mono ?_
        rintro e w' ⟨rfl, hr, ht⟩
        exact ⟨.inr ⟨_, J.num_stuck s k k hp hd, hk, rfl, hr⟩, ht⟩
      | true =>
        refine (numeralPosRun b t s k rest w h hk hs hm hk h0 hd).mono ?_
        rintro e w' ⟨rfl, hr, ht⟩
        exact ⟨.inl ⟨_, J.num_run s k k hp h0 hd, J.run_le _ _ _ hk, rfl, hr⟩, ht⟩
end Go.Proofs.YtikeffckhklhbaaGreatDoor

namespace Go.Proofs.YtikeffckhklhbaaGreatDoor
open Go.RowKit
set_option linter.unusedVariables false

namespace J
def valN (acc : Nat) (l : List UInt8) : Nat := l.foldl (fun n b => n * 10 + (b.toNat - 48)) acc
theorem valN_ge (l : List UInt8) : ∀ acc, acc ≤ valN acc l := by
  induction l with
  | nil => intro acc; exact Nat.le_refl _
  | cons c r ih => intro acc; have := ih (acc * 10 + (c.toNat - 48)); unfold valN at *; rw [List.foldl_cons]; omega
theorem parseM_cases (l : List UInt8) : ∀ acc, (∀ c ∈ l, 48 ≤ c.toNat ∧ c.toNat ≤ 57) → acc ≤ 18446744073709551615 →
    (Lib.parseUintM 18446744073709551615 acc l = .ok (valN acc l) ∧ valN acc l ≤ 18446744073709551615) ∨ (Lib.parseUintM 18446744073709551615 acc l = .range ∧ 18446744073709551615 < valN acc l) := by
  induction l with
  | nil => intro acc _ h; exact .inl ⟨rfl, h⟩
  | cons c r ih =>
    intro acc hd h
    have hc := hd c (by simp)
    have e : valN acc (c :: r) = valN (acc * 10 + (c.toNat - 48)) r := by unfold valN; rw [List.foldl_cons]
    have hge := valN_ge r (acc * 10 + (c.toNat - 48))
    rw [Lib.parseUintM, if_pos hc, e]
    by_cases h1 : 1844674407370955162 ≤ acc
    · rw [if_pos h1]; exact .inr ⟨rfl, by omega⟩
    rw [if_neg h1]
    by_cases h2 : 18446744073709551615 < acc * 10 + (c.toNat - 48)
    · rw [if_pos h2]; exact .inr ⟨rfl, by omega⟩
    rw [if_neg h2]
    exact ih _ (fun x hx => hd x (by simp [hx])) (by omega)
theorem valN_valK (D : ByteArray) (hd : allDig D) (k : Nat) (hk : k ≤ D.size) : ((valN 0 (D.data.toList.take k) : Nat) : Int) = valK D k := by
  induction k with
  | zero => rfl
  | succ k ih =>
    have h1 := ih (by omega)
    have h2 := dig_yes (hd k (by omega))
    rw [valK_succ D k (by omega), ← h1, take_snoc D k (by omega)]
    unfold valN
    rw [List.foldl_append]
    simp only [List.foldl_cons, List.foldl_nil]
    omega
theorem valN_whole (D : ByteArray) (hd : allDig D) : ((valN 0 D.data.toList : Nat) : Int) = valK D D.size := by
  rw [← valN_valK D hd D.size (Nat.le_refl _), List.take_of_length_le (by simp)]
theorem digs_mem (D : ByteArray) (hd : allDig D) : ∀ c ∈ D.data.toList, 48 ≤ c.toNat ∧ c.toNat ≤ 57 := by
  intro c hc
  obtain ⟨i, hi, rfl⟩ := List.getElem_of_mem hc
  have hi2 : i < D.size := by simpa using hi
  have := dig_yes (hd i hi2)
  have e : D.data.toList[i] = D[i] := rfl
  rw [e]
  omega
theorem valK_big (D : ByteArray) (hd : allDig D) (h0 : 0 < D.size) (hz : D[0].toNat ≠ 48) : ∀ k, k + 1 ≤ D.size → ((10 ^ k : Nat) : Int) ≤ valK D (k + 1) := by
  intro k
  induction k with
  | zero =>
    intro hk
    have h2 := dig_yes (hd 0 (by omega))
    rw [valK_succ D 0 (by omega), valK_zero]
    simp only [Nat.pow_zero]
    omega
  | succ k ih =>
    intro hk
    have h1 := ih (by omega)
    have h2 := dig_yes (hd (k + 1) (by omega))
    rw [valK_succ D (k + 1) (by omega), Nat.pow_succ]
    push_cast at h1 ⊢
    omega
/-- A numeral of more than one digit does not begin with 0. -/
theorem first_digit {s : ByteArray} (h : isNum s) (h2 : 1 < (digitsOf s).size) : ∃ h0 : 0 < (digitsOf s).size, (digitsOf s)[0].toNat ≠ 48 := by
  refine ⟨by omega, fun e => ?_⟩
  obtain ⟨h1, h3⟩ := h
  by_cases hp : peek s 0 = 45
  · have es : sign s 0 = 1 := by unfold sign; rw [if_pos hp]
    have ed : digitsOf s = s.extract 1 s.size := by unfold digitsOf; rw [if_pos hp]
    simp only [ed] at e h2
    rw [ByteArray.size_extract] at h2
    rw [ByteArray.getElem_extract] at e
    have hz := (J.num_zero s 0 1 es (by rw [peek_in s 1 (by omega)]; simp only [Nat.add_zero] at e; omega)).1
    rw [hz] at h1
    simp only at h1
    omega
  · have es : sign s 0 = 0 := by unfold sign; rw [if_neg hp]
    have ed : digitsOf s = s := by unfold digitsOf; rw [if_neg hp]
    simp only [ed] at e h2
    have hz := (J.num_zero s 0 0 es (by rw [peek_in s 0 (by omega)]; omega)).1
    rw [hz] at h1
    simp only at h1
    omega
theorem numVal_two {s : ByteArray} (h : isNum s) : (numVal (negOf s) (digitsOf s)).2 = decide (valK (digitsOf s) (digitsOf s).size ≤ 1000000000000000) := by
  have hd := digits_all h
  unfold numVal
  by_cases hb : 1000000000000000 < valK (digitsOf s) (digitsOf s).size
  · rw [if_pos (.inr hb), decide_eq_false (by omega)]
  · have h16 : ¬ 16 < (digitsOf s).size := fun h16 => by
      obtain ⟨h0, hz⟩ := first_digit h (by omega)
      have := valK_big (digitsOf s) hd h0 hz ((digitsOf s).size - 1) (by omega)
      rw [show (digitsOf s).size - 1 + 1 = (digitsOf s).size by omega] at this
      have h2 : 10 ^ 16 ≤ 10 ^ ((digitsOf s).size - 1) := Nat.pow_le_pow_right (by omega) (by omega)
      have h3 : (10 : Nat) ^ 16 = 10000000000000000 := by decide
      omega
    rw [if_neg (by omega), decide_eq_true (by omega)]
    split <;> rfl
theorem numVal_one {s : ByteArray} (h : isNum s) (hb : valK (digitsOf s) (digitsOf s).size ≤ 1000000000000000) : (numVal (negOf s) (digitsOf s)).1 = if negOf s = true then -(valK (digitsOf s) (digitsOf s).size) else valK (digitsOf s) (digitsOf s).size := by
  have h2 := numVal_two h
  rw [decide_eq_true hb] at h2
  unfold numVal at h2 ⊢
  split at h2
  · cases h2
  · rename_i hn; rw [if_neg hn]; split <;> rfl
/-- What ParseInt makes of a numeral. -/
theorem parse_num {s : ByteArray} (h : isNum s) : Lib.parseIntB 64 s.data.toList = .range ∧ 1000000000000000 < valK (digitsOf s) (digitsOf s).size ∨
    Lib.parseIntB 64 s.data.toList = .ok (if negOf s = true then -(valK (digitsOf s) (digitsOf s).size) else valK (digitsOf s) (digitsOf s).size) ∧ valK (digitsOf s) (digitsOf s).size ≤ 9223372036854775808 := by
  have hd := digits_all h
  have hm := digs_mem _ hd
  have hw := valN_whole _ hd
  have h0 := h.2
  have hpk := peek_in s 0 h0
  obtain ⟨c, r, hl⟩ : ∃ c r, s.data.toList = c :: r := by
    cases e : s.data.toList with
    | nil =>
      have h3 := congrArg List.length e
      have h4 : s.data.toList.length = s.size := by simp
      rw [h4] at h3
      simp only [List.length_nil] at h3
      omega
    | cons c r => exact ⟨c, r, rfl⟩
  have hc0 : s[0] = c := by
    have : s.data.toList[0]'(by simpa using h0) = c := by simp only [hl, List.getElem_cons_zero]
    exact this
  have hP := parseM_cases (digitsOf s).data.toList 0 hm (by omega)
  generalize hV : valK (digitsOf s) (digitsOf s).size = V at *
  by_cases hp : peek s 0 = 45
  · have hc : c.toNat = 45 := by rw [hpk, hc0] at hp; omega
    have en : negOf s = true := by unfold negOf; simp [hp]
    have ed : (digitsOf s).data.toList = r := by
      unfold digitsOf
      rw [if_pos hp]
      have : (s.extract 1 s.size).data.toList = s.data.toList.drop 1 := by
        rw [ByteArray.data_extract, Array.toList_extract]
        simp only [List.extract_eq_take_drop]
        rw [List.take_of_length_le (by simp)]
      rw [this, hl]; rfl
    have hr : r ≠ [] := fun e => by
      have hs1 : s.size = 1 := by have := congrArg List.length hl; rw [e] at this; simpa using this
      obtain ⟨q1, _⟩ := h
      unfold num at q1
      have es : sign s 0 = 1 := by unfold sign; rw [if_pos hp]
      rw [es, dif_neg (by omega)] at q1
      simp only at q1
      omega
    rw [ed] at hP hw
    rw [hl, en, if_pos rfl, Lib.parseIntB]
    simp only [hc]
    rw [if_pos (by decide)]
    unfold Lib.parseUintB
    rw [if_neg hr]
    rcases hP with ⟨e1, e2⟩ | ⟨e1, e2⟩
    · rw [show (2 ^ 64 - 1 : Nat) = 18446744073709551615 by decide, e1]
      simp only [not_true_eq_false, false_and, if_false, true_and, if_true]
      by_cases hb : (2 ^ (64 - 1) : Nat) < valN 0 r
      · rw [if_pos hb]
        have h63 : (2 ^ (64 - 1) : Nat) = 9223372036854775808 := by decide
        exact .inl ⟨rfl, by omega⟩
      · rw [if_neg hb]
        have h63 : (2 ^ (64 - 1) : Nat) = 9223372036854775808 := by decide
        exact .inr ⟨by rw [hw], by omega⟩
    · rw [show (2 ^ 64 - 1 : Nat) = 18446744073709551615 by decide, e1]
      exact .inl ⟨rfl, by omega⟩
  · have en : negOf s = false := by unfold negOf; simp [hp]
    have ed : digitsOf s = s := by unfold digitsOf; rw [if_neg hp]
    have hdig : 48 ≤ c.toNat ∧ c.toNat ≤ 57 := hm c (by rw [ed, hl]; simp)
    rw [ed, hl] at hP hw
    rw [hl, en, Lib.parseIntB]
    rw [if_neg (show ¬ (c.toNat = 43 ∨ c.toNat = 45) by omega)]
    unfold Lib.parseUintB
    rw [if_neg (by simp)]
    rcases hP with ⟨e1, e2⟩ | ⟨e1, e2⟩
    · rw [show (2 ^ 64 - 1 : Nat) = 18446744073709551615 by decide, e1]
      have hn : ¬ c.toNat = 45 := by omega
      have h63 : (2 ^ (64 - 1) : Nat) = 9223372036854775808 := by decide
      simp only [hn, not_false_eq_true, true_and, false_and, if_false]
      by_cases hb : (2 ^ (64 - 1) : Nat) ≤ valN 0 (c :: r)
      · rw [if_pos hb]; exact .inl ⟨rfl, by omega⟩
      · rw [if_neg hb]
        exact .inr ⟨by rw [hw]; rfl, by omega⟩
    · rw [show (2 ^ 64 - 1 : Nat) = 18446744073709551615 by decide, e1]
      exact .inl ⟨rfl, by omega⟩
end J

end Go.Proofs.YtikeffckhklhbaaGreatDoor
