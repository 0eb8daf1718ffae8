/-
  Numbers in texts: where one ends and what it is; spec.l2Digit, spec.l2Number.
  What a number in a text is: spec.l2Value.
  spec.DecodeNumber.
  A number within a text: what stands between its ends is a numeral. Plain.
  The program's reader of numbers: isDigit, (*byteReader).stuck, (*scalarReader).numeral.
-/
import Derived.Test.YtikeffckhklhbaaGreatDoorX02
namespace Go.Proofs.YtikeffckhklhbaaGreatDoor
open Go.RowKit
set_option linter.unusedVariables false

namespace J
/-- The first place from k on whose byte is not so. -/
def run (p : UInt8 → Bool) (s : ByteArray) (k : Nat) : Nat := k + ((s.data.toList.drop k).takeWhile p).length
theorem run_cons (s : ByteArray) (k : Nat) (h : k < s.size) : s.data.toList.drop k = s[k] :: s.data.toList.drop (k + 1) := List.drop_eq_getElem_cons (by simpa using h)
theorem run_end (p : UInt8 → Bool) (s : ByteArray) (k : Nat) (h : s.size ≤ k) : run p s k = k := by
  unfold run; rw [List.drop_eq_nil_of_le (by simpa using h)]; rfl
theorem run_stop (p : UInt8 → Bool) (s : ByteArray) (k : Nat) (h : k < s.size) (hb : p s[k] = false) : run p s k = k := by
  unfold run; rw [run_cons s k h, List.takeWhile_cons, hb]; rfl
theorem run_go (p : UInt8 → Bool) (s : ByteArray) (k : Nat) (h : k < s.size) (hb : p s[k] = true) : run p s k = run p s (k + 1) := by
  unfold run; rw [run_cons s k h, List.takeWhile_cons, hb]; simp only [if_true, List.length_cons]; omega
theorem run_le (p : UInt8 → Bool) (s : ByteArray) (k : Nat) (h : k ≤ s.size) : run p s k ≤ s.size := by
  unfold run
  have h1 := (List.takeWhile_sublist p (l := s.data.toList.drop k)).length_le
  rw [List.length_drop] at h1
  have : s.data.toList.length = s.size := by simp
  omega
def dig (b : UInt8) : Bool := decide (48 ≤ (b.toNat : Int)) && decide ((b.toNat : Int) ≤ 57)
theorem dig_yes {b : UInt8} (h : dig b = true) : 48 ≤ (b.toNat : Int) ∧ (b.toNat : Int) ≤ 57 := by
  unfold dig at h; simp only [Bool.and_eq_true, decide_eq_true_eq] at h; exact h
/-- Behind a sign, if there is one. -/
def sign (s : ByteArray) (k : Nat) : Nat := if peek s k = 45 then k + 1 else k
theorem sign_le (s : ByteArray) (k : Nat) (hk : k ≤ s.size) : sign s k ≤ s.size := by
  unfold sign
  split
  · rename_i h; have := peek_lt s k 45 (by decide) h; omega
  · exact hk
/-- Where the number at a place ends, or -1 and where it fails. -/
def num (s : ByteArray) (k : Nat) : Int × Int :=
  if h : sign s k < s.size then
    if dig s[sign s k] = false then (-1, sign s k) else if s[sign s k].toNat = 48 then ((sign s k : Int) + 1, 0) else (run dig s (sign s k), 0)
  else (-1, sign s k)
end J

end Go.Proofs.YtikeffckhklhbaaGreatDoor

namespace Go.Proofs.YtikeffckhklhbaaGreatDoor
open Go.RowKit
set_option linter.unusedVariables false

namespace J
/-- The number that the first k digits tell. -/
def valK (s : ByteArray) (k : Nat) : Int := (s.data.toList.take k).foldl (fun n b => n * 10 + ((b.toNat : Int) - 48)) 0
theorem valK_zero (s : ByteArray) : valK s 0 = 0 := rfl
theorem valK_succ (s : ByteArray) (k : Nat) (h : k < s.size) : valK s (k + 1) = valK s k * 10 + ((s[k].toNat : Int) - 48) := by
  unfold valK; rw [take_snoc s k h, List.foldl_append]; rfl
def allDig (s : ByteArray) : Prop := ∀ k (h : k < s.size), dig s[k] = true
theorem valK_bd (s : ByteArray) (hd : allDig s) (k : Nat) (hk : k ≤ s.size) : 0 ≤ valK s k ∧ valK s k < ((10 ^ k : Nat) : Int) := by
  induction k with
  | zero => rw [valK_zero]; exact ⟨by omega, by simp⟩
  | succ k ih =>
    have h1 := ih (by omega)
    have h2 := dig_yes (hd k (by omega))
    rw [valK_succ s k (by omega), Nat.pow_succ]
    push_cast at h1 ⊢
    omega
/-- What a numeral is: its number, and whether it is one of a value. -/
def numVal (neg : Bool) (d : ByteArray) : Int × Bool :=
  if 16 < d.size ∨ 1000000000000000 < valK d d.size then (0, false) else if neg = true then (-(valK d d.size), true) else (valK d d.size, true)
end J

namespace J
/-- Is it a numeral, whole? -/
def isNum (s : ByteArray) : Prop := (num s 0).1 = s.size ∧ 0 < s.size
theorem run_all (p : UInt8 → Bool) (s : ByteArray) (k : Nat) (h : run p s k = s.size) : ∀ j (hj : j < s.size), k ≤ j → p s[j] = true := by
  intro j hj hkj
  induction hm : s.size - k generalizing k with
  | zero => omega
  | succ m ih =>
    have hk : k < s.size := by omega
    cases hb : p s[k] with
    | false => rw [run_stop p s k hk hb] at h; omega
    | true =>
      by_cases e : j = k
      · subst e; exact hb
      · exact ih (k + 1) (by rw [← run_go p s k hk hb]; exact h) (by omega) (by omega)
end J
end Go.Proofs.YtikeffckhklhbaaGreatDoor

namespace Go.Proofs.YtikeffckhklhbaaGreatDoor
open Go.RowKit
set_option linter.unusedVariables false

namespace J
theorem isNum_digs {s : ByteArray} (h : isNum s) : ∀ j (hj : j < s.size), sign s 0 ≤ j → dig s[j] = true := by
  obtain ⟨h1, h2⟩ := h
  unfold num at h1
  by_cases hp : sign s 0 < s.size
  · rw [dif_pos hp] at h1
    cases hd : dig s[sign s 0] with
    | false => rw [if_pos hd] at h1; simp only at h1; omega
    | true =>
      rw [if_neg (by rw [hd]; simp)] at h1
      by_cases h0 : s[sign s 0].toNat = 48
      · rw [if_pos h0] at h1
        simp only at h1
        intro j hj hle
        have e : j = sign s 0 := by omega
        subst e; exact hd
      · rw [if_neg h0] at h1
        simp only at h1
        exact run_all dig s (sign s 0) (by omega)
  · rw [dif_neg hp] at h1; simp only at h1; omega
def digitsOf (s : ByteArray) : ByteArray := if peek s 0 = 45 then s.extract 1 s.size else s
def negOf (s : ByteArray) : Bool := decide (peek s 0 = 45)
theorem digits_all {s : ByteArray} (h : isNum s) : allDig (digitsOf s) := by
  have hd := isNum_digs h
  unfold digitsOf
  by_cases hp : peek s 0 = 45
  · have e : sign s 0 = 1 := by unfold sign; rw [if_pos hp]
    rw [if_pos hp]
    intro k hk
    have hk2 : 1 + k < s.size := by rw [ByteArray.size_extract] at hk; omega
    rw [ByteArray.getElem_extract]
    exact hd (1 + k) hk2 (by omega)
  · have e : sign s 0 = 0 := by unfold sign; rw [if_neg hp]
    rw [if_neg hp]
    intro k hk
    exact hd k hk (by omega)
/-- What DecodeNumber answers. -/
def numOut (s : ByteArray) : Int × Int :=
  if (num s 0).1 = s.size ∧ 0 < s.size then (if (numVal (negOf s) (digitsOf s)).2 = true then (0, (numVal (negOf s) (digitsOf s)).1) else (3, 0)) else (5, 0)
theorem numOut_no {s : ByteArray} (h : ¬ isNum s) : numOut s = (5, 0) := by unfold isNum at h; unfold numOut; rw [if_neg h]
theorem numOut_big {s : ByteArray} (h : isNum s) (h2 : (numVal (negOf s) (digitsOf s)).2 = false) : numOut s = (3, 0) := by unfold isNum at h; unfold numOut; rw [if_pos h, if_neg (by rw [h2]; simp)]
theorem numOut_ok {s : ByteArray} (h : isNum s) (h2 : (numVal (negOf s) (digitsOf s)).2 = true) : numOut s = (0, (numVal (negOf s) (digitsOf s)).1) := by unfold isNum at h; unfold numOut; rw [if_pos h, if_pos h2]
end J

end Go.Proofs.YtikeffckhklhbaaGreatDoor

namespace Go.Proofs.YtikeffckhklhbaaGreatDoor
open Go.RowKit
set_option linter.unusedVariables false
namespace J
theorem run_ge (p : UInt8 → Bool) (s : ByteArray) (k : Nat) : k ≤ run p s k := by unfold run; omega
theorem run_in (p : UInt8 → Bool) (s : ByteArray) (k : Nat) : ∀ j (hj : j < s.size), k ≤ j → j < run p s k → p s[j] = true := by
  intro j hj hkj hjr
  induction hm : j - k generalizing k with
  | zero =>
    have e : j = k := by omega
    subst e
    cases hb : p s[j] with
    | true => rfl
    | false => rw [run_stop p s j hj hb] at hjr; omega
  | succ m ih =>
    have hk : k < s.size := by omega
    cases hb : p s[k] with
    | false => rw [run_stop p s k hk hb] at hjr; omega
    | true => exact ih (k + 1) (by omega) (by rw [← run_go p s k hk hb]; exact hjr) (by omega)
theorem run_full (p : UInt8 → Bool) (s : ByteArray) (k : Nat) (hk : k ≤ s.size) (h : ∀ j (hj : j < s.size), k ≤ j → p s[j] = true) : run p s k = s.size := by
  induction hm : s.size - k generalizing k with
  | zero => rw [run_end p s k (by omega)]; omega
  | succ m ih =>
    have hk2 : k < s.size := by omega
    rw [run_go p s k hk2 (h k hk2 (Nat.le_refl _))]
    exact ih (k + 1) (by omega) (fun j hj hkj => h j hj (by omega)) (by omega)
theorem ext_size {s : ByteArray} {k m : Nat} (hm : m ≤ s.size) : (s.extract k m).size = m - k := by rw [ByteArray.size_extract]; omega
theorem ext_at {s : ByteArray} {k m j : Nat} (hj : j < (s.extract k m).size) (hk : k + j < s.size) : (s.extract k m)[j] = s[k + j] := by rw [ByteArray.getElem_extract]
theorem ext_peek {s : ByteArray} {k m j : Nat} (hm : m ≤ s.size) (hj : k + j < m) : peek (s.extract k m) j = peek s (k + j) := by
  have h1 : j < (s.extract k m).size := by rw [ext_size hm]; omega
  rw [peek_in _ _ h1, peek_in s (k + j) (by omega), ext_at h1 (by omega)]
/-- What stands between the ends of a number is a numeral. -/
theorem isNum_ext {s : ByteArray} {k m : Nat} (h : num s k = ((m : Int), 0)) (hm : m ≤ s.size) : isNum (s.extract k m) ∧ k < m := by
  unfold num at h
  by_cases hp : sign s k < s.size
  · rw [dif_pos hp] at h
    cases hd : dig s[sign s k] with
    | false => rw [if_pos hd] at h; simp only [Prod.mk.injEq] at h; omega
    | true =>
      rw [if_neg (by rw [hd]; simp)] at h
      have hsk : k ≤ sign s k ∧ sign s k ≤ k + 1 := by unfold sign; split <;> omega
      have hpm : sign s k < m := by
        by_cases h0 : s[sign s k].toNat = 48
        · rw [if_pos h0] at h; simp only [Prod.mk.injEq] at h; omega
        · rw [if_neg h0] at h
          simp only [Prod.mk.injEq] at h
          rw [run_go dig s (sign s k) hp hd] at h
          have := run_ge dig s (sign s k + 1)
          omega
      have hsz := ext_size (s := s) (k := k) hm
      have hsign : sign (s.extract k m) 0 = sign s k - k := by
        have e := ext_peek (s := s) (k := k) (m := m) (j := 0) hm (by omega)
        unfold sign at hpm ⊢
        rw [e, Nat.add_zero]
        split <;> omega
      have hlt : sign (s.extract k m) 0 < (s.extract k m).size := by rw [hsign, hsz]; omega
      have hat : (s.extract k m)[sign (s.extract k m) 0] = s[sign s k] := by
        rw [ext_at hlt (by rw [hsign]; omega)]
        congr 1
        rw [hsign]; omega
      refine ⟨⟨?_, by rw [hsz]; omega⟩, by omega⟩
      unfold num
      rw [dif_pos hlt, hat, if_neg (by rw [hd]; simp)]
      by_cases h0 : s[sign s k].toNat = 48
      · rw [if_pos h0] at h ⊢
        simp only [Prod.mk.injEq] at h ⊢
        rw [hsign, hsz]
        omega
      · rw [if_neg h0] at h ⊢
        simp only [Prod.mk.injEq] at h ⊢
        rw [run_full dig (s.extract k m) _ (by omega) (fun j hj hle => by
          rw [hsz] at hj
          have hj2 : k + j < s.size := by omega
          rw [ext_at (by rw [hsz]; exact hj) hj2]
          exact run_in dig s (sign s k) (k + j) hj2 (by omega) (by omega))]
  · rw [dif_neg hp] at h; simp only [Prod.mk.injEq] at h; omega
/-- A number within a text: a code and a place, or its value and where it ends. -/
def wholeR (s : ByteArray) (k : Nat) : (Int × Nat) ⊕ (Int × Nat) :=
  if (num s k).1 < 0 then .inl (5, (num s k).2.toNat) else if (numOut (s.extract k (num s k).1.toNat)).1 ≠ 0 then .inl (3, k) else .inr ((numOut (s.extract k (num s k).1.toNat)).2, (num s k).1.toNat)
theorem wholeR_no {s : ByteArray} {k m : Nat} (h : num s k = (-1, (m : Int))) : wholeR s k = .inl (5, m) := by
  unfold wholeR; rw [h]; simp
theorem wholeR_yes {s : ByteArray} {k m : Nat} (h : num s k = ((m : Int), 0)) : wholeR s k = if (numOut (s.extract k m)).1 ≠ 0 then .inl (3, k) else .inr ((numOut (s.extract k m)).2, m) := by
  unfold wholeR; rw [h, if_neg (by simp), Int.toNat_natCast]
theorem numOut_code {s : ByteArray} (h : isNum s) : (numOut s).1 = 0 ∨ (numOut s).1 = 3 := by
  cases h2 : (numVal (negOf s) (digitsOf s)).2 with
  | true => rw [numOut_ok h h2]; exact .inl rfl
  | false => rw [numOut_big h h2]; exact .inr rfl
end J

end Go.Proofs.YtikeffckhklhbaaGreatDoor

namespace Go.Proofs.YtikeffckhklhbaaGreatDoor
open Go.RowKit
set_option linter.unusedVariables false

set_option maxHeartbeats 1000000 in
theorem isDigit_any (c : Int) (w : World) : Calls Tryz.prog 125 #[.int .u8 c] w fun e w' => e = .returned (.bool (decide (48 ≤ c) && decide (c ≤ 57))) ∧ w' = w := by
  by_cases h1 : 48 ≤ c
  · by_cases h2 : c ≤ 57
    · go_enter Tryz.func125, Tryz.ntmps125
      go_wp2
      go_ret
      exact ⟨ret_bool (by simp [h1, h2]), rfl⟩
    · go_enter Tryz.func125, Tryz.ntmps125
      go_wp2
      go_ret
      exact ⟨ret_bool (by simp; omega), rfl⟩
  · go_enter Tryz.func125, Tryz.ntmps125
    go_wp2
    go_ret
    exact ⟨ret_bool (by simp; omega), rfl⟩

set_option maxHeartbeats 1000000 in
theorem stuck_any (b : Nat) (t : TypeId) (s : ByteArray) (k : Nat) (rest : List Value) (w : World) (h : Rd w b t s k rest) :
    Calls Tryz.prog 39 #[.pointer (some ⟨b, 0, none⟩)] w fun e w' => e = .returned (.iface 55 (.agg #[.int .i64 5, .int .i64 k])) ∧ Rd w' b t s k rest ∧ Tch w.heap.size b w w' := by
  have r1 := h.cell 1
  simp only [List.getElem?_cons_zero, List.getElem?_cons_succ] at r1
  go_enter Tryz.func39, Tryz.ntmps39
  go_wp2_with fail
  go_ret
  exact ⟨rfl, h, Tch.refl _ _ _⟩

theorem J.dig_peek (s : ByteArray) (k : Nat) (h : k < s.size) : J.dig s[k] = (decide (48 ≤ J.peek s k) && decide (J.peek s k ≤ 57)) := by
  rw [J.peek_in s k h]; rfl

end Go.Proofs.YtikeffckhklhbaaGreatDoor
