/-
  A number within a text: what stands between its ends is a numeral. Plain.
-/
import Derived.Test.YtabpjknbdahddaaGreatDoorNumD
namespace Go.Proofs.YtabpjknbdahddaaGreatDoor
open Go.RowKit
set_option linter.unusedVariables false
namespace J
theorem run_ge (p : UInt8 → Bool) (s : ByteArray) (k : Nat) : k ≤ run p s k := by unfold run; omega
theorem run_in (p : UInt8 → Bool) (s : ByteArray) (k : Nat) : ∀ j (hj : j < s.size), k ≤ j → j < run p s k → p s[j] = true := by
  intro j hj hkj hjr
  induction hm : j - k generalizing k with
  | zero =>
    have e : j = k := by omega
    subst e
    cases hb : p s[j] with
    | true => rfl
    | false => rw [run_stop p s j hj hb] at hjr; omega
  | succ m ih =>
    have hk : k < s.size := by omega
    cases hb : p s[k] with
    | false => rw [run_stop p s k hk hb] at hjr; omega
    | true => exact ih (k + 1) (by omega) (by rw [← run_go p s k hk hb]; exact hjr) (by omega)
theorem run_full (p : UInt8 → Bool) (s : ByteArray) (k : Nat) (hk : k ≤ s.size) (h : ∀ j (hj : j < s.size), k ≤ j → p s[j] = true) : run p s k = s.size := by
  induction hm : s.size - k generalizing k with
  | zero => rw [run_end p s k (by omega)]; omega
  | succ m ih =>
    have hk2 : k < s.size := by omega
    rw [run_go p s k hk2 (h k hk2 (Nat.le_refl _))]
    exact ih (k + 1) (by omega) (fun j hj hkj => h j hj (by omega)) (by omega)
theorem ext_size {s : ByteArray} {k m : Nat} (hm : m ≤ s.size) : (s.extract k m).size = m - k := by rw [ByteArray.size_extract]; omega
theorem ext_at {s : ByteArray} {k m j : Nat} (hj : j < (s.extract k m).size) (hk : k + j < s.size) : (s.extract k m)[j] = s[k + j] := by rw [ByteArray.getElem_extract]
theorem ext_peek {s : ByteArray} {k m j : Nat} (hm : m ≤ s.size) (hj : k + j < m) : peek (s.extract k m) j = peek s (k + j) := by
  have h1 : j < (s.extract k m).size := by rw [ext_size hm]; omega
  rw [peek_in _ _ h1, peek_in s (k + j) (by omega), ext_at h1 (by omega)]
/-- What stands between the ends of a number is a numeral. -/
theorem isNum_ext {s : ByteArray} {k m : Nat} (h : num s k = ((m : Int), 0)) (hm : m ≤ s.size) : isNum (s.extract k m) ∧ k < m := by
  unfold num at h
  by_cases hp : sign s k < s.size
  · rw [dif_pos hp] at h
    cases hd : dig s[sign s k] with
    | false => rw [if_pos hd] at h; simp only [Prod.mk.injEq] at h; omega
    | true =>
      rw [if_neg (by rw [hd]; simp)] at h
      have hsk : k ≤ sign s k ∧ sign s k ≤ k + 1 := by unfold sign; split <;> omega
      have hpm : sign s k < m := by
        by_cases h0 : s[sign s k].toNat = 48
        · rw [if_pos h0] at h; simp only [Prod.mk.injEq] at h; omega
        · rw [if_neg h0] at h
          simp only [Prod.mk.injEq] at h
          rw [run_go dig s (sign s k) hp hd] at h
          have := run_ge dig s (sign s k + 1)
          omega
      have hsz := ext_size (s := s) (k := k) hm
      have hsign : sign (s.extract k m) 0 = sign s k - k := by
        have e := ext_peek (s := s) (k := k) (m := m) (j := 0) hm (by omega)
        unfold sign at hpm ⊢
        rw [e, Nat.add_zero]
        split <;> omega
      have hlt : sign (s.extract k m) 0 < (s.extract k m).size := by rw [hsign, hsz]; omega
      have hat : (s.extract k m)[sign (s.extract k m) 0] = s[sign s k] := by
        rw [ext_at hlt (by rw [hsign]; omega)]
        congr 1
        rw [hsign]; omega
      refine ⟨⟨?_, by rw [hsz]; omega⟩, by omega⟩
      unfold num
      rw [dif_pos hlt, hat, if_neg (by rw [hd]; simp)]
      by_cases h0 : s[sign s k].toNat = 48
      · rw [if_pos h0] at h ⊢
        simp only [Prod.mk.injEq] at h ⊢
        rw [hsign, hsz]
        omega
      · rw [if_neg h0] at h ⊢
        simp only [Prod.mk.injEq] at h ⊢
        rw [run_full dig (s.extract k m) _ (by omega) (fun j hj hle => by
          rw [hsz] at hj
          have hj2 : k + j < s.size := by omega
          rw [ext_at (by rw [hsz]; exact hj) hj2]
          exact run_in dig s (sign s k) (k + j) hj2 (by omega) (by omega))]
  · rw [dif_neg hp] at h; simp only [Prod.mk.injEq] at h; omega
/-- A number within a text: a code and a place, or its value and where it ends. -/
def wholeR (s : ByteArray) (k : Nat) : (Int × Nat) ⊕ (Int × Nat) :=
  if (num s k).1 < 0 then .inl (5, (num s k).2.toNat) else if (numOut (s.extract k (num s k).1.toNat)).1 ≠ 0 then .inl (3, k) else .inr ((numOut (s.extract k (num s k).1.toNat)).2, (num s k).1.toNat)
theorem wholeR_no {s : ByteArray} {k m : Nat} (h : num s k = (-1, (m : Int))) : wholeR s k = .inl (5, m) := by
  unfold wholeR; rw [h]; simp
theorem wholeR_yes {s : ByteArray} {k m : Nat} (h : num s k = ((m : Int), 0)) : wholeR s k = if (numOut (s.extract k m)).1 ≠ 0 then .inl (3, k) else .inr ((numOut (s.extract k m)).2, m) := by
  unfold wholeR; rw [h, if_neg (by simp), Int.toNat_natCast]
theorem numOut_code {s : ByteArray} (h : isNum s) : (numOut s).1 = 0 ∨ (numOut s).1 = 3 := by
  cases h2 : (numVal (negOf s) (digitsOf s)).2 with
  | true => rw [numOut_ok h h2]; exact .inl rfl
  | false => rw [numOut_big h h2]; exact .inr rfl
end J

end Go.Proofs.YtabpjknbdahddaaGreatDoor
