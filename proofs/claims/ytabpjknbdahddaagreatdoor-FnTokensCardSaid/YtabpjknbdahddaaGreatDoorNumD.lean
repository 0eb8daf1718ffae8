/-
  spec.DecodeNumber.
-/
import Derived.Test.YtabpjknbdahddaaGreatDoorNumV
namespace Go.Proofs.YtabpjknbdahddaaGreatDoor
open Go.RowKit
set_option linter.unusedVariables false

namespace J
theorem isNum_digs {s : ByteArray} (h : isNum s) : ∀ j (hj : j < s.size), sign s 0 ≤ j → dig s[j] = true := by
  obtain ⟨h1, h2⟩ := h
  unfold num at h1
  by_cases hp : sign s 0 < s.size
  · rw [dif_pos hp] at h1
    cases hd : dig s[sign s 0] with
    | false => rw [if_pos hd] at h1; simp only at h1; omega
    | true =>
      rw [if_neg (by rw [hd]; simp)] at h1
      by_cases h0 : s[sign s 0].toNat = 48
      · rw [if_pos h0] at h1
        simp only at h1
        intro j hj hle
        have e : j = sign s 0 := by omega
        subst e; exact hd
      · rw [if_neg h0] at h1
        simp only at h1
        exact run_all dig s (sign s 0) (by omega)
  · rw [dif_neg hp] at h1; simp only at h1; omega
def digitsOf (s : ByteArray) : ByteArray := if peek s 0 = 45 then s.extract 1 s.size else s
def negOf (s : ByteArray) : Bool := decide (peek s 0 = 45)
theorem digits_all {s : ByteArray} (h : isNum s) : allDig (digitsOf s) := by
  have hd := isNum_digs h
  unfold digitsOf
  by_cases hp : peek s 0 = 45
  · have e : sign s 0 = 1 := by unfold sign; rw [if_pos hp]
    rw [if_pos hp]
    intro k hk
    have hk2 : 1 + k < s.size := by rw [ByteArray.size_extract] at hk; omega
    rw [ByteArray.getElem_extract]
    exact hd (1 + k) hk2 (by omega)
  · have e : sign s 0 = 0 := by unfold sign; rw [if_neg hp]
    rw [if_neg hp]
    intro k hk
    exact hd k hk (by omega)
/-- What DecodeNumber answers. -/
def numOut (s : ByteArray) : Int × Int :=
  if (num s 0).1 = s.size ∧ 0 < s.size then (if (numVal (negOf s) (digitsOf s)).2 = true then (0, (numVal (negOf s) (digitsOf s)).1) else (3, 0)) else (5, 0)
theorem numOut_no {s : ByteArray} (h : ¬ isNum s) : numOut s = (5, 0) := by unfold isNum at h; unfold numOut; rw [if_neg h]
theorem numOut_big {s : ByteArray} (h : isNum s) (h2 : (numVal (negOf s) (digitsOf s)).2 = false) : numOut s = (3, 0) := by unfold isNum at h; unfold numOut; rw [if_pos h, if_neg (by rw [h2]; simp)]
theorem numOut_ok {s : ByteArray} (h : isNum s) (h2 : (numVal (negOf s) (digitsOf s)).2 = true) : numOut s = (0, (numVal (negOf s) (digitsOf s)).1) := by unfold isNum at h; unfold numOut; rw [if_pos h, if_pos h2]
end J

/-- spec.l2Value at a numeral. -/
theorem l2Value_any (s : ByteArray) (w : World) (hs : s.size ≤ 1048576) (h : J.isNum s) :
    Calls Tryz.prog 118 #[.string s] w fun e w' => e = .returned (.tuple #[.int .i64 (J.numVal (J.negOf s) (J.digitsOf s)).1, .bool (J.numVal (J.negOf s) (J.digitsOf s)).2]) ∧ w' = w := by
  have hall := J.digits_all h
  have h0 := h.2
  by_cases hp : J.peek s 0 = 45
  · have e1 : J.negOf s = true := by unfold J.negOf; simp [hp]
    have e2 : J.digitsOf s = s.extract 1 s.size := by unfold J.digitsOf; rw [if_pos hp]
    rw [e2] at hall
    rw [e1, e2]
    exact l2Value_neg s _ w h0 hs (by rw [← J.peek_in s 0 h0]; exact hp) rfl hall
  · have e1 : J.negOf s = false := by unfold J.negOf; simp [hp]
    have e2 : J.digitsOf s = s := by unfold J.digitsOf; rw [if_neg hp]
    rw [e2] at hall
    rw [e1, e2]
    exact l2Value_plain s w h0 hs (by rw [← J.peek_in s 0 h0]; exact hp) hall

end Go.Proofs.YtabpjknbdahddaaGreatDoor
