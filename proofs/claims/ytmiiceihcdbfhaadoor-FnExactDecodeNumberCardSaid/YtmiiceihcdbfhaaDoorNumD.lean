/-
  spec.DecodeNumber.
-/
import Derived.Test.YtmiiceihcdbfhaaDoorNumV
namespace Go.Proofs.YtmiiceihcdbfhaaDoor
open Go.RowKit
set_option linter.unusedVariables false

namespace J
theorem isNum_digs {s : ByteArray} (h : isNum s) : ∀ j (hj : j < s.size), sign s 0 ≤ j → dig s[j] = true := by
  obtain ⟨h1, h2⟩ := h
  unfold num at h1
  by_cases hp : sign s 0 < s.size
  · rw [dif_pos hp] at h1
    cases hd : dig s[sign s 0] with
    | false => rw [if_pos hd] at h1; simp only at h1; omega
    | true =>
      rw [if_neg (by rw [hd]; simp)] at h1
      by_cases h0 : s[sign s 0].toNat = 48
      · rw [if_pos h0] at h1
        simp only at h1
        intro j hj hle
        have e : j = sign s 0 := by omega
        subst e; exact hd
      · rw [if_neg h0] at h1
        simp only at h1
        exact run_all dig s (sign s 0) (by omega)
  · rw [dif_neg hp] at h1; simp only at h1; omega
def digitsOf (s : ByteArray) : ByteArray := if peek s 0 = 45 then s.extract 1 s.size else s
def negOf (s : ByteArray) : Bool := decide (peek s 0 = 45)
theorem digits_all {s : ByteArray} (h : isNum s) : allDig (digitsOf s) := by
  have hd := isNum_digs h
  unfold digitsOf
  by_cases hp : peek s 0 = 45
  · have e : sign s 0 = 1 := by unfold sign; rw [if_pos hp]
    rw [if_pos hp]
    intro k hk
    have hk2 : 1 + k < s.size := by rw [ByteArray.size_extract] at hk; omega
    rw [ByteArray.getElem_extract]
    exact hd (1 + k) hk2 (by omega)
  · have e : sign s 0 = 0 := by unfold sign; rw [if_neg hp]
    rw [if_neg hp]
    intro k hk
    exact hd k hk (by omega)
/-- What DecodeNumber answers. -/
def numOut (s : ByteArray) : Int × Int :=
  if (num s 0).1 = s.size ∧ 0 < s.size then (if (numVal (negOf s) (digitsOf s)).2 = true then (0, (numVal (negOf s) (digitsOf s)).1) else (3, 0)) else (5, 0)
theorem numOut_no {s : ByteArray} (h : ¬ isNum s) : numOut s = (5, 0) := by unfold isNum at h; unfold numOut; rw [if_neg h]
theorem numOut_big {s : ByteArray} (h : isNum s) (h2 : (numVal (negOf s) (digitsOf s)).2 = false) : numOut s = (3, 0) := by unfold isNum at h; unfold numOut; rw [if_pos h, if_neg (by rw [h2]; simp)]
theorem numOut_ok {s : ByteArray} (h : isNum s) (h2 : (numVal (negOf s) (digitsOf s)).2 = true) : numOut s = (0, (numVal (negOf s) (digitsOf s)).1) := by unfold isNum at h; unfold numOut; rw [if_pos h, if_pos h2]
end J

/-- spec.l2Value at a numeral. -/
theorem l2Value_any (s : ByteArray) (w : World) (hs : s.size ≤ 1048576) (h : J.isNum s) :
    Calls Tryd.prog 28 #[.string s] w fun e w' => e = .returned (.tuple #[.int .i64 (J.numVal (J.negOf s) (J.digitsOf s)).1, .bool (J.numVal (J.negOf s) (J.digitsOf s)).2]) ∧ w' = w := by
  have hall := J.digits_all h
  have h0 := h.2
  by_cases hp : J.peek s 0 = 45
  · have e1 : J.negOf s = true := by unfold J.negOf; simp [hp]
    have e2 : J.digitsOf s = s.extract 1 s.size := by unfold J.digitsOf; rw [if_pos hp]
    rw [e2] at hall
    rw [e1, e2]
    exact l2Value_neg s _ w h0 hs (by rw [← J.peek_in s 0 h0]; exact hp) rfl hall
  · have e1 : J.negOf s = false := by unfold J.negOf; simp [hp]
    have e2 : J.digitsOf s = s := by unfold J.digitsOf; rw [if_neg hp]
    rw [e2] at hall
    rw [e1, e2]
    exact l2Value_plain s w h0 hs (by rw [← J.peek_in s 0 h0]; exact hp) hall

set_option maxHeartbeats 2000000 in
theorem spec_DecodeNumber (s : ByteArray) (w : World) (hs : s.size ≤ 1048576) :
    Calls Tryd.prog 12 #[.string s] w fun e w' => e = .returned (.agg #[.int .i64 (J.numOut s).1, .int .i64 (J.numOut s).2]) ∧ Below w.heap.size w w' := by
  have HN := hide (fun w => l2Number_any s 0 w (by omega) hs)
  have hb : ∀ o, Below w.heap.size w (w.alloc o) := fun o => (Below.refl _ _).alloc (Nat.le_refl _) o
  have HB := hide hb
  clear hb
  by_cases h : J.isNum s
  · have hn1 := h.1
    have hn2 := h.2
    have HV := hide (fun w => l2Value_any s w hs h)
    have hz1 : ((s.size : Int) != (s.size : Int)) = false := by simp
    have hz2 : ((s.size : Int) == 0) = false := beq_eq_false_iff_ne.2 (by omega)
    cases hok : (J.numVal (J.negOf s) (J.digitsOf s)).2 with
    | true =>
      have fin := hide (J.numOut_ok h hok)
      generalize J.numVal (J.negOf s) (J.digitsOf s) = R at *
      obtain ⟨v, ok⟩ := R
      simp only at hok
      subst hok
      generalize J.num s 0 = N at *
      obtain ⟨e1, e2⟩ := N
      simp only at hn1
      subst hn1
      clear h
      go_enter Tryd.func12, Tryd.ntmps12
      go_wp2_with fail
      refine ((unhide HN) _).mono ?_
      rintro e w1 ⟨rfl, rfl⟩
      go_wp2_with fail
      refine ((unhide HV) _).mono ?_
      rintro e w1 ⟨rfl, rfl⟩
      go_wp2_with fail
      refine bodyPost_ret (v := .agg #[.int .i64 0, .int .i64 v]) (by simp [results, Tryd.results12, go_sem]) rfl ⟨by rw [unhide fin], ?_⟩
      repeat (first | exact Below.refl _ _ | refine Below.setCell ?_ (Nat.le_refl _) _ | refine Below.alloc ?_ (by simp <;> omega) _)
    | false =>
      have fin := hide (J.numOut_big h hok)
      generalize J.numVal (J.negOf s) (J.digitsOf s) = R at *
      obtain ⟨v, ok⟩ := R
      simp only at hok
      subst hok
      generalize J.num s 0 = N at *
      obtain ⟨e1, e2⟩ := N
      simp only at hn1
      subst hn1
      clear h
      go_enter Tryd.func12, Tryd.ntmps12
      go_wp2_with fail
      refine ((unhide HN) _).mono ?_
      rintro e w1 ⟨rfl, rfl⟩
      go_wp2_with fail
      refine ((unhide HV) _).mono ?_
      rintro e w1 ⟨rfl, rfl⟩
      go_wp2_with fail
      refine bodyPost_ret (v := .agg #[.int .i64 3, .int .i64 0]) (by simp [results, Tryd.results12, go_sem]) rfl ⟨by rw [unhide fin], ?_⟩
      repeat (first | exact Below.refl _ _ | refine Below.setCell ?_ (Nat.le_refl _) _ | refine Below.alloc ?_ (by simp <;> omega) _)
  · have fin := hide (J.numOut_no h)
    by_cases h1 : (J.num s 0).1 = s.size
    · have hz0 : s.size = 0 := by
        by_cases hz : 0 < s.size
        · exact absurd ⟨h1, hz⟩ h
        · omega
      have hz2 : ((s.size : Int) == 0) = true := beq_iff_eq.2 (by omega)
      have hz1 : (((J.num s 0).1) != (s.size : Int)) = false := by simp [h1]
      clear hz0
      generalize J.num s 0 = N at *
      obtain ⟨e1, e2⟩ := N
      simp only at h1 hz1
      subst h1
      clear h
      go_enter Tryd.func12, Tryd.ntmps12
      go_wp2_with fail
      refine ((unhide HN) _).mono ?_
      rintro e w1 ⟨rfl, rfl⟩
      go_wp2_with fail
      refine bodyPost_ret (v := .agg #[.int .i64 5, .int .i64 0]) (by simp [results, Tryd.results12, go_sem]) rfl ⟨by rw [unhide fin], ?_⟩
      repeat (first | exact Below.refl _ _ | refine Below.setCell ?_ (Nat.le_refl _) _ | refine Below.alloc ?_ (by simp <;> omega) _)
    · have hz1 : (((J.num s 0).1) == (s.size : Int)) = false := by simp [h1]
      have hz3 : (((J.num s 0).1) != (s.size : Int)) = true := by simp [h1]
      generalize J.num s 0 = N at *
      obtain ⟨e1, e2⟩ := N
      simp only at h1 hz1 hz3
      clear h h1
      go_enter Tryd.func12, Tryd.ntmps12
      go_wp2_with fail
      refine ((unhide HN) _).mono ?_
      rintro e w1 ⟨rfl, rfl⟩
      go_wp2_with fail
      refine bodyPost_ret (v := .agg #[.int .i64 5, .int .i64 0]) (by simp [results, Tryd.results12, go_sem]) rfl ⟨by rw [unhide fin], ?_⟩
      repeat (first | exact Below.refl _ _ | refine Below.setCell ?_ (Nat.le_refl _) _ | refine Below.alloc ?_ (by simp <;> omega) _)
end Go.Proofs.YtmiiceihcdbfhaaDoor
