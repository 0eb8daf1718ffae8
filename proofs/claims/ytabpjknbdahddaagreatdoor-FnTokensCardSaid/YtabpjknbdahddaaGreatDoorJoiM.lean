/-
  Joined tokens: plain.
-/
import Derived.Test.YtabpjknbdahddaaGreatDoorTokM
import Derived.Test.YtabpjknbdahddaaGreatDoorTkM
import Derived.Lib.Join
import Derived.Lib.ItoaLen
namespace Go.Proofs.YtabpjknbdahddaaGreatDoor
open Go.RowKit
set_option linter.unusedVariables false
namespace J
def tokT (t : Tk) : Int × ByteArray := tokOut t.kind t.num t.text
theorem tokT_bad {t : Tk} (h : (tokT t).1 ≠ 0) : (tokT t).2 = ByteArray.empty := by
  unfold tokT tokOut at *
  repeat' split
  all_goals (first | rfl | (exfalso; apply h; simp [*]))
theorem tokT_size {t : Tk} (h : t.text.size ≤ 1048576) : (tokT t).2.size ≤ 1048800 := by
  unfold tokT tokOut
  split
  · show (0 : Nat) ≤ _; omega
  split
  · show (0 : Nat) ≤ _; omega
  split
  · show (0 : Nat) ≤ _; omega
  rename_i h1 h2 h3
  unfold tokText
  split
  · have h := Lib.itoa_length_le t.num (by omega) (by omega)
    unfold Lib.itoa at h
    rw [if_neg (by omega)] at h
    show (Lib.decDigits t.num.toNat).toArray.size ≤ _
    simp only [List.size_toArray]
    omega
  split
  · rename_i k2
    have hf : tokFits t.kind t.text = true := by cases hq : tokFits t.kind t.text with
      | true => rfl
      | false => exact absurd (Or.inr hq) h2
    rw [k2] at hf
    have h : M.textOk t.text = true := hf
    unfold M.textOk at h
    simp only [Bool.and_eq_true, decide_eq_true_eq] at h
    rw [bytes_size]
    have := quote_length t.text
    omega
  split
  · rw [ByteArray.size_append]; show 1 + _ ≤ _; omega
  split
  · rw [ByteArray.size_append]; show 1 + _ ≤ _; omega
  · show t.text.size ≤ _; omega
/-- The first k tokens, joined. -/
def joinK (l : List Tk) : Nat → ByteArray
  | 0 => ByteArray.empty
  | k + 1 => (if k = 0 then joinK l k else joinK l k ++ ⟨#[32]⟩) ++ (tokT (l.getD k Tk.zero)).2
def badAt : List Tk → Int
  | [] => 0
  | t :: r => if (tokT t).1 = 0 then badAt r else (tokT t).1
theorem badAt_hit (l : List Tk) (k : Nat) (h : ∀ j, j < k → (tokT (l.getD j Tk.zero)).1 = 0) (hk : k < l.length) (hz : (tokT (l.getD k Tk.zero)).1 ≠ 0) : badAt l = (tokT (l.getD k Tk.zero)).1 := by
  induction l generalizing k with
  | nil => simp at hk
  | cons t r ih =>
    cases k with
    | zero => rw [badAt]; simp only [List.getD_cons_zero] at *; rw [if_neg hz]
    | succ k =>
      have h0 : (tokT t).1 = 0 := h 0 (by omega)
      rw [badAt, if_pos h0]
      exact ih k (fun j hj => h (j + 1) (by omega)) (by simpa using hk) hz
theorem badAt_none (l : List Tk) (h : ∀ j, j < l.length → (tokT (l.getD j Tk.zero)).1 = 0) : badAt l = 0 := by
  induction l with
  | nil => rfl
  | cons t r ih =>
    have h0 : (tokT t).1 = 0 := h 0 (by simp)
    rw [badAt, if_pos h0]
    exact ih (fun j hj => h (j + 1) (by simpa using hj))
def joinOut (l : List Tk) : Int × ByteArray := if 300 < l.length then (2, ByteArray.empty) else if badAt l = 0 then (0, joinK l l.length) else (badAt l, ByteArray.empty)
theorem join_many {l : List Tk} (h : 300 < l.length) : joinOut l = (2, ByteArray.empty) := if_pos h
theorem join_bad {l : List Tk} (h : ¬ 300 < l.length) (hz : badAt l ≠ 0) : joinOut l = (badAt l, ByteArray.empty) := by unfold joinOut; rw [if_neg h, if_neg hz]
theorem join_ok {l : List Tk} (h : ¬ 300 < l.length) (hz : badAt l = 0) : joinOut l = (0, joinK l l.length) := by unfold joinOut; rw [if_neg h, if_pos hz]
theorem joinK_size (l : List Tk) (k : Nat) (h : ∀ j, j < k → (l.getD j Tk.zero).text.size ≤ 1048576) : (joinK l k).size ≤ 1048801 * k := by
  induction k with
  | zero => show (0 : Nat) ≤ _; omega
  | succ k ih =>
    have h1 := ih (fun j hj => h j (by omega))
    have h2 := tokT_size (h k (by omega))
    rw [joinK, ByteArray.size_append]
    split
    · omega
    · rw [ByteArray.size_append]; show _ + 1 + _ ≤ _; omega
theorem joinK_room (l : List Tk) (k : Nat) (hk : k ≤ 300) (h : ∀ j, j < k → (l.getD j Tk.zero).text.size ≤ 1048576) : (joinK l k).size ≤ 400000000 :=
  Nat.le_trans (joinK_size l k h) (Nat.le_trans (Nat.mul_le_mul_left _ hk) (by decide))
/-- The texts of the first k tokens. -/
def textsK (l : List Tk) (k : Nat) : List ByteArray := (List.range k).map fun j => (tokT (l.getD j Tk.zero)).2
theorem textsK_length (l : List Tk) (k : Nat) : (textsK l k).length = k := by simp [textsK]
theorem textsK_succ (l : List Tk) (k : Nat) : textsK l (k + 1) = textsK l k ++ [(tokT (l.getD k Tk.zero)).2] := by simp [textsK, List.range_succ]
theorem join_snoc (xs : List (List UInt8)) (y sep : List UInt8) : Lib.join (xs ++ [y]) sep = if xs = [] then y else Lib.join xs sep ++ sep ++ y := by
  cases xs with
  | nil => simp [Lib.join_one]
  | cons x r =>
    rw [if_neg (by simp), List.cons_append, Lib.join_cons, Lib.join_cons]
    simp [Lib.joinTail]
theorem joinK_join (l : List Tk) (k : Nat) : joinK l k = ⟨(Lib.join ((textsK l k).map (·.data.toList)) [32]).toArray⟩ := by
  induction k with
  | zero => rfl
  | succ k ih =>
    refine ba_eq ?_
    rw [textsK_succ, List.map_append, List.map_cons, List.map_nil, join_snoc, joinK, ByteArray.data_append]
    by_cases hk : k = 0
    · subst hk
      rw [if_pos rfl, if_pos (by simp [textsK])]
      show #[] ++ _ = _
      simp
    · rw [if_neg hk, if_neg (by simp [textsK, hk]), ByteArray.data_append, ih]
      simp
end J

end Go.Proofs.YtabpjknbdahddaaGreatDoor
