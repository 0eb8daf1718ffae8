/-
  spec.LengthOf and impl.LengthOf.
-/
import Derived.Test.YthaabakpcokomaaBld
import Derived.Test.YthaabakpcokomaaBoth
namespace Go.Proofs.Ythaabakpcokomaa
open Go.RowKit
set_option linter.unusedVariables false

/-- The size of a number. -/
def size (n : Int) : Int := if n < 0 then -n else n
def lenN (c : M.Cl) : Int := if c.kind = 0 then 0 else if c.kind = 3 then size c.num else if c.kind = 4 then c.text.size else c.n
def lenIn (c : M.Cl) : Int × List M.Cl := if c.kind = 1 ∨ c.kind = 2 then (6, []) else (0, [⟨3, lenN c, ByteArray.empty, ByteArray.empty, 0⟩])
def lenOut (v : List M.Cl) : Int × List M.Cl := if M.valueFault v ≠ 0 then (M.valueFault v, []) else lenIn (v.getD 0 M.zero)
theorem len_bad {v : List M.Cl} (h : M.valueFault v ≠ 0) : lenOut v = (M.valueFault v, []) := if_pos h
theorem len_ok {v : List M.Cl} (h : M.valueFault v = 0) : lenOut v = lenIn (v.getD 0 M.zero) := by unfold lenOut; rw [if_neg (by simp [h])]
/-- What is known of a cell that has no fault. -/
theorem code_bd {c : M.Cl} (h : M.cellCode c = 0) : 0 ≤ c.kind ∧ c.kind ≤ 6 ∧ -1000000000000000 ≤ c.num ∧ c.num ≤ 1000000000000000 ∧ 0 ≤ c.n ∧ c.n ≤ 200 ∧ M.textOk c.text = true ∧ M.textOk c.key = true := by
  unfold M.cellCode at h
  split at h
  · cases h
  split at h
  · cases h
  split at h
  · cases h
  split at h
  · rename_i h4; exact ⟨by omega, by omega, by omega, by omega, by omega, by omega, h4.1, h4.2⟩
  · cases h
theorem textOk_size {s : ByteArray} (h : M.textOk s = true) : s.size ≤ 60 := by
  unfold M.textOk at h
  rw [Bool.and_eq_true] at h
  exact of_decide_eq_true h.1

theorem lenIn_0 {c : M.Cl} (h : c.kind = 0) : lenIn c = (0, [⟨3, 0, ByteArray.empty, ByteArray.empty, 0⟩]) := by unfold lenIn lenN; rw [if_neg (by omega), if_pos h]
theorem lenIn_3 {c : M.Cl} (h : c.kind = 3) : lenIn c = (0, [⟨3, size c.num, ByteArray.empty, ByteArray.empty, 0⟩]) := by unfold lenIn lenN; rw [if_neg (by omega), if_neg (by omega), if_pos h]
theorem lenIn_4 {c : M.Cl} (h : c.kind = 4) : lenIn c = (0, [⟨3, c.text.size, ByteArray.empty, ByteArray.empty, 0⟩]) := by unfold lenIn lenN; rw [if_neg (by omega), if_neg (by omega), if_neg (by omega), if_pos h]
theorem lenIn_n {c : M.Cl} (h : c.kind = 5 ∨ c.kind = 6) : lenIn c = (0, [⟨3, c.n, ByteArray.empty, ByteArray.empty, 0⟩]) := by unfold lenIn lenN; rw [if_neg (by omega), if_neg (by omega), if_neg (by omega), if_neg (by omega)]
theorem lenIn_b {c : M.Cl} (h : c.kind = 1 ∨ c.kind = 2) : lenIn c = (6, []) := if_pos h
theorem size_bd {n : Int} (n0 : -1000000000000000 ≤ n) (n1 : n ≤ 1000000000000000) : ¬ (size n < -1000000000000000 ∨ 1000000000000000 < size n) := by unfold size; split <;> omega

end Go.Proofs.Ythaabakpcokomaa
