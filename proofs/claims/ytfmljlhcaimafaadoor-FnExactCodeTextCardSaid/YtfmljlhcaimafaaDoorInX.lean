/-
  The text of code, plainly.
-/
import Derived.Test.YtfmljlhcaimafaaDoorInC
import Derived.Test.YtfmljlhcaimafaaDoorEncW
import Derived.Lib.ItoaLen
import Derived.Lib.BufferRead
namespace Go.Proofs.YtfmljlhcaimafaaDoor
open Go.RowKit
set_option linter.unusedVariables false
set_option linter.unusedSimpArgs false


namespace Ic
theorem enc_len {p : List M.Cl} (hv : M.valueFault p = 0) : (J.encL 200 p).length ≤ 80000 := by
  have hl := (M.fault_zero hv).1
  have hpl : (part p 0).length ≤ 200 := by have := part_len hv (show 0 < p.length by omega); have := (end_gt hv (show 0 < p.length by omega)).2; have := (M.fault_zero hv).2.1; omega
  rw [← J.encL_whole 199 hv (by omega)]
  exact J.enc_bd 200 hv (by omega) hpl
theorem digits_itoa (u : Nat) : (⟨(Lib.decDigits u).toArray⟩ : ByteArray) = J.bytes (Lib.itoa u) := by
  unfold Lib.itoa; rw [if_neg (by omega), Int.toNat_natCast]; rfl
def wordB (o : Nat) : List UInt8 := (word o).data.toList
theorem word_bytes (o : Nat) : J.bytes (wordB o) = word o := rfl
theorem word_size (o : Nat) : (word o).size = (wordB o).length := by rw [wordB, Array.length_toList]; rfl
theorem word_len (o : Nat) (h : o < 20) : (wordB o).length ≤ 6 := by
  have hh : o = 0 ∨ o = 1 ∨ o = 2 ∨ o = 3 ∨ o = 4 ∨ o = 5 ∨ o = 6 ∨ o = 7 ∨ o = 8 ∨ o = 9 ∨ o = 10 ∨ o = 11 ∨ o = 12 ∨ o = 13 ∨ o = 14 ∨ o = 15 ∨ o = 16 ∨ o = 17 ∨ o = 18 ∨ o = 19 := by omega
  rcases hh with rfl | rfl | rfl | rfl | rfl | rfl | rfl | rfl | rfl | rfl | rfl | rfl | rfl | rfl | rfl | rfl | rfl | rfl | rfl | rfl <;> decide
def preT (i : Nat) (o : Nat) : List UInt8 := (Lib.itoa (i : Int) ++ [32]) ++ wordB o
def argT (c : Ic) : List UInt8 := if argK c.op ≠ 0 then [32] ++ Lib.itoa c.arg else []
def valT (c : Ic) : List UInt8 := if holds c.op = true then [32] ++ J.encL 200 c.val else []
def lineT (i : Nat) (c : Ic) : List UInt8 := ((preT i c.op.toNat ++ argT c) ++ valT c) ++ [10]
def linesT (l : List Ic) : Nat → List UInt8
  | 0 => []
  | k + 1 => linesT l k ++ lineT k (l.getD k zero)
def textOut (l : List Ic) (rg : Int) : Int × ByteArray := if (fault l rg).1 ≠ 0 then ((fault l rg).1, ByteArray.empty) else (0, J.bytes (linesT l l.length))
theorem holds_K {op : Int} (h : holds op = true) : argK op = 0 := by
  unfold holds at h
  have h2 : op = 3 ∨ op = 9 := by simpa using h
  rcases h2 with rfl | rfl <;> decide
theorem one_val {c : Ic} {i n : Nat} {rg : Int} (h : oneF c i n rg = 0) (hh : holds c.op = true) : M.valueFault c.val = 0 := by
  unfold oneF at h
  split at h
  · cases h
  split at h
  · cases h
  split at h
  · rename_i h3; exact absurd h h3.2
  · rename_i h3
    by_cases hz : M.valueFault c.val = 0
    · exact hz
    · exact absurd ⟨hh, by rw [val_bad hz]; exact hz⟩ h3
theorem one_arg {c : Ic} {i n : Nat} {rg : Int} (h : oneF c i n rg = 0) (hn : n ≤ 6000) (hr : rg ≤ 1000) : 0 ≤ c.arg ∧ c.arg ≤ 6000 := by
  have h1 := (one_parts h).2
  have h2 : 0 ≤ low (argK c.op) i := by unfold low; repeat' split; all_goals omega
  have h3 : top (argK c.op) n rg ≤ 6000 := by unfold top; repeat' split; all_goals omega
  omega
theorem line_len {c : Ic} {i n : Nat} {rg : Int} (h : oneF c i n rg = 0) (hn : n ≤ 6000) (hr : rg ≤ 1000) (hi : i < n) : (lineT i c).length ≤ 80100 := by
  obtain ⟨⟨o1, o2⟩, _⟩ := one_parts h
  have ha := one_arg h hn hr
  have h1 := Lib.itoa_length_le (i : Int) (by omega) (by omega)
  have h2 := Lib.itoa_length_le c.arg (by omega) (by omega)
  have h3 := word_len c.op.toNat (by omega)
  have h4 : (argT c).length ≤ 22 := by unfold argT; split <;> simp <;> omega
  have h5 : (valT c).length ≤ 80001 := by
    unfold valT
    split
    · rename_i hh; have := enc_len (one_val h hh); simp; omega
    · simp
  unfold lineT preT
  simp only [List.length_append, List.length_cons, List.length_nil]
  omega
theorem lines_len {l : List Ic} {rg : Int} (h : ∀ j, j < l.length → oneF (l.getD j zero) j l.length rg = 0) (hn : l.length ≤ 6000) (hr : rg ≤ 1000) (k : Nat) (hk : k ≤ l.length) : (linesT l k).length ≤ 80100 * k := by
  induction k with
  | zero => simp [linesT]
  | succ k ih =>
    have h1 := ih (by omega)
    have h2 := line_len (h k (by omega)) hn hr (by omega)
    rw [linesT, List.length_append]
    omega
theorem lines_room {l : List Ic} {rg : Int} (h : ∀ j, j < l.length → oneF (l.getD j zero) j l.length rg = 0) (hn : l.length ≤ 6000) (hr : rg ≤ 1000) (k : Nat) (hk : k ≤ l.length) : (linesT l k).length ≤ 480600000 := by
  have := lines_len h hn hr k hk
  have : 80100 * k ≤ 80100 * 6000 := Nat.mul_le_mul_left _ (by omega)
  omega
theorem field_code2 (c a : Int) (w : World) : (Instr.field 26 (.agg #[.int .i64 c, .int .i64 a, .slice none 0 0, .int .i64 0]) 0).run Tryd.prog w = .ok (.int .i64 c) w := by kernel_rfl
/-- What a line is, way by way. -/
theorem line_val {i : Nat} {c : Ic} (h : holds c.op = true) : lineT i c = (preT i c.op.toNat ++ ([32] ++ J.encL 200 c.val)) ++ [10] := by
  unfold lineT argT valT
  rw [if_neg (by rw [holds_K h]; decide), if_pos h, List.append_nil]
theorem line_arg {i : Nat} {c : Ic} (h : holds c.op = false) (h2 : argK c.op ≠ 0) : lineT i c = (preT i c.op.toNat ++ ([32] ++ Lib.itoa c.arg)) ++ [10] := by
  unfold lineT argT valT
  rw [if_pos h2, if_neg (by rw [h]; decide), List.append_nil]
theorem line_bare {i : Nat} {c : Ic} (h : holds c.op = false) (h2 : argK c.op = 0) : lineT i c = preT i c.op.toNat ++ [10] := by
  unfold lineT argT valT
  rw [if_neg (by rw [h2]; decide), if_neg (by rw [h]; decide), List.append_nil, List.append_nil]
end Ic

end Go.Proofs.YtfmljlhcaimafaaDoor
