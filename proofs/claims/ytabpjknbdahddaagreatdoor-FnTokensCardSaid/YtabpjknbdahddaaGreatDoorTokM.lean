/-
  What a token's text is: plain functions.
-/
import Derived.Test.YtabpjknbdahddaaGreatDoorMrkT
import Derived.Test.YtabpjknbdahddaaGreatDoorQuoT
import Derived.Test.YtabpjknbdahddaaGreatDoorNamM
import Derived.Lib.ItoaNum
namespace Go.Proofs.YtabpjknbdahddaaGreatDoor
open Go.RowKit
set_option linter.unusedVariables false
namespace J
/-- Is the text what a kind has? -/
def tokFits (k : Int) (s : ByteArray) : Bool :=
  if k = 1 then s.toList.isEmpty else if k = 2 then M.textOk s else if k = 6 then oneOf theMarks s else isName s
def tokText (k n : Int) (s : ByteArray) : ByteArray :=
  if k = 1 then ⟨(Lib.decDigits n.toNat).toArray⟩ else if k = 2 then bytes (quote s) else if k = 4 then ⟨#[46]⟩ ++ s else if k = 5 then ⟨#[36]⟩ ++ s else s
def tokOut (k n : Int) (s : ByteArray) : Int × ByteArray :=
  if k < 1 ∨ 6 < k then (6, ByteArray.empty) else if (k ≠ 1 ∧ n ≠ 0) ∨ tokFits k s = false then (1, ByteArray.empty) else if n < 0 ∨ 1000000000000000 < n then (3, ByteArray.empty) else (0, tokText k n s)
theorem tokOut_kind {k : Int} (n : Int) (s : ByteArray) (h : k < 1 ∨ 6 < k) : tokOut k n s = (6, ByteArray.empty) := by unfold tokOut; rw [if_pos h]
theorem tokOut_num {k n : Int} (s : ByteArray) (h1 : 2 ≤ k) (h2 : k ≤ 6) (hn : n ≠ 0) : tokOut k n s = (1, ByteArray.empty) := by
  unfold tokOut; rw [if_neg (by omega), if_pos (.inl ⟨by omega, hn⟩)]
theorem tokOut_form {k n : Int} {s : ByteArray} (h1 : 1 ≤ k) (h2 : k ≤ 6) (hf : tokFits k s = false) : tokOut k n s = (1, ByteArray.empty) := by
  unfold tokOut; rw [if_neg (by omega), if_pos (.inr hf)]
theorem tokOut_range {n : Int} {s : ByteArray} (hf : tokFits 1 s = true) (hn : n < 0 ∨ 1000000000000000 < n) : tokOut 1 n s = (3, ByteArray.empty) := by
  unfold tokOut; rw [if_neg (by omega), if_neg (by simp [hf]), if_pos hn]
theorem tokOut_one {n : Int} {s : ByteArray} (hf : tokFits 1 s = true) (h0 : 0 ≤ n) (h1 : n ≤ 1000000000000000) : tokOut 1 n s = (0, ⟨(Lib.decDigits n.toNat).toArray⟩) := by
  unfold tokOut; rw [if_neg (by omega), if_neg (by simp [hf]), if_neg (by omega)]; rfl
theorem tokOut_ok {k : Int} {s : ByteArray} (h1 : 2 ≤ k) (h2 : k ≤ 6) (hf : tokFits k s = true) : tokOut k 0 s = (0, tokText k 0 s) := by
  unfold tokOut; rw [if_neg (by omega), if_neg (by simp [hf]), if_neg (by omega)]
end J
theorem second_own (w : World) (o : Obj) (xs : Array Value) (t : TypeId) {l : List Value} (h : xs.toList = l) : Own ((w.alloc o).alloc (.cells xs t)) (w.heap.size + 1) t l := by
  rw [show w.heap.size + 1 = (w.alloc o).heap.size by simp]
  exact ⟨_, heap_alloc_new _ _, h⟩

end Go.Proofs.YtabpjknbdahddaaGreatDoor
