/-
  The small functions of chapter 1 over one text and one cell, of the program and of its model: each returns what the plain function of the same question says.
-/
import Derived.Test.YtepfdlbnnkojbaaGreatDoorRows
import Derived.Test.YtepfdlbnnkojbaaGreatDoorMem
import Derived.WalkKit
import Derived.WalkSpells
import Derived.WalkLawsBesides
namespace Go.Proofs.YtepfdlbnnkojbaaGreatDoor
open Go.RowKit

theorem ret_bool {a b : Bool} (h : a = b) : Ending.returned (.bool a) = .returned (.bool b) := by rw [h]
theorem ret_int {k : IntKind} {a b : Int} (h : a = b) : Ending.returned (.int k a) = .returned (.int k b) := by rw [h]

theorem take_snoc (s : ByteArray) (k : Nat) (h : k < s.size) : s.data.toList.take (k + 1) = s.data.toList.take k ++ [s[k]] := by
  rw [List.take_succ_eq_append_getElem (by simpa using h)]; rfl

theorem all_snoc (s : ByteArray) (k : Nat) (h : k < s.size) : (s.data.toList.take (k + 1)).all M.byteOk = ((s.data.toList.take k).all M.byteOk && M.byteOk s[k]) := by
  rw [take_snoc s k h]; simp

theorem all_stop (s : ByteArray) (k : Nat) (h : k < s.size) (hb : M.byteOk s[k] = false) : M.textOk s = false := by
  have : s.data.toList.all M.byteOk = false := by
    rw [List.all_eq_false]
    refine ⟨s[k], ?_, by simp [hb]⟩
    have hk : k < s.data.toList.length := by simpa using h
    have : s.data.toList[k] = s[k] := rfl
    rw [← this]
    exact List.getElem_mem hk
  simp [M.textOk, this]

theorem all_end (s : ByteArray) (k : Nat) (hk : k = s.size) (hs : s.size ≤ 60) (h : (s.data.toList.take k).all M.byteOk = true) : M.textOk s = true := by
  subst hk
  rw [List.take_of_length_le (by simp)] at h
  simp [M.textOk, hs, h]

theorem long_no (s : ByteArray) (h : 60 < s.size) : M.textOk s = false := by
  simp [M.textOk]; omega

end Go.Proofs.YtepfdlbnnkojbaaGreatDoor
