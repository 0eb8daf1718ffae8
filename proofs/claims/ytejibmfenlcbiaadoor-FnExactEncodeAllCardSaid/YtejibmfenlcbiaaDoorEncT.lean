/-
  impl.EncodeString and spec.EncodeString answer encS.
-/
import Derived.Test.YtejibmfenlcbiaaDoorQuoT
namespace Go.Proofs.YtejibmfenlcbiaaDoor
open Go.RowKit
set_option linter.unusedVariables false

def encS (s : ByteArray) : Int × ByteArray := if M.textOk s = true then (0, J.bytes (J.quote s)) else (5, ByteArray.empty)
theorem encS_bad {s : ByteArray} (h : M.textOk s = false) : encS s = (5, ByteArray.empty) := by unfold encS; rw [if_neg (by simp [h])]
theorem encS_ok {s : ByteArray} (h : M.textOk s = true) : encS s = (0, J.bytes (J.quote s)) := by unfold encS; rw [if_pos h]
theorem textOk_size {s : ByteArray} (h : M.textOk s = true) : s.size ≤ 60 := by
  unfold M.textOk at h
  simp only [Bool.and_eq_true, decide_eq_true_eq] at h
  exact h.1

set_option maxHeartbeats 1000000 in
theorem eqTextResult_same (x : Int) (y : ByteArray) (w : World) :
    Calls Tryd.prog 8 #[.agg #[.int .i64 x, .string y], .agg #[.int .i64 x, .string y]] w fun e w' => e = .returned (.bool true) ∧ Below w.heap.size w w' := by
  go_enter Tryd.func8, Tryd.ntmps8
  go_wp2
  go_ret
  exact ⟨rfl, by repeat (first | exact Below.refl _ _ | refine Below.setCell ?_ (Nat.le_refl _) _ | refine Below.alloc ?_ (by simp <;> omega) _)⟩

end Go.Proofs.YtejibmfenlcbiaaDoor
