/-
  impl.EncodeString and spec.EncodeString answer encS.
-/
import Derived.Test.YtlbmpldknfcfhaaDoorV16
namespace Go.Proofs.YtlbmpldknfcfhaaDoor
open Go.RowKit
set_option linter.unusedVariables false

set_option maxHeartbeats 1000000 in
theorem eqTextResult_same (x : Int) (y : ByteArray) (w : World) :
    Calls Tryd.prog 10 #[.agg #[.int .i64 x, .string y], .agg #[.int .i64 x, .string y]] w fun e w' => e = .returned (.bool true) ∧ Below w.heap.size w w' := by
  go_enter Tryd.func10, Tryd.ntmps10
  go_wp2
  go_ret
  exact ⟨rfl, by repeat (first | exact Below.refl _ _ | refine Below.setCell ?_ (Nat.le_refl _) _ | refine Below.alloc ?_ (by simp <;> omega) _)⟩

end Go.Proofs.YtlbmpldknfcfhaaDoor
