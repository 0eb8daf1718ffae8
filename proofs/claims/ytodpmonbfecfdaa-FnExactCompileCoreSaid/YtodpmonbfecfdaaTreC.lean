/-
  (impl.shape).linksFit: each place that a node names is ahead of it, and no other is there.
  impl.nodeFault tells the code of a node.
-/
import Derived.Test.YtodpmonbfecfdaaTreN
import Derived.Test.YtodpmonbfecfdaaText
import Derived.Test.YtodpmonbfecfdaaTreA
import Derived.Test.YtodpmonbfecfdaaNdM
import Derived.Deep.QuietTactic
import Derived.BigQuiet
namespace Go.Proofs.Ytodpmonbfecfdaa
open Go.RowKit
set_option linter.unusedVariables false
set_option linter.unusedSimpArgs false


set_option maxRecDepth 100000 in
set_option maxHeartbeats 1000000 in
theorem links_0_0_zero (n : Nd) (at_ : Nat) (lo hi : Int) (fv : Value) (hfv : fv.oneCell' = true) (w : World) (p0 : n.a ≠ 0) : Calls Try.prog 71 #[.agg #[.int .i64 0, .int .i64 lo, .int .i64 hi, fv], .agg #[.int .i64 n.a, .int .i64 n.b, .int .i64 n.c], .int .i64 at_] w fun e w' => e = .returned (.bool false) ∧ Below w.heap.size w w' := by
  have HB : Hid (∀ o o', Below w.heap.size w ((w.alloc o).alloc o')) := fun o o' => ((Below.refl _ _).alloc (Nat.le_refl _) o).alloc (by simp [go_sem] <;> omega) o'
  have x0 : ∀ w, (Instr.index 106 (.agg #[.int .i64 n.a, .int .i64 n.b, .int .i64 n.c]) (.int .i64 0)).run Try.prog w = .ok (.int .i64 n.a) w := fun w => by simp [Instr.index, run_underlying Try.underlying106, asIntOf, part, go_sem]
  have x1 : ∀ w, (Instr.index 106 (.agg #[.int .i64 n.a, .int .i64 n.b, .int .i64 n.c]) (.int .i64 1)).run Try.prog w = .ok (.int .i64 n.b) w := fun w => by simp [Instr.index, run_underlying Try.underlying106, asIntOf, part, go_sem]
  have x2 : ∀ w, (Instr.index 106 (.agg #[.int .i64 n.a, .int .i64 n.b, .int .i64 n.c]) (.int .i64 2)).run Try.prog w = .ok (.int .i64 n.c) w := fun w => by simp [Instr.index, run_underlying Try.underlying106, asIntOf, part, go_sem]
  have d0 : (n.a != 0) = true := by simpa using p0
  go_enter Try.func71, Try.ntmps71
  go_wp2_with fail
  refine wp_loop_rounds 1 ?_
  rw [rounds_succ]
  go_wp2_with fail
  go_ret
  exact ⟨rfl, HB.out _ _⟩

set_option maxRecDepth 100000 in
set_option maxHeartbeats 1000000 in
theorem links_0_1_zero (n : Nd) (at_ : Nat) (lo hi : Int) (fv : Value) (hfv : fv.oneCell' = true) (w : World) (p0 : n.a = 0) (p1 : n.b ≠ 0) : Calls Try.prog 71 #[.agg #[.int .i64 0, .int .i64 lo, .int .i64 hi, fv], .agg #[.int .i64 n.a, .int .i64 n.b, .int .i64 n.c], .int .i64 at_] w fun e w' => e = .returned (.bool false) ∧ Below w.heap.size w w' := by
  have HB : Hid (∀ o o', Below w.heap.size w ((w.alloc o).alloc o')) := fun o o' => ((Below.refl _ _).alloc (Nat.le_refl _) o).alloc (by simp [go_sem] <;> omega) o'
  have x0 : ∀ w, (Instr.index 106 (.agg #[.int .i64 n.a, .int .i64 n.b, .int .i64 n.c]) (.int .i64 0)).run Try.prog w = .ok (.int .i64 n.a) w := fun w => by simp [Instr.index, run_underlying Try.underlying106, asIntOf, part, go_sem]
  have x1 : ∀ w, (Instr.index 106 (.agg #[.int .i64 n.a, .int .i64 n.b, .int .i64 n.c]) (.int .i64 1)).run Try.prog w = .ok (.int .i64 n.b) w := fun w => by simp [Instr.index, run_underlying Try.underlying106, asIntOf, part, go_sem]
  have x2 : ∀ w, (Instr.index 106 (.agg #[.int .i64 n.a, .int .i64 n.b, .int .i64 n.c]) (.int .i64 2)).run Try.prog w = .ok (.int .i64 n.c) w := fun w => by simp [Instr.index, run_underlying Try.underlying106, asIntOf, part, go_sem]
  have d0 : (n.a != 0) = false := by simp [p0]
  have d1 : (n.b != 0) = true := by simpa using p1
  clear p0
  go_enter Try.func71, Try.ntmps71
  go_wp2_with fail
  refine wp_loop_rounds 2 ?_
  rw [rounds_succ]
  go_wp2_with fail
  rw [rounds_succ]
  go_wp2_with fail
  go_ret
  exact ⟨rfl, HB.out _ _⟩

set_option maxRecDepth 100000 in
set_option maxHeartbeats 1000000 in
theorem links_0_2_zero (n : Nd) (at_ : Nat) (lo hi : Int) (fv : Value) (hfv : fv.oneCell' = true) (w : World) (p0 : n.a = 0) (p1 : n.b = 0) (p2 : n.c ≠ 0) : Calls Try.prog 71 #[.agg #[.int .i64 0, .int .i64 lo, .int .i64 hi, fv], .agg #[.int .i64 n.a, .int .i64 n.b, .int .i64 n.c], .int .i64 at_] w fun e w' => e = .returned (.bool false) ∧ Below w.heap.size w w' := by
  have HB : Hid (∀ o o', Below w.heap.size w ((w.alloc o).alloc o')) := fun o o' => ((Below.refl _ _).alloc (Nat.le_refl _) o).alloc (by simp [go_sem] <;> omega) o'
  have x0 : ∀ w, (Instr.index 106 (.agg #[.int .i64 n.a, .int .i64 n.b, .int .i64 n.c]) (.int .i64 0)).run Try.prog w = .ok (.int .i64 n.a) w := fun w => by simp [Instr.index, run_underlying Try.underlying106, asIntOf, part, go_sem]
  have x1 : ∀ w, (Instr.index 106 (.agg #[.int .i64 n.a, .int .i64 n.b, .int .i64 n.c]) (.int .i64 1)).run Try.prog w = .ok (.int .i64 n.b) w := fun w => by simp [Instr.index, run_underlying Try.underlying106, asIntOf, part, go_sem]
  have x2 : ∀ w, (Instr.index 106 (.agg #[.int .i64 n.a, .int .i64 n.b, .int .i64 n.c]) (.int .i64 2)).run Try.prog w = .ok (.int .i64 n.c) w := fun w => by simp [Instr.index, run_underlying Try.underlying106, asIntOf, part, go_sem]
  have d0 : (n.a != 0) = false := by simp [p0]
  have d1 : (n.b != 0) = false := by simp [p1]
  have d2 : (n.c != 0) = true := by simpa using p2
  clear p0 p1
  go_enter Try.func71, Try.ntmps71
  go_wp2_with fail
  refine wp_loop_rounds 3 ?_
  rw [rounds_succ]
  go_wp2_with fail
  rw [rounds_succ]
  go_wp2_with fail
  rw [rounds_succ]
  go_wp2_with fail
  go_ret
  exact ⟨rfl, HB.out _ _⟩

set_option maxRecDepth 100000 in
set_option maxHeartbeats 1000000 in
theorem links_0_3_ok (n : Nd) (at_ : Nat) (lo hi : Int) (fv : Value) (hfv : fv.oneCell' = true) (w : World) (p0 : n.a = 0) (p1 : n.b = 0) (p2 : n.c = 0) : Calls Try.prog 71 #[.agg #[.int .i64 0, .int .i64 lo, .int .i64 hi, fv], .agg #[.int .i64 n.a, .int .i64 n.b, .int .i64 n.c], .int .i64 at_] w fun e w' => e = .returned (.bool true) ∧ Below w.heap.size w w' := by
  have HB : Hid (∀ o o', Below w.heap.size w ((w.alloc o).alloc o')) := fun o o' => ((Below.refl _ _).alloc (Nat.le_refl _) o).alloc (by simp [go_sem] <;> omega) o'
  have x0 : ∀ w, (Instr.index 106 (.agg #[.int .i64 n.a, .int .i64 n.b, .int .i64 n.c]) (.int .i64 0)).run Try.prog w = .ok (.int .i64 n.a) w := fun w => by simp [Instr.index, run_underlying Try.underlying106, asIntOf, part, go_sem]
  have x1 : ∀ w, (Instr.index 106 (.agg #[.int .i64 n.a, .int .i64 n.b, .int .i64 n.c]) (.int .i64 1)).run Try.prog w = .ok (.int .i64 n.b) w := fun w => by simp [Instr.index, run_underlying Try.underlying106, asIntOf, part, go_sem]
  have x2 : ∀ w, (Instr.index 106 (.agg #[.int .i64 n.a, .int .i64 n.b, .int .i64 n.c]) (.int .i64 2)).run Try.prog w = .ok (.int .i64 n.c) w := fun w => by simp [Instr.index, run_underlying Try.underlying106, asIntOf, part, go_sem]
  have d0 : (n.a != 0) = false := by simp [p0]
  have d1 : (n.b != 0) = false := by simp [p1]
  have d2 : (n.c != 0) = false := by simp [p2]
  clear p0 p1 p2
  go_enter Try.func71, Try.ntmps71
  go_wp2_with fail
  refine wp_loop_rounds 4 ?_
  rw [rounds_succ]
  go_wp2_with fail
  rw [rounds_succ]
  go_wp2_with fail
  rw [rounds_succ]
  go_wp2_with fail
  rw [rounds_succ]
  go_wp2_with fail
  go_ret
  exact ⟨rfl, HB.out _ _⟩

set_option maxRecDepth 100000 in
set_option maxHeartbeats 1000000 in
theorem links_1_0_low (n : Nd) (at_ : Nat) (lo hi : Int) (fv : Value) (hfv : fv.oneCell' = true) (w : World) (p0 : n.a < 0) : Calls Try.prog 71 #[.agg #[.int .i64 1, .int .i64 lo, .int .i64 hi, fv], .agg #[.int .i64 n.a, .int .i64 n.b, .int .i64 n.c], .int .i64 at_] w fun e w' => e = .returned (.bool false) ∧ Below w.heap.size w w' := by
  have HB : Hid (∀ o o', Below w.heap.size w ((w.alloc o).alloc o')) := fun o o' => ((Below.refl _ _).alloc (Nat.le_refl _) o).alloc (by simp [go_sem] <;> omega) o'
  have x0 : ∀ w, (Instr.index 106 (.agg #[.int .i64 n.a, .int .i64 n.b, .int .i64 n.c]) (.int .i64 0)).run Try.prog w = .ok (.int .i64 n.a) w := fun w => by simp [Instr.index, run_underlying Try.underlying106, asIntOf, part, go_sem]
  have x1 : ∀ w, (Instr.index 106 (.agg #[.int .i64 n.a, .int .i64 n.b, .int .i64 n.c]) (.int .i64 1)).run Try.prog w = .ok (.int .i64 n.b) w := fun w => by simp [Instr.index, run_underlying Try.underlying106, asIntOf, part, go_sem]
  have x2 : ∀ w, (Instr.index 106 (.agg #[.int .i64 n.a, .int .i64 n.b, .int .i64 n.c]) (.int .i64 2)).run Try.prog w = .ok (.int .i64 n.c) w := fun w => by simp [Instr.index, run_underlying Try.underlying106, asIntOf, part, go_sem]
  have d0 : decide (n.a < 0) = true := decide_eq_true p0
  go_enter Try.func71, Try.ntmps71
  go_wp2_with fail
  refine wp_loop_rounds 1 ?_
  rw [rounds_succ]
  go_wp2_with fail
  go_ret
  exact ⟨rfl, HB.out _ _⟩

set_option maxRecDepth 100000 in
set_option maxHeartbeats 1000000 in
theorem links_1_0_high (n : Nd) (at_ : Nat) (lo hi : Int) (fv : Value) (hfv : fv.oneCell' = true) (w : World) (p0 : 0 ≤ n.a) (q0 : at_ ≤ n.a) : Calls Try.prog 71 #[.agg #[.int .i64 1, .int .i64 lo, .int .i64 hi, fv], .agg #[.int .i64 n.a, .int .i64 n.b, .int .i64 n.c], .int .i64 at_] w fun e w' => e = .returned (.bool false) ∧ Below w.heap.size w w' := by
  have HB : Hid (∀ o o', Below w.heap.size w ((w.alloc o).alloc o')) := fun o o' => ((Below.refl _ _).alloc (Nat.le_refl _) o).alloc (by simp [go_sem] <;> omega) o'
  have x0 : ∀ w, (Instr.index 106 (.agg #[.int .i64 n.a, .int .i64 n.b, .int .i64 n.c]) (.int .i64 0)).run Try.prog w = .ok (.int .i64 n.a) w := fun w => by simp [Instr.index, run_underlying Try.underlying106, asIntOf, part, go_sem]
  have x1 : ∀ w, (Instr.index 106 (.agg #[.int .i64 n.a, .int .i64 n.b, .int .i64 n.c]) (.int .i64 1)).run Try.prog w = .ok (.int .i64 n.b) w := fun w => by simp [Instr.index, run_underlying Try.underlying106, asIntOf, part, go_sem]
  have x2 : ∀ w, (Instr.index 106 (.agg #[.int .i64 n.a, .int .i64 n.b, .int .i64 n.c]) (.int .i64 2)).run Try.prog w = .ok (.int .i64 n.c) w := fun w => by simp [Instr.index, run_underlying Try.underlying106, asIntOf, part, go_sem]
  have d0 : decide (n.a < 0) = false := decide_eq_false (by omega)
  have e0 : decide (n.a ≥ (at_ : Int)) = true := decide_eq_true q0
  go_enter Try.func71, Try.ntmps71
  go_wp2_with fail
  refine wp_loop_rounds 1 ?_
  rw [rounds_succ]
  go_wp2_with fail
  go_ret
  exact ⟨rfl, HB.out _ _⟩

set_option maxRecDepth 100000 in
set_option maxHeartbeats 1000000 in
theorem links_1_1_zero (n : Nd) (at_ : Nat) (lo hi : Int) (fv : Value) (hfv : fv.oneCell' = true) (w : World) (p0 : 0 ≤ n.a) (q0 : n.a < at_) (p1 : n.b ≠ 0) : Calls Try.prog 71 #[.agg #[.int .i64 1, .int .i64 lo, .int .i64 hi, fv], .agg #[.int .i64 n.a, .int .i64 n.b, .int .i64 n.c], .int .i64 at_] w fun e w' => e = .returned (.bool false) ∧ Below w.heap.size w w' := by
  have HB : Hid (∀ o o', Below w.heap.size w ((w.alloc o).alloc o')) := fun o o' => ((Below.refl _ _).alloc (Nat.le_refl _) o).alloc (by simp [go_sem] <;> omega) o'
  have x0 : ∀ w, (Instr.index 106 (.agg #[.int .i64 n.a, .int .i64 n.b, .int .i64 n.c]) (.int .i64 0)).run Try.prog w = .ok (.int .i64 n.a) w := fun w => by simp [Instr.index, run_underlying Try.underlying106, asIntOf, part, go_sem]
  have x1 : ∀ w, (Instr.index 106 (.agg #[.int .i64 n.a, .int .i64 n.b, .int .i64 n.c]) (.int .i64 1)).run Try.prog w = .ok (.int .i64 n.b) w := fun w => by simp [Instr.index, run_underlying Try.underlying106, asIntOf, part, go_sem]
  have x2 : ∀ w, (Instr.index 106 (.agg #[.int .i64 n.a, .int .i64 n.b, .int .i64 n.c]) (.int .i64 2)).run Try.prog w = .ok (.int .i64 n.c) w := fun w => by simp [Instr.index, run_underlying Try.underlying106, asIntOf, part, go_sem]
  have d0 : decide (n.a < 0) = false := decide_eq_false (by omega)
  have e0 : decide (n.a ≥ (at_ : Int)) = false := decide_eq_false (by omega)
  have d1 : (n.b != 0) = true := by simpa using p1
  go_enter Try.func71, Try.ntmps71
  go_wp2_with fail
  refine wp_loop_rounds 2 ?_
  rw [rounds_succ]
  go_wp2_with fail
  rw [rounds_succ]
  go_wp2_with fail
  go_ret
  exact ⟨rfl, HB.out _ _⟩

set_option maxRecDepth 100000 in
set_option maxHeartbeats 1000000 in
theorem links_1_2_zero (n : Nd) (at_ : Nat) (lo hi : Int) (fv : Value) (hfv : fv.oneCell' = true) (w : World) (p0 : 0 ≤ n.a) (q0 : n.a < at_) (p1 : n.b = 0) (p2 : n.c ≠ 0) : Calls Try.prog 71 #[.agg #[.int .i64 1, .int .i64 lo, .int .i64 hi, fv], .agg #[.int .i64 n.a, .int .i64 n.b, .int .i64 n.c], .int .i64 at_] w fun e w' => e = .returned (.bool false) ∧ Below w.heap.size w w' := by
  have HB : Hid (∀ o o', Below w.heap.size w ((w.alloc o).alloc o')) := fun o o' => ((Below.refl _ _).alloc (Nat.le_refl _) o).alloc (by simp [go_sem] <;> omega) o'
  have x0 : ∀ w, (Instr.index 106 (.agg #[.int .i64 n.a, .int .i64 n.b, .int .i64 n.c]) (.int .i64 0)).run Try.prog w = .ok (.int .i64 n.a) w := fun w => by simp [Instr.index, run_underlying Try.underlying106, asIntOf, part, go_sem]
  have x1 : ∀ w, (Instr.index 106 (.agg #[.int .i64 n.a, .int .i64 n.b, .int .i64 n.c]) (.int .i64 1)).run Try.prog w = .ok (.int .i64 n.b) w := fun w => by simp [Instr.index, run_underlying Try.underlying106, asIntOf, part, go_sem]
  have x2 : ∀ w, (Instr.index 106 (.agg #[.int .i64 n.a, .int .i64 n.b, .int .i64 n.c]) (.int .i64 2)).run Try.prog w = .ok (.int .i64 n.c) w := fun w => by simp [Instr.index, run_underlying Try.underlying106, asIntOf, part, go_sem]
  have d0 : decide (n.a < 0) = false := decide_eq_false (by omega)
  have e0 : decide (n.a ≥ (at_ : Int)) = false := decide_eq_false (by omega)
  have d1 : (n.b != 0) = false := by simp [p1]
  have d2 : (n.c != 0) = true := by simpa using p2
  clear p1
  go_enter Try.func71, Try.ntmps71
  go_wp2_with fail
  refine wp_loop_rounds 3 ?_
  rw [rounds_succ]
  go_wp2_with fail
  rw [rounds_succ]
  go_wp2_with fail
  rw [rounds_succ]
  go_wp2_with fail
  go_ret
  exact ⟨rfl, HB.out _ _⟩

set_option maxRecDepth 100000 in
set_option maxHeartbeats 1000000 in
theorem links_1_3_ok (n : Nd) (at_ : Nat) (lo hi : Int) (fv : Value) (hfv : fv.oneCell' = true) (w : World) (p0 : 0 ≤ n.a) (q0 : n.a < at_) (p1 : n.b = 0) (p2 : n.c = 0) : Calls Try.prog 71 #[.agg #[.int .i64 1, .int .i64 lo, .int .i64 hi, fv], .agg #[.int .i64 n.a, .int .i64 n.b, .int .i64 n.c], .int .i64 at_] w fun e w' => e = .returned (.bool true) ∧ Below w.heap.size w w' := by
  have HB : Hid (∀ o o', Below w.heap.size w ((w.alloc o).alloc o')) := fun o o' => ((Below.refl _ _).alloc (Nat.le_refl _) o).alloc (by simp [go_sem] <;> omega) o'
  have x0 : ∀ w, (Instr.index 106 (.agg #[.int .i64 n.a, .int .i64 n.b, .int .i64 n.c]) (.int .i64 0)).run Try.prog w = .ok (.int .i64 n.a) w := fun w => by simp [Instr.index, run_underlying Try.underlying106, asIntOf, part, go_sem]
  have x1 : ∀ w, (Instr.index 106 (.agg #[.int .i64 n.a, .int .i64 n.b, .int .i64 n.c]) (.int .i64 1)).run Try.prog w = .ok (.int .i64 n.b) w := fun w => by simp [Instr.index, run_underlying Try.underlying106, asIntOf, part, go_sem]
  have x2 : ∀ w, (Instr.index 106 (.agg #[.int .i64 n.a, .int .i64 n.b, .int .i64 n.c]) (.int .i64 2)).run Try.prog w = .ok (.int .i64 n.c) w := fun w => by simp [Instr.index, run_underlying Try.underlying106, asIntOf, part, go_sem]
  have d0 : decide (n.a < 0) = false := decide_eq_false (by omega)
  have e0 : decide (n.a ≥ (at_ : Int)) = false := decide_eq_false (by omega)
  have d1 : (n.b != 0) = false := by simp [p1]
  have d2 : (n.c != 0) = false := by simp [p2]
  clear p1 p2
  go_enter Try.func71, Try.ntmps71
  go_wp2_with fail
  refine wp_loop_rounds 4 ?_
  rw [rounds_succ]
  go_wp2_with fail
  rw [rounds_succ]
  go_wp2_with fail
  rw [rounds_succ]
  go_wp2_with fail
  rw [rounds_succ]
  go_wp2_with fail
  go_ret
  exact ⟨rfl, HB.out _ _⟩

set_option maxRecDepth 100000 in
set_option maxHeartbeats 1000000 in
theorem links_2_0_low (n : Nd) (at_ : Nat) (lo hi : Int) (fv : Value) (hfv : fv.oneCell' = true) (w : World) (p0 : n.a < 0) : Calls Try.prog 71 #[.agg #[.int .i64 2, .int .i64 lo, .int .i64 hi, fv], .agg #[.int .i64 n.a, .int .i64 n.b, .int .i64 n.c], .int .i64 at_] w fun e w' => e = .returned (.bool false) ∧ Below w.heap.size w w' := by
  have HB : Hid (∀ o o', Below w.heap.size w ((w.alloc o).alloc o')) := fun o o' => ((Below.refl _ _).alloc (Nat.le_refl _) o).alloc (by simp [go_sem] <;> omega) o'
  have x0 : ∀ w, (Instr.index 106 (.agg #[.int .i64 n.a, .int .i64 n.b, .int .i64 n.c]) (.int .i64 0)).run Try.prog w = .ok (.int .i64 n.a) w := fun w => by simp [Instr.index, run_underlying Try.underlying106, asIntOf, part, go_sem]
  have x1 : ∀ w, (Instr.index 106 (.agg #[.int .i64 n.a, .int .i64 n.b, .int .i64 n.c]) (.int .i64 1)).run Try.prog w = .ok (.int .i64 n.b) w := fun w => by simp [Instr.index, run_underlying Try.underlying106, asIntOf, part, go_sem]
  have x2 : ∀ w, (Instr.index 106 (.agg #[.int .i64 n.a, .int .i64 n.b, .int .i64 n.c]) (.int .i64 2)).run Try.prog w = .ok (.int .i64 n.c) w := fun w => by simp [Instr.index, run_underlying Try.underlying106, asIntOf, part, go_sem]
  have d0 : decide (n.a < 0) = true := decide_eq_true p0
  go_enter Try.func71, Try.ntmps71
  go_wp2_with fail
  refine wp_loop_rounds 1 ?_
  rw [rounds_succ]
  go_wp2_with fail
  go_ret
  exact ⟨rfl, HB.out _ _⟩

set_option maxRecDepth 100000 in
set_option maxHeartbeats 1000000 in
theorem links_2_0_high (n : Nd) (at_ : Nat) (lo hi : Int) (fv : Value) (hfv : fv.oneCell' = true) (w : World) (p0 : 0 ≤ n.a) (q0 : at_ ≤ n.a) : Calls Try.prog 71 #[.agg #[.int .i64 2, .int .i64 lo, .int .i64 hi, fv], .agg #[.int .i64 n.a, .int .i64 n.b, .int .i64 n.c], .int .i64 at_] w fun e w' => e = .returned (.bool false) ∧ Below w.heap.size w w' := by
  have HB : Hid (∀ o o', Below w.heap.size w ((w.alloc o).alloc o')) := fun o o' => ((Below.refl _ _).alloc (Nat.le_refl _) o).alloc (by simp [go_sem] <;> omega) o'
  have x0 : ∀ w, (Instr.index 106 (.agg #[.int .i64 n.a, .int .i64 n.b, .int .i64 n.c]) (.int .i64 0)).run Try.prog w = .ok (.int .i64 n.a) w := fun w => by simp [Instr.index, run_underlying Try.underlying106, asIntOf, part, go_sem]
  have x1 : ∀ w, (Instr.index 106 (.agg #[.int .i64 n.a, .int .i64 n.b, .int .i64 n.c]) (.int .i64 1)).run Try.prog w = .ok (.int .i64 n.b) w := fun w => by simp [Instr.index, run_underlying Try.underlying106, asIntOf, part, go_sem]
  have x2 : ∀ w, (Instr.index 106 (.agg #[.int .i64 n.a, .int .i64 n.b, .int .i64 n.c]) (.int .i64 2)).run Try.prog w = .ok (.int .i64 n.c) w := fun w => by simp [Instr.index, run_underlying Try.underlying106, asIntOf, part, go_sem]
  have d0 : decide (n.a < 0) = false := decide_eq_false (by omega)
  have e0 : decide (n.a ≥ (at_ : Int)) = true := decide_eq_true q0
  go_enter Try.func71, Try.ntmps71
  go_wp2_with fail
  refine wp_loop_rounds 1 ?_
  rw [rounds_succ]
  go_wp2_with fail
  go_ret
  exact ⟨rfl, HB.out _ _⟩

set_option maxRecDepth 100000 in
set_option maxHeartbeats 1000000 in
theorem links_2_1_low (n : Nd) (at_ : Nat) (lo hi : Int) (fv : Value) (hfv : fv.oneCell' = true) (w : World) (p0 : 0 ≤ n.a) (q0 : n.a < at_) (p1 : n.b < 0) : Calls Try.prog 71 #[.agg #[.int .i64 2, .int .i64 lo, .int .i64 hi, fv], .agg #[.int .i64 n.a, .int .i64 n.b, .int .i64 n.c], .int .i64 at_] w fun e w' => e = .returned (.bool false) ∧ Below w.heap.size w w' := by
  have HB : Hid (∀ o o', Below w.heap.size w ((w.alloc o).alloc o')) := fun o o' => ((Below.refl _ _).alloc (Nat.le_refl _) o).alloc (by simp [go_sem] <;> omega) o'
  have x0 : ∀ w, (Instr.index 106 (.agg #[.int .i64 n.a, .int .i64 n.b, .int .i64 n.c]) (.int .i64 0)).run Try.prog w = .ok (.int .i64 n.a) w := fun w => by simp [Instr.index, run_underlying Try.underlying106, asIntOf, part, go_sem]
  have x1 : ∀ w, (Instr.index 106 (.agg #[.int .i64 n.a, .int .i64 n.b, .int .i64 n.c]) (.int .i64 1)).run Try.prog w = .ok (.int .i64 n.b) w := fun w => by simp [Instr.index, run_underlying Try.underlying106, asIntOf, part, go_sem]
  have x2 : ∀ w, (Instr.index 106 (.agg #[.int .i64 n.a, .int .i64 n.b, .int .i64 n.c]) (.int .i64 2)).run Try.prog w = .ok (.int .i64 n.c) w := fun w => by simp [Instr.index, run_underlying Try.underlying106, asIntOf, part, go_sem]
  have d0 : decide (n.a < 0) = false := decide_eq_false (by omega)
  have e0 : decide (n.a ≥ (at_ : Int)) = false := decide_eq_false (by omega)
  have d1 : decide (n.b < 0) = true := decide_eq_true p1
  go_enter Try.func71, Try.ntmps71
  go_wp2_with fail
  refine wp_loop_rounds 2 ?_
  rw [rounds_succ]
  go_wp2_with fail
  rw [rounds_succ]
  go_wp2_with fail
  go_ret
  exact ⟨rfl, HB.out _ _⟩

set_option maxRecDepth 100000 in
set_option maxHeartbeats 1000000 in
theorem links_2_1_high (n : Nd) (at_ : Nat) (lo hi : Int) (fv : Value) (hfv : fv.oneCell' = true) (w : World) (p0 : 0 ≤ n.a) (q0 : n.a < at_) (p1 : 0 ≤ n.b) (q1 : at_ ≤ n.b) : Calls Try.prog 71 #[.agg #[.int .i64 2, .int .i64 lo, .int .i64 hi, fv], .agg #[.int .i64 n.a, .int .i64 n.b, .int .i64 n.c], .int .i64 at_] w fun e w' => e = .returned (.bool false) ∧ Below w.heap.size w w' := by
  have HB : Hid (∀ o o', Below w.heap.size w ((w.alloc o).alloc o')) := fun o o' => ((Below.refl _ _).alloc (Nat.le_refl _) o).alloc (by simp [go_sem] <;> omega) o'
  have x0 : ∀ w, (Instr.index 106 (.agg #[.int .i64 n.a, .int .i64 n.b, .int .i64 n.c]) (.int .i64 0)).run Try.prog w = .ok (.int .i64 n.a) w := fun w => by simp [Instr.index, run_underlying Try.underlying106, asIntOf, part, go_sem]
  have x1 : ∀ w, (Instr.index 106 (.agg #[.int .i64 n.a, .int .i64 n.b, .int .i64 n.c]) (.int .i64 1)).run Try.prog w = .ok (.int .i64 n.b) w := fun w => by simp [Instr.index, run_underlying Try.underlying106, asIntOf, part, go_sem]
  have x2 : ∀ w, (Instr.index 106 (.agg #[.int .i64 n.a, .int .i64 n.b, .int .i64 n.c]) (.int .i64 2)).run Try.prog w = .ok (.int .i64 n.c) w := fun w => by simp [Instr.index, run_underlying Try.underlying106, asIntOf, part, go_sem]
  have d0 : decide (n.a < 0) = false := decide_eq_false (by omega)
  have e0 : decide (n.a ≥ (at_ : Int)) = false := decide_eq_false (by omega)
  have d1 : decide (n.b < 0) = false := decide_eq_false (by omega)
  have e1 : decide (n.b ≥ (at_ : Int)) = true := decide_eq_true q1
  go_enter Try.func71, Try.ntmps71
  go_wp2_with fail
  refine wp_loop_rounds 2 ?_
  rw [rounds_succ]
  go_wp2_with fail
  rw [rounds_succ]
  go_wp2_with fail
  go_ret
  exact ⟨rfl, HB.out _ _⟩

set_option maxRecDepth 100000 in
set_option maxHeartbeats 1000000 in
theorem links_2_2_zero (n : Nd) (at_ : Nat) (lo hi : Int) (fv : Value) (hfv : fv.oneCell' = true) (w : World) (p0 : 0 ≤ n.a) (q0 : n.a < at_) (p1 : 0 ≤ n.b) (q1 : n.b < at_) (p2 : n.c ≠ 0) : Calls Try.prog 71 #[.agg #[.int .i64 2, .int .i64 lo, .int .i64 hi, fv], .agg #[.int .i64 n.a, .int .i64 n.b, .int .i64 n.c], .int .i64 at_] w fun e w' => e = .returned (.bool false) ∧ Below w.heap.size w w' := by
  have HB : Hid (∀ o o', Below w.heap.size w ((w.alloc o).alloc o')) := fun o o' => ((Below.refl _ _).alloc (Nat.le_refl _) o).alloc (by simp [go_sem] <;> omega) o'
  have x0 : ∀ w, (Instr.index 106 (.agg #[.int .i64 n.a, .int .i64 n.b, .int .i64 n.c]) (.int .i64 0)).run Try.prog w = .ok (.int .i64 n.a) w := fun w => by simp [Instr.index, run_underlying Try.underlying106, asIntOf, part, go_sem]
  have x1 : ∀ w, (Instr.index 106 (.agg #[.int .i64 n.a, .int .i64 n.b, .int .i64 n.c]) (.int .i64 1)).run Try.prog w = .ok (.int .i64 n.b) w := fun w => by simp [Instr.index, run_underlying Try.underlying106, asIntOf, part, go_sem]
  have x2 : ∀ w, (Instr.index 106 (.agg #[.int .i64 n.a, .int .i64 n.b, .int .i64 n.c]) (.int .i64 2)).run Try.prog w = .ok (.int .i64 n.c) w := fun w => by simp [Instr.index, run_underlying Try.underlying106, asIntOf, part, go_sem]
  have d0 : decide (n.a < 0) = false := decide_eq_false (by omega)
  have e0 : decide (n.a ≥ (at_ : Int)) = false := decide_eq_false (by omega)
  have d1 : decide (n.b < 0) = false := decide_eq_false (by omega)
  have e1 : decide (n.b ≥ (at_ : Int)) = false := decide_eq_false (by omega)
  have d2 : (n.c != 0) = true := by simpa using p2
  go_enter Try.func71, Try.ntmps71
  go_wp2_with fail
  refine wp_loop_rounds 3 ?_
  rw [rounds_succ]
  go_wp2_with fail
  rw [rounds_succ]
  go_wp2_with fail
  rw [rounds_succ]
  go_wp2_with fail
  go_ret
  exact ⟨rfl, HB.out _ _⟩

set_option maxRecDepth 100000 in
set_option maxHeartbeats 1000000 in
theorem links_2_3_ok (n : Nd) (at_ : Nat) (lo hi : Int) (fv : Value) (hfv : fv.oneCell' = true) (w : World) (p0 : 0 ≤ n.a) (q0 : n.a < at_) (p1 : 0 ≤ n.b) (q1 : n.b < at_) (p2 : n.c = 0) : Calls Try.prog 71 #[.agg #[.int .i64 2, .int .i64 lo, .int .i64 hi, fv], .agg #[.int .i64 n.a, .int .i64 n.b, .int .i64 n.c], .int .i64 at_] w fun e w' => e = .returned (.bool true) ∧ Below w.heap.size w w' := by
  have HB : Hid (∀ o o', Below w.heap.size w ((w.alloc o).alloc o')) := fun o o' => ((Below.refl _ _).alloc (Nat.le_refl _) o).alloc (by simp [go_sem] <;> omega) o'
  have x0 : ∀ w, (Instr.index 106 (.agg #[.int .i64 n.a, .int .i64 n.b, .int .i64 n.c]) (.int .i64 0)).run Try.prog w = .ok (.int .i64 n.a) w := fun w => by simp [Instr.index, run_underlying Try.underlying106, asIntOf, part, go_sem]
  have x1 : ∀ w, (Instr.index 106 (.agg #[.int .i64 n.a, .int .i64 n.b, .int .i64 n.c]) (.int .i64 1)).run Try.prog w = .ok (.int .i64 n.b) w := fun w => by simp [Instr.index, run_underlying Try.underlying106, asIntOf, part, go_sem]
  have x2 : ∀ w, (Instr.index 106 (.agg #[.int .i64 n.a, .int .i64 n.b, .int .i64 n.c]) (.int .i64 2)).run Try.prog w = .ok (.int .i64 n.c) w := fun w => by simp [Instr.index, run_underlying Try.underlying106, asIntOf, part, go_sem]
  have d0 : decide (n.a < 0) = false := decide_eq_false (by omega)
  have e0 : decide (n.a ≥ (at_ : Int)) = false := decide_eq_false (by omega)
  have d1 : decide (n.b < 0) = false := decide_eq_false (by omega)
  have e1 : decide (n.b ≥ (at_ : Int)) = false := decide_eq_false (by omega)
  have d2 : (n.c != 0) = false := by simp [p2]
  clear p2
  go_enter Try.func71, Try.ntmps71
  go_wp2_with fail
  refine wp_loop_rounds 4 ?_
  rw [rounds_succ]
  go_wp2_with fail
  rw [rounds_succ]
  go_wp2_with fail
  rw [rounds_succ]
  go_wp2_with fail
  rw [rounds_succ]
  go_wp2_with fail
  go_ret
  exact ⟨rfl, HB.out _ _⟩

set_option maxRecDepth 100000 in
set_option maxHeartbeats 1000000 in
theorem links_3_0_low (n : Nd) (at_ : Nat) (lo hi : Int) (fv : Value) (hfv : fv.oneCell' = true) (w : World) (p0 : n.a < 0) : Calls Try.prog 71 #[.agg #[.int .i64 3, .int .i64 lo, .int .i64 hi, fv], .agg #[.int .i64 n.a, .int .i64 n.b, .int .i64 n.c], .int .i64 at_] w fun e w' => e = .returned (.bool false) ∧ Below w.heap.size w w' := by
  have HB : Hid (∀ o o', Below w.heap.size w ((w.alloc o).alloc o')) := fun o o' => ((Below.refl _ _).alloc (Nat.le_refl _) o).alloc (by simp [go_sem] <;> omega) o'
  have x0 : ∀ w, (Instr.index 106 (.agg #[.int .i64 n.a, .int .i64 n.b, .int .i64 n.c]) (.int .i64 0)).run Try.prog w = .ok (.int .i64 n.a) w := fun w => by simp [Instr.index, run_underlying Try.underlying106, asIntOf, part, go_sem]
  have x1 : ∀ w, (Instr.index 106 (.agg #[.int .i64 n.a, .int .i64 n.b, .int .i64 n.c]) (.int .i64 1)).run Try.prog w = .ok (.int .i64 n.b) w := fun w => by simp [Instr.index, run_underlying Try.underlying106, asIntOf, part, go_sem]
  have x2 : ∀ w, (Instr.index 106 (.agg #[.int .i64 n.a, .int .i64 n.b, .int .i64 n.c]) (.int .i64 2)).run Try.prog w = .ok (.int .i64 n.c) w := fun w => by simp [Instr.index, run_underlying Try.underlying106, asIntOf, part, go_sem]
  have d0 : decide (n.a < 0) = true := decide_eq_true p0
  go_enter Try.func71, Try.ntmps71
  go_wp2_with fail
  refine wp_loop_rounds 1 ?_
  rw [rounds_succ]
  go_wp2_with fail
  go_ret
  exact ⟨rfl, HB.out _ _⟩

set_option maxRecDepth 100000 in
set_option maxHeartbeats 1000000 in
theorem links_3_0_high (n : Nd) (at_ : Nat) (lo hi : Int) (fv : Value) (hfv : fv.oneCell' = true) (w : World) (p0 : 0 ≤ n.a) (q0 : at_ ≤ n.a) : Calls Try.prog 71 #[.agg #[.int .i64 3, .int .i64 lo, .int .i64 hi, fv], .agg #[.int .i64 n.a, .int .i64 n.b, .int .i64 n.c], .int .i64 at_] w fun e w' => e = .returned (.bool false) ∧ Below w.heap.size w w' := by
  have HB : Hid (∀ o o', Below w.heap.size w ((w.alloc o).alloc o')) := fun o o' => ((Below.refl _ _).alloc (Nat.le_refl _) o).alloc (by simp [go_sem] <;> omega) o'
  have x0 : ∀ w, (Instr.index 106 (.agg #[.int .i64 n.a, .int .i64 n.b, .int .i64 n.c]) (.int .i64 0)).run Try.prog w = .ok (.int .i64 n.a) w := fun w => by simp [Instr.index, run_underlying Try.underlying106, asIntOf, part, go_sem]
  have x1 : ∀ w, (Instr.index 106 (.agg #[.int .i64 n.a, .int .i64 n.b, .int .i64 n.c]) (.int .i64 1)).run Try.prog w = .ok (.int .i64 n.b) w := fun w => by simp [Instr.index, run_underlying Try.underlying106, asIntOf, part, go_sem]
  have x2 : ∀ w, (Instr.index 106 (.agg #[.int .i64 n.a, .int .i64 n.b, .int .i64 n.c]) (.int .i64 2)).run Try.prog w = .ok (.int .i64 n.c) w := fun w => by simp [Instr.index, run_underlying Try.underlying106, asIntOf, part, go_sem]
  have d0 : decide (n.a < 0) = false := decide_eq_false (by omega)
  have e0 : decide (n.a ≥ (at_ : Int)) = true := decide_eq_true q0
  go_enter Try.func71, Try.ntmps71
  go_wp2_with fail
  refine wp_loop_rounds 1 ?_
  rw [rounds_succ]
  go_wp2_with fail
  go_ret
  exact ⟨rfl, HB.out _ _⟩

set_option maxRecDepth 100000 in
set_option maxHeartbeats 1000000 in
theorem links_3_1_low (n : Nd) (at_ : Nat) (lo hi : Int) (fv : Value) (hfv : fv.oneCell' = true) (w : World) (p0 : 0 ≤ n.a) (q0 : n.a < at_) (p1 : n.b < 0) : Calls Try.prog 71 #[.agg #[.int .i64 3, .int .i64 lo, .int .i64 hi, fv], .agg #[.int .i64 n.a, .int .i64 n.b, .int .i64 n.c], .int .i64 at_] w fun e w' => e = .returned (.bool false) ∧ Below w.heap.size w w' := by
  have HB : Hid (∀ o o', Below w.heap.size w ((w.alloc o).alloc o')) := fun o o' => ((Below.refl _ _).alloc (Nat.le_refl _) o).alloc (by simp [go_sem] <;> omega) o'
  have x0 : ∀ w, (Instr.index 106 (.agg #[.int .i64 n.a, .int .i64 n.b, .int .i64 n.c]) (.int .i64 0)).run Try.prog w = .ok (.int .i64 n.a) w := fun w => by simp [Instr.index, run_underlying Try.underlying106, asIntOf, part, go_sem]
  have x1 : ∀ w, (Instr.index 106 (.agg #[.int .i64 n.a, .int .i64 n.b, .int .i64 n.c]) (.int .i64 1)).run Try.prog w = .ok (.int .i64 n.b) w := fun w => by simp [Instr.index, run_underlying Try.underlying106, asIntOf, part, go_sem]
  have x2 : ∀ w, (Instr.index 106 (.agg #[.int .i64 n.a, .int .i64 n.b, .int .i64 n.c]) (.int .i64 2)).run Try.prog w = .ok (.int .i64 n.c) w := fun w => by simp [Instr.index, run_underlying Try.underlying106, asIntOf, part, go_sem]
  have d0 : decide (n.a < 0) = false := decide_eq_false (by omega)
  have e0 : decide (n.a ≥ (at_ : Int)) = false := decide_eq_false (by omega)
  have d1 : decide (n.b < 0) = true := decide_eq_true p1
  go_enter Try.func71, Try.ntmps71
  go_wp2_with fail
  refine wp_loop_rounds 2 ?_
  rw [rounds_succ]
  go_wp2_with fail
  rw [rounds_succ]
  go_wp2_with fail
  go_ret
  exact ⟨rfl, HB.out _ _⟩

set_option maxRecDepth 100000 in
set_option maxHeartbeats 1000000 in
theorem links_3_1_high (n : Nd) (at_ : Nat) (lo hi : Int) (fv : Value) (hfv : fv.oneCell' = true) (w : World) (p0 : 0 ≤ n.a) (q0 : n.a < at_) (p1 : 0 ≤ n.b) (q1 : at_ ≤ n.b) : Calls Try.prog 71 #[.agg #[.int .i64 3, .int .i64 lo, .int .i64 hi, fv], .agg #[.int .i64 n.a, .int .i64 n.b, .int .i64 n.c], .int .i64 at_] w fun e w' => e = .returned (.bool false) ∧ Below w.heap.size w w' := by
  have HB : Hid (∀ o o', Below w.heap.size w ((w.alloc o).alloc o')) := fun o o' => ((Below.refl _ _).alloc (Nat.le_refl _) o).alloc (by simp [go_sem] <;> omega) o'
  have x0 : ∀ w, (Instr.index 106 (.agg #[.int .i64 n.a, .int .i64 n.b, .int .i64 n.c]) (.int .i64 0)).run Try.prog w = .ok (.int .i64 n.a) w := fun w => by simp [Instr.index, run_underlying Try.underlying106, asIntOf, part, go_sem]
  have x1 : ∀ w, (Instr.index 106 (.agg #[.int .i64 n.a, .int .i64 n.b, .int .i64 n.c]) (.int .i64 1)).run Try.prog w = .ok (.int .i64 n.b) w := fun w => by simp [Instr.index, run_underlying Try.underlying106, asIntOf, part, go_sem]
  have x2 : ∀ w, (Instr.index 106 (.agg #[.int .i64 n.a, .int .i64 n.b, .int .i64 n.c]) (.int .i64 2)).run Try.prog w = .ok (.int .i64 n.c) w := fun w => by simp [Instr.index, run_underlying Try.underlying106, asIntOf, part, go_sem]
  have d0 : decide (n.a < 0) = false := decide_eq_false (by omega)
  have e0 : decide (n.a ≥ (at_ : Int)) = false := decide_eq_false (by omega)
  have d1 : decide (n.b < 0) = false := decide_eq_false (by omega)
  have e1 : decide (n.b ≥ (at_ : Int)) = true := decide_eq_true q1
  go_enter Try.func71, Try.ntmps71
  go_wp2_with fail
  refine wp_loop_rounds 2 ?_
  rw [rounds_succ]
  go_wp2_with fail
  rw [rounds_succ]
  go_wp2_with fail
  go_ret
  exact ⟨rfl, HB.out _ _⟩

set_option maxRecDepth 100000 in
set_option maxHeartbeats 1000000 in
theorem links_3_2_low (n : Nd) (at_ : Nat) (lo hi : Int) (fv : Value) (hfv : fv.oneCell' = true) (w : World) (p0 : 0 ≤ n.a) (q0 : n.a < at_) (p1 : 0 ≤ n.b) (q1 : n.b < at_) (p2 : n.c < 0) : Calls Try.prog 71 #[.agg #[.int .i64 3, .int .i64 lo, .int .i64 hi, fv], .agg #[.int .i64 n.a, .int .i64 n.b, .int .i64 n.c], .int .i64 at_] w fun e w' => e = .returned (.bool false) ∧ Below w.heap.size w w' := by
  have HB : Hid (∀ o o', Below w.heap.size w ((w.alloc o).alloc o')) := fun o o' => ((Below.refl _ _).alloc (Nat.le_refl _) o).alloc (by simp [go_sem] <;> omega) o'
  have x0 : ∀ w, (Instr.index 106 (.agg #[.int .i64 n.a, .int .i64 n.b, .int .i64 n.c]) (.int .i64 0)).run Try.prog w = .ok (.int .i64 n.a) w := fun w => by simp [Instr.index, run_underlying Try.underlying106, asIntOf, part, go_sem]
  have x1 : ∀ w, (Instr.index 106 (.agg #[.int .i64 n.a, .int .i64 n.b, .int .i64 n.c]) (.int .i64 1)).run Try.prog w = .ok (.int .i64 n.b) w := fun w => by simp [Instr.index, run_underlying Try.underlying106, asIntOf, part, go_sem]
  have x2 : ∀ w, (Instr.index 106 (.agg #[.int .i64 n.a, .int .i64 n.b, .int .i64 n.c]) (.int .i64 2)).run Try.prog w = .ok (.int .i64 n.c) w := fun w => by simp [Instr.index, run_underlying Try.underlying106, asIntOf, part, go_sem]
  have d0 : decide (n.a < 0) = false := decide_eq_false (by omega)
  have e0 : decide (n.a ≥ (at_ : Int)) = false := decide_eq_false (by omega)
  have d1 : decide (n.b < 0) = false := decide_eq_false (by omega)
  have e1 : decide (n.b ≥ (at_ : Int)) = false := decide_eq_false (by omega)
  have d2 : decide (n.c < 0) = true := decide_eq_true p2
  go_enter Try.func71, Try.ntmps71
  go_wp2_with fail
  refine wp_loop_rounds 3 ?_
  rw [rounds_succ]
  go_wp2_with fail
  rw [rounds_succ]
  go_wp2_with fail
  rw [rounds_succ]
  go_wp2_with fail
  go_ret
  exact ⟨rfl, HB.out _ _⟩

set_option maxRecDepth 100000 in
set_option maxHeartbeats 1000000 in
theorem links_3_2_high (n : Nd) (at_ : Nat) (lo hi : Int) (fv : Value) (hfv : fv.oneCell' = true) (w : World) (p0 : 0 ≤ n.a) (q0 : n.a < at_) (p1 : 0 ≤ n.b) (q1 : n.b < at_) (p2 : 0 ≤ n.c) (q2 : at_ ≤ n.c) : Calls Try.prog 71 #[.agg #[.int .i64 3, .int .i64 lo, .int .i64 hi, fv], .agg #[.int .i64 n.a, .int .i64 n.b, .int .i64 n.c], .int .i64 at_] w fun e w' => e = .returned (.bool false) ∧ Below w.heap.size w w' := by
  have HB : Hid (∀ o o', Below w.heap.size w ((w.alloc o).alloc o')) := fun o o' => ((Below.refl _ _).alloc (Nat.le_refl _) o).alloc (by simp [go_sem] <;> omega) o'
  have x0 : ∀ w, (Instr.index 106 (.agg #[.int .i64 n.a, .int .i64 n.b, .int .i64 n.c]) (.int .i64 0)).run Try.prog w = .ok (.int .i64 n.a) w := fun w => by simp [Instr.index, run_underlying Try.underlying106, asIntOf, part, go_sem]
  have x1 : ∀ w, (Instr.index 106 (.agg #[.int .i64 n.a, .int .i64 n.b, .int .i64 n.c]) (.int .i64 1)).run Try.prog w = .ok (.int .i64 n.b) w := fun w => by simp [Instr.index, run_underlying Try.underlying106, asIntOf, part, go_sem]
  have x2 : ∀ w, (Instr.index 106 (.agg #[.int .i64 n.a, .int .i64 n.b, .int .i64 n.c]) (.int .i64 2)).run Try.prog w = .ok (.int .i64 n.c) w := fun w => by simp [Instr.index, run_underlying Try.underlying106, asIntOf, part, go_sem]
  have d0 : decide (n.a < 0) = false := decide_eq_false (by omega)
  have e0 : decide (n.a ≥ (at_ : Int)) = false := decide_eq_false (by omega)
  have d1 : decide (n.b < 0) = false := decide_eq_false (by omega)
  have e1 : decide (n.b ≥ (at_ : Int)) = false := decide_eq_false (by omega)
  have d2 : decide (n.c < 0) = false := decide_eq_false (by omega)
  have e2 : decide (n.c ≥ (at_ : Int)) = true := decide_eq_true q2
  go_enter Try.func71, Try.ntmps71
  go_wp2_with fail
  refine wp_loop_rounds 3 ?_
  rw [rounds_succ]
  go_wp2_with fail
  rw [rounds_succ]
  go_wp2_with fail
  rw [rounds_succ]
  go_wp2_with fail
  go_ret
  exact ⟨rfl, HB.out _ _⟩

set_option maxRecDepth 100000 in
set_option maxHeartbeats 1000000 in
theorem links_3_3_ok (n : Nd) (at_ : Nat) (lo hi : Int) (fv : Value) (hfv : fv.oneCell' = true) (w : World) (p0 : 0 ≤ n.a) (q0 : n.a < at_) (p1 : 0 ≤ n.b) (q1 : n.b < at_) (p2 : 0 ≤ n.c) (q2 : n.c < at_) : Calls Try.prog 71 #[.agg #[.int .i64 3, .int .i64 lo, .int .i64 hi, fv], .agg #[.int .i64 n.a, .int .i64 n.b, .int .i64 n.c], .int .i64 at_] w fun e w' => e = .returned (.bool true) ∧ Below w.heap.size w w' := by
  have HB : Hid (∀ o o', Below w.heap.size w ((w.alloc o).alloc o')) := fun o o' => ((Below.refl _ _).alloc (Nat.le_refl _) o).alloc (by simp [go_sem] <;> omega) o'
  have x0 : ∀ w, (Instr.index 106 (.agg #[.int .i64 n.a, .int .i64 n.b, .int .i64 n.c]) (.int .i64 0)).run Try.prog w = .ok (.int .i64 n.a) w := fun w => by simp [Instr.index, run_underlying Try.underlying106, asIntOf, part, go_sem]
  have x1 : ∀ w, (Instr.index 106 (.agg #[.int .i64 n.a, .int .i64 n.b, .int .i64 n.c]) (.int .i64 1)).run Try.prog w = .ok (.int .i64 n.b) w := fun w => by simp [Instr.index, run_underlying Try.underlying106, asIntOf, part, go_sem]
  have x2 : ∀ w, (Instr.index 106 (.agg #[.int .i64 n.a, .int .i64 n.b, .int .i64 n.c]) (.int .i64 2)).run Try.prog w = .ok (.int .i64 n.c) w := fun w => by simp [Instr.index, run_underlying Try.underlying106, asIntOf, part, go_sem]
  have d0 : decide (n.a < 0) = false := decide_eq_false (by omega)
  have e0 : decide (n.a ≥ (at_ : Int)) = false := decide_eq_false (by omega)
  have d1 : decide (n.b < 0) = false := decide_eq_false (by omega)
  have e1 : decide (n.b ≥ (at_ : Int)) = false := decide_eq_false (by omega)
  have d2 : decide (n.c < 0) = false := decide_eq_false (by omega)
  have e2 : decide (n.c ≥ (at_ : Int)) = false := decide_eq_false (by omega)
  go_enter Try.func71, Try.ntmps71
  go_wp2_with fail
  refine wp_loop_rounds 4 ?_
  rw [rounds_succ]
  go_wp2_with fail
  rw [rounds_succ]
  go_wp2_with fail
  rw [rounds_succ]
  go_wp2_with fail
  rw [rounds_succ]
  go_wp2_with fail
  go_ret
  exact ⟨rfl, HB.out _ _⟩

end Go.Proofs.Ytodpmonbfecfdaa

namespace Go.Proofs.Ytodpmonbfecfdaa
open Go.RowKit
set_option linter.unusedVariables false
set_option linter.unusedSimpArgs false

theorem linksFit_any (n : Nd) (at_ ks : Nat) (hk : ks ≤ 3) (lo hi : Int) (fv : Value) (hfv : fv.oneCell' = true) (w : World) : Calls Try.prog 71 #[.agg #[.int .i64 ks, .int .i64 lo, .int .i64 hi, fv], .agg #[.int .i64 n.a, .int .i64 n.b, .int .i64 n.c], .int .i64 at_] w fun e w' => e = .returned (.bool (Tr.linksOk ks n.a n.b n.c at_)) ∧ Below w.heap.size w w' := by
  match ks, hk with
  | 0, _ =>
    by_cases p0 : n.a = 0
    case neg =>
      have e : Tr.linksOk 0 n.a n.b n.c at_ = false := by simp [Tr.linksOk, Tr.one] <;> omega
      rw [e]; exact links_0_0_zero n at_ lo hi fv hfv w  p0
    case pos =>
      by_cases p1 : n.b = 0
      case neg =>
        have e : Tr.linksOk 0 n.a n.b n.c at_ = false := by simp [Tr.linksOk, Tr.one] <;> omega
        rw [e]; exact links_0_1_zero n at_ lo hi fv hfv w p0 p1
      case pos =>
        by_cases p2 : n.c = 0
        case neg =>
          have e : Tr.linksOk 0 n.a n.b n.c at_ = false := by simp [Tr.linksOk, Tr.one] <;> omega
          rw [e]; exact links_0_2_zero n at_ lo hi fv hfv w p0 p1 p2
        case pos =>
          have e : Tr.linksOk 0 n.a n.b n.c at_ = true := by simp [Tr.linksOk, Tr.one] <;> omega
          rw [e]; exact links_0_3_ok n at_ lo hi fv hfv w p0 p1 p2
  | 1, _ =>
    by_cases p0 : n.a < 0
    · have e : Tr.linksOk 1 n.a n.b n.c at_ = false := by simp [Tr.linksOk, Tr.one] <;> omega
      rw [e]; exact links_1_0_low n at_ lo hi fv hfv w  p0
    by_cases q0 : (at_ : Int) ≤ n.a
    · have e : Tr.linksOk 1 n.a n.b n.c at_ = false := by simp [Tr.linksOk, Tr.one] <;> omega
      rw [e]; exact links_1_0_high n at_ lo hi fv hfv w  (by omega) q0
    by_cases p1 : n.b = 0
    case neg =>
      have e : Tr.linksOk 1 n.a n.b n.c at_ = false := by simp [Tr.linksOk, Tr.one] <;> omega
      rw [e]; exact links_1_1_zero n at_ lo hi fv hfv w (by omega) (by omega) p1
    case pos =>
      by_cases p2 : n.c = 0
      case neg =>
        have e : Tr.linksOk 1 n.a n.b n.c at_ = false := by simp [Tr.linksOk, Tr.one] <;> omega
        rw [e]; exact links_1_2_zero n at_ lo hi fv hfv w (by omega) (by omega) p1 p2
      case pos =>
        have e : Tr.linksOk 1 n.a n.b n.c at_ = true := by simp [Tr.linksOk, Tr.one] <;> omega
        rw [e]; exact links_1_3_ok n at_ lo hi fv hfv w (by omega) (by omega) p1 p2
  | 2, _ =>
    by_cases p0 : n.a < 0
    · have e : Tr.linksOk 2 n.a n.b n.c at_ = false := by simp [Tr.linksOk, Tr.one] <;> omega
      rw [e]; exact links_2_0_low n at_ lo hi fv hfv w  p0
    by_cases q0 : (at_ : Int) ≤ n.a
    · have e : Tr.linksOk 2 n.a n.b n.c at_ = false := by simp [Tr.linksOk, Tr.one] <;> omega
      rw [e]; exact links_2_0_high n at_ lo hi fv hfv w  (by omega) q0
    by_cases p1 : n.b < 0
    · have e : Tr.linksOk 2 n.a n.b n.c at_ = false := by simp [Tr.linksOk, Tr.one] <;> omega
      rw [e]; exact links_2_1_low n at_ lo hi fv hfv w (by omega) (by omega) p1
    by_cases q1 : (at_ : Int) ≤ n.b
    · have e : Tr.linksOk 2 n.a n.b n.c at_ = false := by simp [Tr.linksOk, Tr.one] <;> omega
      rw [e]; exact links_2_1_high n at_ lo hi fv hfv w (by omega) (by omega) (by omega) q1
    by_cases p2 : n.c = 0
    case neg =>
      have e : Tr.linksOk 2 n.a n.b n.c at_ = false := by simp [Tr.linksOk, Tr.one] <;> omega
      rw [e]; exact links_2_2_zero n at_ lo hi fv hfv w (by omega) (by omega) (by omega) (by omega) p2
    case pos =>
      have e : Tr.linksOk 2 n.a n.b n.c at_ = true := by simp [Tr.linksOk, Tr.one] <;> omega
      rw [e]; exact links_2_3_ok n at_ lo hi fv hfv w (by omega) (by omega) (by omega) (by omega) p2
  | 3, _ =>
    by_cases p0 : n.a < 0
    · have e : Tr.linksOk 3 n.a n.b n.c at_ = false := by simp [Tr.linksOk, Tr.one] <;> omega
      rw [e]; exact links_3_0_low n at_ lo hi fv hfv w  p0
    by_cases q0 : (at_ : Int) ≤ n.a
    · have e : Tr.linksOk 3 n.a n.b n.c at_ = false := by simp [Tr.linksOk, Tr.one] <;> omega
      rw [e]; exact links_3_0_high n at_ lo hi fv hfv w  (by omega) q0
    by_cases p1 : n.b < 0
    · have e : Tr.linksOk 3 n.a n.b n.c at_ = false := by simp [Tr.linksOk, Tr.one] <;> omega
      rw [e]; exact links_3_1_low n at_ lo hi fv hfv w (by omega) (by omega) p1
    by_cases q1 : (at_ : Int) ≤ n.b
    · have e : Tr.linksOk 3 n.a n.b n.c at_ = false := by simp [Tr.linksOk, Tr.one] <;> omega
      rw [e]; exact links_3_1_high n at_ lo hi fv hfv w (by omega) (by omega) (by omega) q1
    by_cases p2 : n.c < 0
    · have e : Tr.linksOk 3 n.a n.b n.c at_ = false := by simp [Tr.linksOk, Tr.one] <;> omega
      rw [e]; exact links_3_2_low n at_ lo hi fv hfv w (by omega) (by omega) (by omega) (by omega) p2
    by_cases q2 : (at_ : Int) ≤ n.c
    · have e : Tr.linksOk 3 n.a n.b n.c at_ = false := by simp [Tr.linksOk, Tr.one] <;> omega
      rw [e]; exact links_3_2_high n at_ lo hi fv hfv w (by omega) (by omega) (by omega) (by omega) (by omega) q2
    have e : Tr.linksOk 3 n.a n.b n.c at_ = true := by simp [Tr.linksOk, Tr.one] <;> omega
    rw [e]; exact links_3_3_ok n at_ lo hi fv hfv w (by omega) (by omega) (by omega) (by omega) (by omega) (by omega)

end Go.Proofs.Ytodpmonbfecfdaa
