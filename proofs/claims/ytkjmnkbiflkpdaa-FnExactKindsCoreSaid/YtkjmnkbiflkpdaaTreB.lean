/-
  (impl.shape).linksFit: each place that a node names is ahead of it, and no other is there.
-/
import Derived.Test.YtkjmnkbiflkpdaaTreM
import Derived.Test.YtkjmnkbiflkpdaaText
import Derived.Deep.QuietTactic
import Derived.BigQuiet
namespace Go.Proofs.Ytkjmnkbiflkpdaa
open Go.RowKit
set_option linter.unusedVariables false
set_option linter.unusedSimpArgs false


set_option maxRecDepth 100000 in
set_option maxHeartbeats 1000000 in
theorem links_0_0_zero (n : Nd) (at_ : Nat) (lo hi : Int) (fv : Value) (hfv : fv.oneCell' = true) (w : World) (p0 : n.a ≠ 0) : Calls Try.prog 60 #[.agg #[.int .i64 0, .int .i64 lo, .int .i64 hi, fv], .agg #[.int .i64 n.a, .int .i64 n.b, .int .i64 n.c], .int .i64 at_] w fun e w' => e = .returned (.bool false) ∧ Below w.heap.size w w' := by
  have HB : Hid (∀ o o', Below w.heap.size w ((w.alloc o).alloc o')) := fun o o' => ((Below.refl _ _).alloc (Nat.le_refl _) o).alloc (by simp [go_sem] <;> omega) o'
  have x0 : ∀ w, (Instr.index 96 (.agg #[.int .i64 n.a, .int .i64 n.b, .int .i64 n.c]) (.int .i64 0)).run Try.prog w = .ok (.int .i64 n.a) w := fun w => by simp [Instr.index, run_underlying Try.underlying96, asIntOf, part, go_sem]
  have x1 : ∀ w, (Instr.index 96 (.agg #[.int .i64 n.a, .int .i64 n.b, .int .i64 n.c]) (.int .i64 1)).run Try.prog w = .ok (.int .i64 n.b) w := fun w => by simp [Instr.index, run_underlying Try.underlying96, asIntOf, part, go_sem]
  have x2 : ∀ w, (Instr.index 96 (.agg #[.int .i64 n.a, .int .i64 n.b, .int .i64 n.c]) (.int .i64 2)).run Try.prog w = .ok (.int .i64 n.c) w := fun w => by simp [Instr.index, run_underlying Try.underlying96, asIntOf, part, go_sem]
  have d0 : (n.a != 0) = true := by simpa using p0
  go_enter Try.func60, Try.ntmps60
  go_wp2_with fail
  refine wp_loop_rounds 1 ?_
  rw [rounds_succ]
  go_wp2_with fail
  go_ret
  exact ⟨rfl, HB.out _ _⟩

set_option maxRecDepth 100000 in
set_option maxHeartbeats 1000000 in
theorem links_0_1_zero (n : Nd) (at_ : Nat) (lo hi : Int) (fv : Value) (hfv : fv.oneCell' = true) (w : World) (p0 : n.a = 0) (p1 : n.b ≠ 0) : Calls Try.prog 60 #[.agg #[.int .i64 0, .int .i64 lo, .int .i64 hi, fv], .agg #[.int .i64 n.a, .int .i64 n.b, .int .i64 n.c], .int .i64 at_] w fun e w' => e = .returned (.bool false) ∧ Below w.heap.size w w' := by
  have HB : Hid (∀ o o', Below w.heap.size w ((w.alloc o).alloc o')) := fun o o' => ((Below.refl _ _).alloc (Nat.le_refl _) o).alloc (by simp [go_sem] <;> omega) o'
  have x0 : ∀ w, (Instr.index 96 (.agg #[.int .i64 n.a, .int .i64 n.b, .int .i64 n.c]) (.int .i64 0)).run Try.prog w = .ok (.int .i64 n.a) w := fun w => by simp [Instr.index, run_underlying Try.underlying96, asIntOf, part, go_sem]
  have x1 : ∀ w, (Instr.index 96 (.agg #[.int .i64 n.a, .int .i64 n.b, .int .i64 n.c]) (.int .i64 1)).run Try.prog w = .ok (.int .i64 n.b) w := fun w => by simp [Instr.index, run_underlying Try.underlying96, asIntOf, part, go_sem]
  have x2 : ∀ w, (Instr.index 96 (.agg #[.int .i64 n.a, .int .i64 n.b, .int .i64 n.c]) (.int .i64 2)).run Try.prog w = .ok (.int .i64 n.c) w := fun w => by simp [Instr.index, run_underlying Try.underlying96, asIntOf, part, go_sem]
  have d0 : (n.a != 0) = false := by simp [p0]
  have d1 : (n.b != 0) = true := by simpa using p1
  clear p0
  go_enter Try.func60, Try.ntmps60
  go_wp2_with fail
  refine wp_loop_rounds 2 ?_
  rw [rounds_succ]
  go_wp2_with fail
  rw [rounds_succ]
  go_wp2_with fail
  go_ret
  exact ⟨rfl, HB.out _ _⟩

set_option maxRecDepth 100000 in
set_option maxHeartbeats 1000000 in
theorem links_0_2_zero (n : Nd) (at_ : Nat) (lo hi : Int) (fv : Value) (hfv : fv.oneCell' = true) (w : World) (p0 : n.a = 0) (p1 : n.b = 0) (p2 : n.c ≠ 0) : Calls Try.prog 60 #[.agg #[.int .i64 0, .int .i64 lo, .int .i64 hi, fv], .agg #[.int .i64 n.a, .int .i64 n.b, .int .i64 n.c], .int .i64 at_] w fun e w' => e = .returned (.bool false) ∧ Below w.heap.size w w' := by
  have HB : Hid (∀ o o', Below w.heap.size w ((w.alloc o).alloc o')) := fun o o' => ((Below.refl _ _).alloc (Nat.le_refl _) o).alloc (by simp [go_sem] <;> omega) o'
  have x0 : ∀ w, (Instr.index 96 (.agg #[.int .i64 n.a, .int .i64 n.b, .int .i64 n.c]) (.int .i64 0)).run Try.prog w = .ok (.int .i64 n.a) w := fun w => by simp [Instr.index, run_underlying Try.underlying96, asIntOf, part, go_sem]
  have x1 : ∀ w, (Instr.index 96 (.agg #[.int .i64 n.a, .int .i64 n.b, .int .i64 n.c]) (.int .i64 1)).run Try.prog w = .ok (.int .i64 n.b) w := fun w => by simp [Instr.index, run_underlying Try.underlying96, asIntOf, part, go_sem]
  have x2 : ∀ w, (Instr.index 96 (.agg #[.int .i64 n.a, .int .i64 n.b, .int .i64 n.c]) (.int .i64 2)).run Try.prog w = .ok (.int .i64 n.c) w := fun w => by simp [Instr.index, run_underlying Try.underlying96, asIntOf, part, go_sem]
  have d0 : (n.a != 0) = false := by simp [p0]
  have d1 : (n.b != 0) = false := by simp [p1]
  have d2 : (n.c != 0) = true := by simpa using p2
  clear p0 p1
  go_enter Try.func60, Try.ntmps60
  go_wp2_with fail
  refine wp_loop_rounds 3 ?_
  rw [rounds_succ]
  go_wp2_with fail
  rw [rounds_succ]
  go_wp2_with fail
  rw [rounds_succ]
  go_wp2_with fail
  go_ret
  exact ⟨rfl, HB.out _ _⟩

set_option maxRecDepth 100000 in
set_option maxHeartbeats 1000000 in
theorem links_0_3_ok (n : Nd) (at_ : Nat) (lo hi : Int) (fv : Value) (hfv : fv.oneCell' = true) (w : World) (p0 : n.a = 0) (p1 : n.b = 0) (p2 : n.c = 0) : Calls Try.prog 60 #[.agg #[.int .i64 0, .int .i64 lo, .int .i64 hi, fv], .agg #[.int .i64 n.a, .int .i64 n.b, .int .i64 n.c], .int .i64 at_] w fun e w' => e = .returned (.bool true) ∧ Below w.heap.size w w' := by
  have HB : Hid (∀ o o', Below w.heap.size w ((w.alloc o).alloc o')) := fun o o' => ((Below.refl _ _).alloc (Nat.le_refl _) o).alloc (by simp [go_sem] <;> omega) o'
  have x0 : ∀ w, (Instr.index 96 (.agg #[.int .i64 n.a, .int .i64 n.b, .int .i64 n.c]) (.int .i64 0)).run Try.prog w = .ok (.int .i64 n.a) w := fun w => by simp [Instr.index, run_underlying Try.underlying96, asIntOf, part, go_sem]
  have x1 : ∀ w, (Instr.index 96 (.agg #[.int .i64 n.a, .int .i64 n.b, .int .i64 n.c]) (.int .i64 1)).run Try.prog w = .ok (.int .i64 n.b) w := fun w => by simp [Instr.index, run_underlying Try.underlying96, asIntOf, part, go_sem]
  have x2 : ∀ w, (Instr.index 96 (.agg #[.int .i64 n.a, .int .i64 n.b, .int .i64 n.c]) (.int .i64 2)).run Try.prog w = .ok (.int .i64 n.c) w := fun w => by simp [Instr.index, run_underlying Try.underlying96, asIntOf, part, go_sem]
  have d0 : (n.a != 0) = false := by simp [p0]
  have d1 : (n.b != 0) = false := by simp [p1]
  have d2 : (n.c != 0) = false := by simp [p2]
  clear p0 p1 p2
  go_enter Try.func60, Try.ntmps60
  go_wp2_with fail
  refine wp_loop_rounds 4 ?_
  rw [rounds_succ]
  go_wp2_with fail
  rw [rounds_succ]
  go_wp2_with fail
  rw [rounds_succ]
  go_wp2_with fail
  rw [rounds_succ]
  go_wp2_with fail
  go_ret
  exact ⟨rfl, HB.out _ _⟩

set_option maxRecDepth 100000 in
set_option maxHeartbeats 1000000 in
theorem links_1_0_low (n : Nd) (at_ : Nat) (lo hi : Int) (fv : Value) (hfv : fv.oneCell' = true) (w : World) (p0 : n.a < 0) : Calls Try.prog 60 #[.agg #[.int .i64 1, .int .i64 lo, .int .i64 hi, fv], .agg #[.int .i64 n.a, .int .i64 n.b, .int .i64 n.c], .int .i64 at_] w fun e w' => e = .returned (.bool false) ∧ Below w.heap.size w w' := by
  have HB : Hid (∀ o o', Below w.heap.size w ((w.alloc o).alloc o')) := fun o o' => ((Below.refl _ _).alloc (Nat.le_refl _) o).alloc (by simp [go_sem] <;> omega) o'
  have x0 : ∀ w, (Instr.index 96 (.agg #[.int .i64 n.a, .int .i64 n.b, .int .i64 n.c]) (.int .i64 0)).run Try.prog w = .ok (.int .i64 n.a) w := fun w => by simp [Instr.index, run_underlying Try.underlying96, asIntOf, part, go_sem]
  have x1 : ∀ w, (Instr.index 96 (.agg #[.int .i64 n.a, .int .i64 n.b, .int .i64 n.c]) (.int .i64 1)).run Try.prog w = .ok (.int .i64 n.b) w := fun w => by simp [Instr.index, run_underlying Try.underlying96, asIntOf, part, go_sem]
  have x2 : ∀ w, (Instr.index 96 (.agg #[.int .i64 n.a, .int .i64 n.b, .int .i64 n.c]) (.int .i64 2)).run Try.prog w = .ok (.int .i64 n.c) w := fun w => by simp [Instr.index, run_underlying Try.underlying96, asIntOf, part, go_sem]
  have d0 : decide (n.a < 0) = true := decide_eq_true p0
  go_enter Try.func60, Try.ntmps60
  go_wp2_with fail
  refine wp_loop_rounds 1 ?_
  rw [rounds_succ]
  go_wp2_with fail
  go_ret
  exact ⟨rfl, HB.out _ _⟩

set_option maxRecDepth 100000 in
set_option maxHeartbeats 1000000 in
theorem links_1_0_high (n : Nd) (at_ : Nat) (lo hi : Int) (fv : Value) (hfv : fv.oneCell' = true) (w : World) (p0 : 0 ≤ n.a) (q0 : at_ ≤ n.a) : Calls Try.prog 60 #[.agg #[.int .i64 1, .int .i64 lo, .int .i64 hi, fv], .agg #[.int .i64 n.a, .int .i64 n.b, .int .i64 n.c], .int .i64 at_] w fun e w' => e = .returned (.bool false) ∧ Below w.heap.size w w' := by
  have HB : Hid (∀ o o', Below w.heap.size w ((w.alloc o).alloc o')) := fun o o' => ((Below.refl _ _).alloc (Nat.le_refl _) o).alloc (by simp [go_sem] <;> omega) o'
  have x0 : ∀ w, (Instr.index 96 (.agg #[.int .i64 n.a, .int .i64 n.b, .int .i64 n.c]) (.int .i64 0)).run Try.prog w = .ok (.int .i64 n.a) w := fun w => by simp [Instr.index, run_underlying Try.underlying96, asIntOf, part, go_sem]
  have x1 : ∀ w, (Instr.index 96 (.agg #[.int .i64 n.a, .int .i64 n.b, .int .i64 n.c]) (.int .i64 1)).run Try.prog w = .ok (.int .i64 n.b) w := fun w => by simp [Instr.index, run_underlying Try.underlying96, asIntOf, part, go_sem]
  have x2 : ∀ w, (Instr.index 96 (.agg #[.int .i64 n.a, .int .i64 n.b, .int .i64 n.c]) (.int .i64 2)).run Try.prog w = .ok (.int .i64 n.c) w := fun w => by simp [Instr.index, run_underlying Try.underlying96, asIntOf, part, go_sem]
  have d0 : decide (n.a < 0) = false := decide_eq_false (by omega)
  have e0 : decide (n.a ≥ (at_ : Int)) = true := decide_eq_true q0
  go_enter Try.func60, Try.ntmps60
  go_wp2_with fail
  refine wp_loop_rounds 1 ?_
  rw [rounds_succ]
  go_wp2_with fail
  go_ret
  exact ⟨rfl, HB.out _ _⟩

set_option maxRecDepth 100000 in
set_option maxHeartbeats 1000000 in
theorem links_1_1_zero (n : Nd) (at_ : Nat) (lo hi : Int) (fv : Value) (hfv : fv.oneCell' = true) (w : World) (p0 : 0 ≤ n.a) (q0 : n.a < at_) (p1 : n.b ≠ 0) : Calls Try.prog 60 #[.agg #[.int .i64 1, .int .i64 lo, .int .i64 hi, fv], .agg #[.int .i64 n.a, .int .i64 n.b, .int .i64 n.c], .int .i64 at_] w fun e w' => e = .returned (.bool false) ∧ Below w.heap.size w w' := by
  have HB : Hid (∀ o o', Below w.heap.size w ((w.alloc o).alloc o')) := fun o o' => ((Below.refl _ _).alloc (Nat.le_refl _) o).alloc (by simp [go_sem] <;> omega) o'
  have x0 : ∀ w, (Instr.index 96 (.agg #[.int .i64 n.a, .int .i64 n.b, .int .i64 n.c]) (.int .i64 0)).run Try.prog w = .ok (.int .i64 n.a) w := fun w => by simp [Instr.index, run_underlying Try.underlying96, asIntOf, part, go_sem]
  have x1 : ∀ w, (Instr.index 96 (.agg #[.int .i64 n.a, .int .i64 n.b, .int .i64 n.c]) (.int .i64 1)).run Try.prog w = .ok (.int .i64 n.b) w := fun w => by simp [Instr.index, run_underlying Try.underlying96, asIntOf, part, go_sem]
  have x2 : ∀ w, (Instr.index 96 (.agg #[.int .i64 n.a, .int .i64 n.b, .int .i64 n.c]) (.int .i64 2)).run Try.prog w = .ok (.int .i64 n.c) w := fun w => by simp [Instr.index, run_underlying Try.underlying96, asIntOf, part, go_sem]
  have d0 : decide (n.a < 0) = false := decide_eq_false (by omega)
  have e0 : decide (n.a ≥ (at_ : Int)) = false := decide_eq_false (by omega)
  have d1 : (n.b != 0) = true := by simpa using p1
  go_enter Try.func60, Try.ntmps60
  go_wp2_with fail
  refine wp_loop_rounds 2 ?_
  rw [rounds_succ]
  go_wp2_with fail
  rw [rounds_succ]
  go_wp2_with fail
  go_ret
  exact ⟨rfl, HB.out _ _⟩

set_option maxRecDepth 100000 in
set_option maxHeartbeats 1000000 in
theorem links_1_2_zero (n : Nd) (at_ : Nat) (lo hi : Int) (fv : Value) (hfv : fv.oneCell' = true) (w : World) (p0 : 0 ≤ n.a) (q0 : n.a < at_) (p1 : n.b = 0) (p2 : n.c ≠ 0) : Calls Try.prog 60 #[.agg #[.int .i64 1, .int .i64 lo, .int .i64 hi, fv], .agg #[.int .i64 n.a, .int .i64 n.b, .int .i64 n.c], .int .i64 at_] w fun e w' => e = .returned (.bool false) ∧ Below w.heap.size w w' := by
  have HB : Hid (∀ o o', Below w.heap.size w ((w.alloc o).alloc o')) := fun o o' => ((Below.refl _ _).alloc (Nat.le_refl _) o).alloc (by simp [go_sem] <;> omega) o'
  have x0 : ∀ w, (Instr.index 96 (.agg #[.int .i64 n.a, .int .i64 n.b, .int .i64 n.c]) (.int .i64 0)).run Try.prog w = .ok (.int .i64 n.a) w := fun w => by simp [Instr.index, run_underlying Try.underlying96, asIntOf, part, go_sem]
  have x1 : ∀ w, (Instr.index 96 (.agg #[.int .i64 n.a, .int .i64 n.b, .int .i64 n.c]) (.int .i64 1)).run Try.prog w = .ok (.int .i64 n.b) w := fun w => by simp [Instr.index, run_underlying Try.underlying96, asIntOf, part, go_sem]
  have x2 : ∀ w, (Instr.index 96 (.agg #[.int .i64 n.a, .int .i64 n.b, .int .i64 n.c]) (.int .i64 2)).run Try.prog w = .ok (.int .i64 n.c) w := fun w => by simp [Instr.index, run_underlying Try.underlying96, asIntOf, part, go_sem]
  have d0 : decide (n.a < 0) = false := decide_eq_false (by omega)
  have e0 : decide (n.a ≥ (at_ : Int)) = false := decide_eq_false (by omega)
  have d1 : (n.b != 0) = false := by simp [p1]
  have d2 : (n.c != 0) = true := by simpa using p2
  clear p1
  go_enter Try.func60, Try.ntmps60
  go_wp2_with fail
  refine wp_loop_rounds 3 ?_
  rw [rounds_succ]
  go_wp2_with fail
  rw [rounds_succ]
  go_wp2_with fail
  rw [rounds_succ]
  go_wp2_with fail
  go_ret
  exact ⟨rfl, HB.out _ _⟩

set_option maxRecDepth 100000 in
set_option maxHeartbeats 1000000 in
theorem links_1_3_ok (n : Nd) (at_ : Nat) (lo hi : Int) (fv : Value) (hfv : fv.oneCell' = true) (w : World) (p0 : 0 ≤ n.a) (q0 : n.a < at_) (p1 : n.b = 0) (p2 : n.c = 0) : Calls Try.prog 60 #[.agg #[.int .i64 1, .int .i64 lo, .int .i64 hi, fv], .agg #[.int .i64 n.a, .int .i64 n.b, .int .i64 n.c], .int .i64 at_] w fun e w' => e = .returned (.bool true) ∧ Below w.heap.size w w' := by
  have HB : Hid (∀ o o', Below w.heap.size w ((w.alloc o).alloc o')) := fun o o' => ((Below.refl _ _).alloc (Nat.le_refl _) o).alloc (by simp [go_sem] <;> omega) o'
  have x0 : ∀ w, (Instr.index 96 (.agg #[.int .i64 n.a, .int .i64 n.b, .int .i64 n.c]) (.int .i64 0)).run Try.prog w = .ok (.int .i64 n.a) w := fun w => by simp [Instr.index, run_underlying Try.underlying96, asIntOf, part, go_sem]
  have x1 : ∀ w, (Instr.index 96 (.agg #[.int .i64 n.a, .int .i64 n.b, .int .i64 n.c]) (.int .i64 1)).run Try.prog w = .ok (.int .i64 n.b) w := fun w => by simp [Instr.index, run_underlying Try.underlying96, asIntOf, part, go_sem]
  have x2 : ∀ w, (Instr.index 96 (.agg #[.int .i64 n.a, .int .i64 n.b, .int .i64 n.c]) (.int .i64 2)).run Try.prog w = .ok (.int .i64 n.c) w := fun w => by simp [Instr.index, run_underlying Try.underlying96, asIntOf, part, go_sem]
  have d0 : decide (n.a < 0) = false := decide_eq_false (by omega)
  have e0 : decide (n.a ≥ (at_ : Int)) = false := decide_eq_false (by omega)
  have d1 : (n.b != 0) = false := by simp [p1]
  have d2 : (n.c != 0) = false := by simp [p2]
  clear p1 p2
  go_enter Try.func60, Try.ntmps60
  go_wp2_with fail
  refine wp_loop_rounds 4 ?_
  rw [rounds_succ]
  go_wp2_with fail
  rw [rounds_succ]
  go_wp2_with fail
  rw [rounds_succ]
  go_wp2_with fail
  rw [rounds_succ]
  go_wp2_with fail
  go_ret
  exact ⟨rfl, HB.out _ _⟩

set_option maxRecDepth 100000 in
set_option maxHeartbeats 1000000 in
theorem links_2_0_low (n : Nd) (at_ : Nat) (lo hi : Int) (fv : Value) (hfv : fv.oneCell' = true) (w : World) (p0 : n.a < 0) : Calls Try.prog 60 #[.agg #[.int .i64 2, .int .i64 lo, .int .i64 hi, fv], .agg #[.int .i64 n.a, .int .i64 n.b, .int .i64 n.c], .int .i64 at_] w fun e w' => e = .returned (.bool false) ∧ Below w.heap.size w w' := by
  have HB : Hid (∀ o o', Below w.heap.size w ((w.alloc o).alloc o')) := fun o o' => ((Below.refl _ _).alloc (Nat.le_refl _) o).alloc (by simp [go_sem] <;> omega) o'
  have x0 : ∀ w, (Instr.index 96 (.agg #[.int .i64 n.a, .int .i64 n.b, .int .i64 n.c]) (.int .i64 0)).run Try.prog w = .ok (.int .i64 n.a) w := fun w => by simp [Instr.index, run_underlying Try.underlying96, asIntOf, part, go_sem]
  have x1 : ∀ w, (Instr.index 96 (.agg #[.int .i64 n.a, .int .i64 n.b, .int .i64 n.c]) (.int .i64 1)).run Try.prog w = .ok (.int .i64 n.b) w := fun w => by simp [Instr.index, run_underlying Try.underlying96, asIntOf, part, go_sem]
  have x2 : ∀ w, (Instr.index 96 (.agg #[.int .i64 n.a, .int .i64 n.b, .int .i64 n.c]) (.int .i64 2)).run Try.prog w = .ok (.int .i64 n.c) w := fun w => by simp [Instr.index, run_underlying Try.underlying96, asIntOf, part, go_sem]
  have d0 : decide (n.a < 0) = true := decide_eq_true p0
  go_enter Try.func60, Try.ntmps60
  go_wp2_with fail
  refine wp_loop_rounds 1 ?_
  rw [rounds_succ]
  go_wp2_with fail
  go_ret
  exact ⟨rfl, HB.out _ _⟩

set_option maxRecDepth 100000 in
set_option maxHeartbeats 1000000 in
theorem links_2_0_high (n : Nd) (at_ : Nat) (lo hi : Int) (fv : Value) (hfv : fv.oneCell' = true) (w : World) (p0 : 0 ≤ n.a) (q0 : at_ ≤ n.a) : Calls Try.prog 60 #[.agg #[.int .i64 2, .int .i64 lo, .int .i64 hi, fv], .agg #[.int .i64 n.a, .int .i64 n.b, .int .i64 n.c], .int .i64 at_] w fun e w' => e = .returned (.bool false) ∧ Below w.heap.size w w' := by
  have HB : Hid (∀ o o', Below w.heap.size w ((w.alloc o).alloc o')) := fun o o' => ((Below.refl _ _).alloc (Nat.le_refl _) o).alloc (by simp [go_sem] <;> omega) o'
  have x0 : ∀ w, (Instr.index 96 (.agg #[.int .i64 n.a, .int .i64 n.b, .int .i64 n.c]) (.int .i64 0)).run Try.prog w = .ok (.int .i64 n.a) w := fun w => by simp [Instr.index, run_underlying Try.underlying96, asIntOf, part, go_sem]
  have x1 : ∀ w, (Instr.index 96 (.agg #[.int .i64 n.a, .int .i64 n.b, .int .i64 n.c]) (.int .i64 1)).run Try.prog w = .ok (.int .i64 n.b) w := fun w => by simp [Instr.index, run_underlying Try.underlying96, asIntOf, part, go_sem]
  have x2 : ∀ w, (Instr.index 96 (.agg #[.int .i64 n.a, .int .i64 n.b, .int .i64 n.c]) (.int .i64 2)).run Try.prog w = .ok (.int .i64 n.c) w := fun w => by simp [Instr.index, run_underlying Try.underlying96, asIntOf, part, go_sem]
  have d0 : decide (n.a < 0) = false := decide_eq_false (by omega)
  have e0 : decide (n.a ≥ (at_ : Int)) = true := decide_eq_true q0
  go_enter Try.func60, Try.ntmps60
  go_wp2_with fail
  refine wp_loop_rounds 1 ?_
  rw [rounds_succ]
  go_wp2_with fail
  go_ret
  exact ⟨rfl, HB.out _ _⟩

set_option maxRecDepth 100000 in
set_option maxHeartbeats 1000000 in
theorem links_2_1_low (n : Nd) (at_ : Nat) (lo hi : Int) (fv : Value) (hfv : fv.oneCell' = true) (w : World) (p0 : 0 ≤ n.a) (q0 : n.a < at_) (p1 : n.b < 0) : Calls Try.prog 60 #[.agg #[.int .i64 2, .int .i64 lo, .int .i64 hi, fv], .agg #[.int .i64 n.a, .int .i64 n.b, .int .i64 n.c], .int .i64 at_] w fun e w' => e = .returned (.bool false) ∧ Below w.heap.size w w' := by
  have HB : Hid (∀ o o', Below w.heap.size w ((w.alloc o).alloc o')) := fun o o' => ((Below.refl _ _).alloc (Nat.le_refl _) o).alloc (by simp [go_sem] <;> omega) o'
  have x0 : ∀ w, (Instr.index 96 (.agg #[.int .i64 n.a, .int .i64 n.b, .int .i64 n.c]) (.int .i64 0)).run Try.prog w = .ok (.int .i64 n.a) w := fun w => by simp [Instr.index, run_underlying Try.underlying96, asIntOf, part, go_sem]
  have x1 : ∀ w, (Instr.index 96 (.agg #[.int .i64 n.a, .int .i64 n.b, .int .i64 n.c]) (.int .i64 1)).run Try.prog w = .ok (.int .i64 n.b) w := fun w => by simp [Instr.index, run_underlying Try.underlying96, asIntOf, part, go_sem]
  have x2 : ∀ w, (Instr.index 96 (.agg #[.int .i64 n.a, .int .i64 n.b, .int .i64 n.c]) (.int .i64 2)).run Try.prog w = .ok (.int .i64 n.c) w := fun w => by simp [Instr.index, run_underlying Try.underlying96, asIntOf, part, go_sem]
  have d0 : decide (n.a < 0) = false := decide_eq_false (by omega)
  have e0 : decide (n.a ≥ (at_ : Int)) = false := decide_eq_false (by omega)
  have d1 : decide (n.b < 0) = true := decide_eq_true p1
  go_enter Try.func60, Try.ntmps60
  go_wp2_with fail
  refine wp_loop_rounds 2 ?_
  rw [rounds_succ]
  go_wp2_with fail
  rw [rounds_succ]
  go_wp2_with fail
  go_ret
  exact ⟨rfl, HB.out _ _⟩

set_option maxRecDepth 100000 in
set_option maxHeartbeats 1000000 in
theorem links_2_1_high (n : Nd) (at_ : Nat) (lo hi : Int) (fv : Value) (hfv : fv.oneCell' = true) (w : World) (p0 : 0 ≤ n.a) (q0 : n.a < at_) (p1 : 0 ≤ n.b) (q1 : at_ ≤ n.b) : Calls Try.prog 60 #[.agg #[.int .i64 2, .int .i64 lo, .int .i64 hi, fv], .agg #[.int .i64 n.a, .int .i64 n.b, .int .i64 n.c], .int .i64 at_] w fun e w' => e = .returned (.bool false) ∧ Below w.heap.size w w' := by
  have HB : Hid (∀ o o', Below w.heap.size w ((w.alloc o).alloc o')) := fun o o' => ((Below.refl _ _).alloc (Nat.le_refl _) o).alloc (by simp [go_sem] <;> omega) o'
  have x0 : ∀ w, (Instr.index 96 (.agg #[.int .i64 n.a, .int .i64 n.b, .int .i64 n.c]) (.int .i64 0)).run Try.prog w = .ok (.int .i64 n.a) w := fun w => by simp [Instr.index, run_underlying Try.underlying96, asIntOf, part, go_sem]
  have x1 : ∀ w, (Instr.index 96 (.agg #[.int .i64 n.a, .int .i64 n.b, .int .i64 n.c]) (.int .i64 1)).run Try.prog w = .ok (.int .i64 n.b) w := fun w => by simp [Instr.index, run_underlying Try.underlying96, asIntOf, part, go_sem]
  have x2 : ∀ w, (Instr.index 96 (.agg #[.int .i64 n.a, .int .i64 n.b, .int .i64 n.c]) (.int .i64 2)).run Try.prog w = .ok (.int .i64 n.c) w := fun w => by simp [Instr.index, run_underlying Try.underlying96, asIntOf, part, go_sem]
  have d0 : decide (n.a < 0) = false := decide_eq_false (by omega)
  have e0 : decide (n.a ≥ (at_ : Int)) = false := decide_eq_false (by omega)
  have d1 : decide (n.b < 0) = false := decide_eq_false (by omega)
  have e1 : decide (n.b ≥ (at_ : Int)) = true := decide_eq_true q1
  go_enter Try.func60, Try.ntmps60
  go_wp2_with fail
  refine wp_loop_rounds 2 ?_
  rw [rounds_succ]
  go_wp2_with fail
  rw [rounds_succ]
  go_wp2_with fail
  go_ret
  exact ⟨rfl, HB.out _ _⟩

set_option maxRecDepth 100000 in
set_option maxHeartbeats 1000000 in
theorem links_2_2_zero (n : Nd) (at_ : Nat) (lo hi : Int) (fv : Value) (hfv : fv.oneCell' = true) (w : World) (p0 : 0 ≤ n.a) (q0 : n.a < at_) (p1 : 0 ≤ n.b) (q1 : n.b < at_) (p2 : n.c ≠ 0) : Calls Try.prog 60 #[.agg #[.int .i64 2, .int .i64 lo, .int .i64 hi, fv], .agg #[.int .i64 n.a, .int .i64 n.b, .int .i64 n.c], .int .i64 at_] w fun e w' => e = .returned (.bool false) ∧ Below w.heap.size w w' := by
  have HB : Hid (∀ o o', Below w.heap.size w ((w.alloc o).alloc o')) := fun o o' => ((Below.refl _ _).alloc (Nat.le_refl _) o).alloc (by simp [go_sem] <;> omega) o'
  have x0 : ∀ w, (Instr.index 96 (.agg #[.int .i64 n.a, .int .i64 n.b, .int .i64 n.c]) (.int .i64 0)).run Try.prog w = .ok (.int .i64 n.a) w := fun w => by simp [Instr.index, run_underlying Try.underlying96, asIntOf, part, go_sem]
  have x1 : ∀ w, (Instr.index 96 (.agg #[.int .i64 n.a, .int .i64 n.b, .int .i64 n.c]) (.int .i64 1)).run Try.prog w = .ok (.int .i64 n.b) w := fun w => by simp [Instr.index, run_underlying Try.underlying96, asIntOf, part, go_sem]
  have x2 : ∀ w, (Instr.index 96 (.agg #[.int .i64 n.a, .int .i64 n.b, .int .i64 n.c]) (.int .i64 2)).run Try.prog w = .ok (.int .i64 n.c) w := fun w => by simp [Instr.index, run_underlying Try.underlying96, asIntOf, part, go_sem]
  have d0 : decide (n.a < 0) = false := decide_eq_false (by omega)
  have e0 : decide (n.a ≥ (at_ : Int)) = false := decide_eq_false (by omega)
  have d1 : decide (n.b < 0) = false := decide_eq_false (by omega)
  have e1 : decide (n.b ≥ (at_ : Int)) = false := decide_eq_false (by omega)
  have d2 : (n.c != 0) = true := by simpa using p2
  go_enter Try.func60, Try.ntmps60
  go_wp2_with fail
  refine wp_loop_rounds 3 ?_
  rw [rounds_succ]
  go_wp2_with fail
  rw [rounds_succ]
  go_wp2_with fail
  rw [rounds_succ]
  go_wp2_with fail
  go_ret
  exact ⟨rfl, HB.out _ _⟩

set_option maxRecDepth 100000 in
set_option maxHeartbeats 1000000 in
theorem links_2_3_ok (n : Nd) (at_ : Nat) (lo hi : Int) (fv : Value) (hfv : fv.oneCell' = true) (w : World) (p0 : 0 ≤ n.a) (q0 : n.a < at_) (p1 : 0 ≤ n.b) (q1 : n.b < at_) (p2 : n.c = 0) : Calls Try.prog 60 #[.agg #[.int .i64 2, .int .i64 lo, .int .i64 hi, fv], .agg #[.int .i64 n.a, .int .i64 n.b, .int .i64 n.c], .int .i64 at_] w fun e w' => e = .returned (.bool true) ∧ Below w.heap.size w w' := by
  have HB : Hid (∀ o o', Below w.heap.size w ((w.alloc o).alloc o')) := fun o o' => ((Below.refl _ _).alloc (Nat.le_refl _) o).alloc (by simp [go_sem] <;> omega) o'
  have x0 : ∀ w, (Instr.index 96 (.agg #[.int .i64 n.a, .int .i64 n.b, .int .i64 n.c]) (.int .i64 0)).run Try.prog w = .ok (.int .i64 n.a) w := fun w => by simp [Instr.index, run_underlying Try.underlying96, asIntOf, part, go_sem]
  have x1 : ∀ w, (Instr.index 96 (.agg #[.int .i64 n.a, .int .i64 n.b, .int .i64 n.c]) (.int .i64 1)).run Try.prog w = .ok (.int .i64 n.b) w := fun w => by simp [Instr.index, run_underlying Try.underlying96, asIntOf, part, go_sem]
  have x2 : ∀ w, (Instr.index 96 (.agg #[.int .i64 n.a, .int .i64 n.b, .int .i64 n.c]) (.int .i64 2)).run Try.prog w = .ok (.int .i64 n.c) w := fun w => by simp [Instr.index, run_underlying Try.underlying96, asIntOf, part, go_sem]
  have d0 : decide (n.a < 0) = false := decide_eq_false (by omega)
  have e0 : decide (n.a ≥ (at_ : Int)) = false := decide_eq_false (by omega)
  have d1 : decide (n.b < 0) = false := decide_eq_false (by omega)
  have e1 : decide (n.b ≥ (at_ : Int)) = false := decide_eq_false (by omega)
  have d2 : (n.c != 0) = false := by simp [p2]
  clear p2
  go_enter Try.func60, Try.ntmps60
  go_wp2_with fail
  refine wp_loop_rounds 4 ?_
  rw [rounds_succ]
  go_wp2_with fail
  rw [rounds_succ]
  go_wp2_with fail
  rw [rounds_succ]
  go_wp2_with fail
  rw [rounds_succ]
  go_wp2_with fail
  go_ret
  exact ⟨rfl, HB.out _ _⟩

set_option maxRecDepth 100000 in
set_option maxHeartbeats 1000000 in
theorem links_3_0_low (n : Nd) (at_ : Nat) (lo hi : Int) (fv : Value) (hfv : fv.oneCell' = true) (w : World) (p0 : n.a < 0) : Calls Try.prog 60 #[.agg #[.int .i64 3, .int .i64 lo, .int .i64 hi, fv], .agg #[.int .i64 n.a, .int .i64 n.b, .int .i64 n.c], .int .i64 at_] w fun e w' => e = .returned (.bool false) ∧ Below w.heap.size w w' := by
  have HB : Hid (∀ o o', Below w.heap.size w ((w.alloc o).alloc o')) := fun o o' => ((Below.refl _ _).alloc (Nat.le_refl _) o).alloc (by simp [go_sem] <;> omega) o'
  have x0 : ∀ w, (Instr.index 96 (.agg #[.int .i64 n.a, .int .i64 n.b, .int .i64 n.c]) (.int .i64 0)).run Try.prog w = .ok (.int .i64 n.a) w := fun w => by simp [Instr.index, run_underlying Try.underlying96, asIntOf, part, go_sem]
  have x1 : ∀ w, (Instr.index 96 (.agg #[.int .i64 n.a, .int .i64 n.b, .int .i64 n.c]) (.int .i64 1)).run Try.prog w = .ok (.int .i64 n.b) w := fun w => by simp [Instr.index, run_underlying Try.underlying96, asIntOf, part, go_sem]
  have x2 : ∀ w, (Instr.index 96 (.agg #[.int .i64 n.a, .int .i64 n.b, .int .i64 n.c]) (.int .i64 2)).run Try.prog w = .ok (.int .i64 n.c) w := fun w => by simp [Instr.index, run_underlying Try.underlying96, asIntOf, part, go_sem]
  have d0 : decide (n.a < 0) = true := decide_eq_true p0
  go_enter Try.func60, Try.ntmps60
  go_wp2_with fail
  refine wp_loop_rounds 1 ?_
  rw [rounds_succ]
  go_wp2_with fail
  go_ret
  exact ⟨rfl, HB.out _ _⟩

set_option maxRecDepth 100000 in
set_option maxHeartbeats 1000000 in
theorem links_3_0_high (n : Nd) (at_ : Nat) (lo hi : Int) (fv : Value) (hfv : fv.oneCell' = true) (w : World) (p0 : 0 ≤ n.a) (q0 : at_ ≤ n.a) : Calls Try.prog 60 #[.agg #[.int .i64 3, .int .i64 lo, .int .i64 hi, fv], .agg #[.int .i64 n.a, .int .i64 n.b, .int .i64 n.c], .int .i64 at_] w fun e w' => e = .returned (.bool false) ∧ Below w.heap.size w w' := by
  have HB : Hid (∀ o o', Below w.heap.size w ((w.alloc o).alloc o')) := fun o o' => ((Below.refl _ _).alloc (Nat.le_refl _) o).alloc (by simp [go_sem] <;> omega) o'
  have x0 : ∀ w, (Instr.index 96 (.agg #[.int .i64 n.a, .int .i64 n.b, .int .i64 n.c]) (.int .i64 0)).run Try.prog w = .ok (.int .i64 n.a) w := fun w => by simp [Instr.index, run_underlying Try.underlying96, asIntOf, part, go_sem]
  have x1 : ∀ w, (Instr.index 96 (.agg #[.int .i64 n.a, .int .i64 n.b, .int .i64 n.c]) (.int .i64 1)).run Try.prog w = .ok (.int .i64 n.b) w := fun w => by simp [Instr.index, run_underlying Try.underlying96, asIntOf, part, go_sem]
  have x2 : ∀ w, (Instr.index 96 (.agg #[.int .i64 n.a, .int .i64 n.b, .int .i64 n.c]) (.int .i64 2)).run Try.prog w = .ok (.int .i64 n.c) w := fun w => by simp [Instr.index, run_underlying Try.underlying96, asIntOf, part, go_sem]
  have d0 : decide (n.a < 0) = false := decide_eq_false (by omega)
  have e0 : decide (n.a ≥ (at_ : Int)) = true := decide_eq_true q0
  go_enter Try.func60, Try.ntmps60
  go_wp2_with fail
  refine wp_loop_rounds 1 ?_
  rw [rounds_succ]
  go_wp2_with fail
  go_ret
  exact ⟨rfl, HB.out _ _⟩

set_option maxRecDepth 100000 in
set_option maxHeartbeats 1000000 in
theorem links_3_1_low (n : Nd) (at_ : Nat) (lo hi : Int) (fv : Value) (hfv : fv.oneCell' = true) (w : World) (p0 : 0 ≤ n.a) (q0 : n.a < at_) (p1 : n.b < 0) : Calls Try.prog 60 #[.agg #[.int .i64 3, .int .i64 lo, .int .i64 hi, fv], .agg #[.int .i64 n.a, .int .i64 n.b, .int .i64 n.c], .int .i64 at_] w fun e w' => e = .returned (.bool false) ∧ Below w.heap.size w w' := by
  have HB : Hid (∀ o o', Below w.heap.size w ((w.alloc o).alloc o')) := fun o o' => ((Below.refl _ _).alloc (Nat.le_refl _) o).alloc (by simp [go_sem] <;> omega) o'
  have x0 : ∀ w, (Instr.index 96 (.agg #[.int .i64 n.a, .int .i64 n.b, .int .i64 n.c]) (.int .i64 0)).run Try.prog w = .ok (.int .i64 n.a) w := fun w => by simp [Instr.index, run_underlying Try.underlying96, asIntOf, part, go_sem]
  have x1 : ∀ w, (Instr.index 96 (.agg #[.int .i64 n.a, .int .i64 n.b, .int .i64 n.c]) (.int .i64 1)).run Try.prog w = .ok (.int .i64 n.b) w := fun w => by simp [Instr.index, run_underlying Try.underlying96, asIntOf, part, go_sem]
  have x2 : ∀ w, (Instr.index 96 (.agg #[.int .i64 n.a, .int .i64 n.b, .int .i64 n.c]) (.int .i64 2)).run Try.prog w = .ok (.int .i64 n.c) w := fun w => by simp [Instr.index, run_underlying Try.underlying96, asIntOf, part, go_sem]
  have d0 : decide (n.a < 0) = false := decide_eq_false (by omega)
  have e0 : decide (n.a ≥ (at_ : Int)) = false := decide_eq_false (by omega)
  have d1 : decide (n.b < 0) = true := decide_eq_true p1
  go_enter Try.func60, Try.ntmps60
  go_wp2_with fail
  refine wp_loop_rounds 2 ?_
  rw [rounds_succ]
  go_wp2_with fail
  rw [rounds_succ]
  go_wp2_with fail
  go_ret
  exact ⟨rfl, HB.out _ _⟩

set_option maxRecDepth 100000 in
set_option maxHeartbeats 1000000 in
theorem links_3_1_high (n : Nd) (at_ : Nat) (lo hi : Int) (fv : Value) (hfv : fv.oneCell' = true) (w : World) (p0 : 0 ≤ n.a) (q0 : n.a < at_) (p1 : 0 ≤ n.b) (q1 : at_ ≤ n.b) : Calls Try.prog 60 #[.agg #[.int .i64 3, .int .i64 lo, .int .i64 hi, fv], .agg #[.int .i64 n.a, .int .i64 n.b, .int .i64 n.c], .int .i64 at_] w fun e w' => e = .returned (.bool false) ∧ Below w.heap.size w w' := by
  have HB : Hid (∀ o o', Below w.heap.size w ((w.alloc o).alloc o')) := fun o o' => ((Below.refl _ _).alloc (Nat.le_refl _) o).alloc (by simp [go_sem] <;> omega) o'
  have x0 : ∀ w, (Instr.index 96 (.agg #[.int .i64 n.a, .int .i64 n.b, .int .i64 n.c]) (.int .i64 0)).run Try.prog w = .ok (.int .i64 n.a) w := fun w => by simp [Instr.index, run_underlying Try.underlying96, asIntOf, part, go_sem]
  have x1 : ∀ w, (Instr.index 96 (.agg #[.int .i64 n.a, .int .i64 n.b, .int .i64 n.c]) (.int .i64 1)).run Try.prog w = .ok (.int .i64 n.b) w := fun w => by simp [Instr.index, run_underlying Try.underlying96, asIntOf, part, go_sem]
  have x2 : ∀ w, (Instr.index 96 (.agg #[.int .i64 n.a, .int .i64 n.b, .int .i64 n.c]) (.int .i64 2)).run Try.prog w = .ok (.int .i64 n.c) w := fun w => by simp [Instr.index, run_underlying Try.underlying96, asIntOf, part, go_sem]
  have d0 : decide (n.a < 0) = false := decide_eq_false (by omega)
  have e0 : decide (n.a ≥ (at_ : Int)) = false := decide_eq_false (by omega)
  have d1 : decide (n.b < 0) = false := decide_eq_false (by omega)
  have e1 : decide (n.b ≥ (at_ : Int)) = true := decide_eq_true q1
  go_enter Try.func60, Try.ntmps60
  go_wp2_with fail
  refine wp_loop_rounds 2 ?_
  rw [rounds_succ]
  go_wp2_with fail
  rw [rounds_succ]
  go_wp2_with fail
  go_ret
  exact ⟨rfl, HB.out _ _⟩

set_option maxRecDepth 100000 in
set_option maxHeartbeats 1000000 in
theorem links_3_2_low (n : Nd) (at_ : Nat) (lo hi : Int) (fv : Value) (hfv : fv.oneCell' = true) (w : World) (p0 : 0 ≤ n.a) (q0 : n.a < at_) (p1 : 0 ≤ n.b) (q1 : n.b < at_) (p2 : n.c < 0) : Calls Try.prog 60 #[.agg #[.int .i64 3, .int .i64 lo, .int .i64 hi, fv], .agg #[.int .i64 n.a, .int .i64 n.b, .int .i64 n.c], .int .i64 at_] w fun e w' => e = .returned (.bool false) ∧ Below w.heap.size w w' := by
  have HB : Hid (∀ o o', Below w.heap.size w ((w.alloc o).alloc o')) := fun o o' => ((Below.refl _ _).alloc (Nat.le_refl _) o).alloc (by simp [go_sem] <;> omega) o'
  have x0 : ∀ w, (Instr.index 96 (.agg #[.int .i64 n.a, .int .i64 n.b, .int .i64 n.c]) (.int .i64 0)).run Try.prog w = .ok (.int .i64 n.a) w := fun w => by simp [Instr.index, run_underlying Try.underlying96, asIntOf, part, go_sem]
  have x1 : ∀ w, (Instr.index 96 (.agg #[.int .i64 n.a, .int .i64 n.b, .int .i64 n.c]) (.int .i64 1)).run Try.prog w = .ok (.int .i64 n.b) w := fun w => by simp [Instr.index, run_underlying Try.underlying96, asIntOf, part, go_sem]
  have x2 : ∀ w, (Instr.index 96 (.agg #[.int .i64 n.a, .int .i64 n.b, .int .i64 n.c]) (.int .i64 2)).run Try.prog w = .ok (.int .i64 n.c) w := fun w => by simp [Instr.index, run_underlying Try.underlying96, asIntOf, part, go_sem]
  have d0 : decide (n.a < 0) = false := decide_eq_false (by omega)
  have e0 : decide (n.a ≥ (at_ : Int)) = false := decide_eq_false (by omega)
  have d1 : decide (n.b < 0) = false := decide_eq_false (by omega)
  have e1 : decide (n.b ≥ (at_ : Int)) = false := decide_eq_false (by omega)
  have d2 : decide (n.c < 0) = true := decide_eq_true p2
  go_enter Try.func60, Try.ntmps60
  go_wp2_with fail
  refine wp_loop_rounds 3 ?_
  rw [rounds_succ]
  go_wp2_with fail
  rw [rounds_succ]
  go_wp2_with fail
  rw [rounds_succ]
  go_wp2_with fail
  go_ret
  exact ⟨rfl, HB.out _ _⟩

set_option maxRecDepth 100000 in
set_option maxHeartbeats 1000000 in
theorem links_3_2_high (n : Nd) (at_ : Nat) (lo hi : Int) (fv : Value) (hfv : fv.oneCell' = true) (w : World) (p0 : 0 ≤ n.a) (q0 : n.a < at_) (p1 : 0 ≤ n.b) (q1 : n.b < at_) (p2 : 0 ≤ n.c) (q2 : at_ ≤ n.c) : Calls Try.prog 60 #[.agg #[.int .i64 3, .int .i64 lo, .int .i64 hi, fv], .agg #[.int .i64 n.a, .int .i64 n.b, .int .i64 n.c], .int .i64 at_] w fun e w' => e = .returned (.bool false) ∧ Below w.heap.size w w' := by
  have HB : Hid (∀ o o', Below w.heap.size w ((w.alloc o).alloc o')) := fun o o' => ((Below.refl _ _).alloc (Nat.le_refl _) o).alloc (by simp [go_sem] <;> omega) o'
  have x0 : ∀ w, (Instr.index 96 (.agg #[.int .i64 n.a, .int .i64 n.b, .int .i64 n.c]) (.int .i64 0)).run Try.prog w = .ok (.int .i64 n.a) w := fun w => by simp [Instr.index, run_underlying Try.underlying96, asIntOf, part, go_sem]
  have x1 : ∀ w, (Instr.index 96 (.agg #[.int .i64 n.a, .int .i64 n.b, .int .i64 n.c]) (.int .i64 1)).run Try.prog w = .ok (.int .i64 n.b) w := fun w => by simp [Instr.index, run_underlying Try.underlying96, asIntOf, part, go_sem]
  have x2 : ∀ w, (Instr.index 96 (.agg #[.int .i64 n.a, .int .i64 n.b, .int .i64 n.c]) (.int .i64 2)).run Try.prog w = .ok (.int .i64 n.c) w := fun w => by simp [Instr.index, run_underlying Try.underlying96, asIntOf, part, go_sem]
  have d0 : decide (n.a < 0) = false := decide_eq_false (by omega)
  have e0 : decide (n.a ≥ (at_ : Int)) = false := decide_eq_false (by omega)
  have d1 : decide (n.b < 0) = false := decide_eq_false (by omega)
  have e1 : decide (n.b ≥ (at_ : Int)) = false := decide_eq_false (by omega)
  have d2 : decide (n.c < 0) = false := decide_eq_false (by omega)
  have e2 : decide (n.c ≥ (at_ : Int)) = true := decide_eq_true q2
  go_enter Try.func60, Try.ntmps60
  go_wp2_with fail
  refine wp_loop_rounds 3 ?_
  rw [rounds_succ]
  go_wp2_with fail
  rw [rounds_succ]
  go_wp2_with fail
  rw [rounds_succ]
  go_wp2_with fail
  go_ret
  exact ⟨rfl, HB.out _ _⟩

set_option maxRecDepth 100000 in
set_option maxHeartbeats 1000000 in
theorem links_3_3_ok (n : Nd) (at_ : Nat) (lo hi : Int) (fv : Value) (hfv : fv.oneCell' = true) (w : World) (p0 : 0 ≤ n.a) (q0 : n.a < at_) (p1 : 0 ≤ n.b) (q1 : n.b < at_) (p2 : 0 ≤ n.c) (q2 : n.c < at_) : Calls Try.prog 60 #[.agg #[.int .i64 3, .int .i64 lo, .int .i64 hi, fv], .agg #[.int .i64 n.a, .int .i64 n.b, .int .i64 n.c], .int .i64 at_] w fun e w' => e = .returned (.bool true) ∧ Below w.heap.size w w' := by
  have HB : Hid (∀ o o', Below w.heap.size w ((w.alloc o).alloc o')) := fun o o' => ((Below.refl _ _).alloc (Nat.le_refl _) o).alloc (by simp [go_sem] <;> omega) o'
  have x0 : ∀ w, (Instr.index 96 (.agg #[.int .i64 n.a, .int .i64 n.b, .int .i64 n.c]) (.int .i64 0)).run Try.prog w = .ok (.int .i64 n.a) w := fun w => by simp [Instr.index, run_underlying Try.underlying96, asIntOf, part, go_sem]
  have x1 : ∀ w, (Instr.index 96 (.agg #[.int .i64 n.a, .int .i64 n.b, .int .i64 n.c]) (.int .i64 1)).run Try.prog w = .ok (.int .i64 n.b) w := fun w => by simp [Instr.index, run_underlying Try.underlying96, asIntOf, part, go_sem]
  have x2 : ∀ w, (Instr.index 96 (.agg #[.int .i64 n.a, .int .i64 n.b, .int .i64 n.c]) (.int .i64 2)).run Try.prog w = .ok (.int .i64 n.c) w := fun w => by simp [Instr.index, run_underlying Try.underlying96, asIntOf, part, go_sem]
  have d0 : decide (n.a < 0) = false := decide_eq_false (by omega)
  have e0 : decide (n.a ≥ (at_ : Int)) = false := decide_eq_false (by omega)
  have d1 : decide (n.b < 0) = false := decide_eq_false (by omega)
  have e1 : decide (n.b ≥ (at_ : Int)) = false := decide_eq_false (by omega)
  have d2 : decide (n.c < 0) = false := decide_eq_false (by omega)
  have e2 : decide (n.c ≥ (at_ : Int)) = false := decide_eq_false (by omega)
  go_enter Try.func60, Try.ntmps60
  go_wp2_with fail
  refine wp_loop_rounds 4 ?_
  rw [rounds_succ]
  go_wp2_with fail
  rw [rounds_succ]
  go_wp2_with fail
  rw [rounds_succ]
  go_wp2_with fail
  rw [rounds_succ]
  go_wp2_with fail
  go_ret
  exact ⟨rfl, HB.out _ _⟩

end Go.Proofs.Ytkjmnkbiflkpdaa
