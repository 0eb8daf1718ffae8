/-
  Small questions of a node of a core, both sides.
-/
import Derived.Test.YtbaanpgbfncdnaaGreatQ00
import Derived.Test.YtbaanpgbfncdnaaGreatQ16
import Derived.Laws.EntriesVeiled
namespace Go.Proofs.YtbaanpgbfncdnaaGreat
open Go.RowKit
set_option linter.unusedVariables false
set_option linter.unusedSimpArgs false

def coreV (op : Int) : Value := .agg #[.int .i64 (Co.kids op), .int .i64 (Co.low op), .int .i64 (Co.high op), .nilFunc]

set_option maxRecDepth 100000 in
set_option maxHeartbeats 1000000 in
theorem cshape_1 (w : World) : Calls Tryz.prog 95 #[.int .i64 1] w fun e w' => e = .returned (.agg #[.int .i64 0, .int .i64 0, .int .i64 0, .nilFunc]) ∧ Below w.heap.size w w' := by
  have HB : Hid (∀ o, Below w.heap.size w (w.alloc o)) := fun o => (Below.refl _ _).alloc (Nat.le_refl _) o
  go_enter Tryz.func95, Tryz.ntmps95
  go_wp2_with fail
  refine bodyPost_ret (v := .agg #[.int .i64 0, .int .i64 0, .int .i64 0, .nilFunc]) (by simp [results, Tryz.results95, go_sem]; try rfl) rfl ⟨rfl, ?_⟩
  repeat (first | exact HB.out _ | refine Below.setCell ?_ (Nat.le_refl _) _)

set_option maxRecDepth 100000 in
set_option maxHeartbeats 1000000 in
theorem cshape_2 (w : World) : Calls Tryz.prog 95 #[.int .i64 2] w fun e w' => e = .returned (.agg #[.int .i64 0, .int .i64 0, .int .i64 0, .nilFunc]) ∧ Below w.heap.size w w' := by
  have HB : Hid (∀ o, Below w.heap.size w (w.alloc o)) := fun o => (Below.refl _ _).alloc (Nat.le_refl _) o
  go_enter Tryz.func95, Tryz.ntmps95
  go_wp2_with fail
  refine bodyPost_ret (v := .agg #[.int .i64 0, .int .i64 0, .int .i64 0, .nilFunc]) (by simp [results, Tryz.results95, go_sem]; try rfl) rfl ⟨rfl, ?_⟩
  repeat (first | exact HB.out _ | refine Below.setCell ?_ (Nat.le_refl _) _)

set_option maxRecDepth 100000 in
set_option maxHeartbeats 1000000 in
theorem cshape_3 (w : World) : Calls Tryz.prog 95 #[.int .i64 3] w fun e w' => e = .returned (.agg #[.int .i64 2, .int .i64 0, .int .i64 0, .nilFunc]) ∧ Below w.heap.size w w' := by
  have HB : Hid (∀ o, Below w.heap.size w (w.alloc o)) := fun o => (Below.refl _ _).alloc (Nat.le_refl _) o
  go_enter Tryz.func95, Tryz.ntmps95
  go_wp2_with fail
  refine bodyPost_ret (v := .agg #[.int .i64 2, .int .i64 0, .int .i64 0, .nilFunc]) (by simp [results, Tryz.results95, go_sem]; try rfl) rfl ⟨rfl, ?_⟩
  repeat (first | exact HB.out _ | refine Below.setCell ?_ (Nat.le_refl _) _)

set_option maxRecDepth 100000 in
set_option maxHeartbeats 1000000 in
theorem cshape_4 (w : World) : Calls Tryz.prog 95 #[.int .i64 4] w fun e w' => e = .returned (.agg #[.int .i64 2, .int .i64 0, .int .i64 0, .nilFunc]) ∧ Below w.heap.size w w' := by
  have HB : Hid (∀ o, Below w.heap.size w (w.alloc o)) := fun o => (Below.refl _ _).alloc (Nat.le_refl _) o
  go_enter Tryz.func95, Tryz.ntmps95
  go_wp2_with fail
  refine bodyPost_ret (v := .agg #[.int .i64 2, .int .i64 0, .int .i64 0, .nilFunc]) (by simp [results, Tryz.results95, go_sem]; try rfl) rfl ⟨rfl, ?_⟩
  repeat (first | exact HB.out _ | refine Below.setCell ?_ (Nat.le_refl _) _)

set_option maxRecDepth 100000 in
set_option maxHeartbeats 1000000 in
theorem cshape_5 (w : World) : Calls Tryz.prog 95 #[.int .i64 5] w fun e w' => e = .returned (.agg #[.int .i64 2, .int .i64 0, .int .i64 0, .nilFunc]) ∧ Below w.heap.size w w' := by
  have HB : Hid (∀ o, Below w.heap.size w (w.alloc o)) := fun o => (Below.refl _ _).alloc (Nat.le_refl _) o
  go_enter Tryz.func95, Tryz.ntmps95
  go_wp2_with fail
  refine bodyPost_ret (v := .agg #[.int .i64 2, .int .i64 0, .int .i64 0, .nilFunc]) (by simp [results, Tryz.results95, go_sem]; try rfl) rfl ⟨rfl, ?_⟩
  repeat (first | exact HB.out _ | refine Below.setCell ?_ (Nat.le_refl _) _)

set_option maxRecDepth 100000 in
set_option maxHeartbeats 1000000 in
theorem cshape_6 (w : World) : Calls Tryz.prog 95 #[.int .i64 6] w fun e w' => e = .returned (.agg #[.int .i64 2, .int .i64 1, .int .i64 11, .nilFunc]) ∧ Below w.heap.size w w' := by
  have HB : Hid (∀ o, Below w.heap.size w (w.alloc o)) := fun o => (Below.refl _ _).alloc (Nat.le_refl _) o
  go_enter Tryz.func95, Tryz.ntmps95
  go_wp2_with fail
  refine bodyPost_ret (v := .agg #[.int .i64 2, .int .i64 1, .int .i64 11, .nilFunc]) (by simp [results, Tryz.results95, go_sem]; try rfl) rfl ⟨rfl, ?_⟩
  repeat (first | exact HB.out _ | refine Below.setCell ?_ (Nat.le_refl _) _)

set_option maxRecDepth 100000 in
set_option maxHeartbeats 1000000 in
theorem cshape_7 (w : World) : Calls Tryz.prog 95 #[.int .i64 7] w fun e w' => e = .returned (.agg #[.int .i64 2, .int .i64 0, .int .i64 0, .nilFunc]) ∧ Below w.heap.size w w' := by
  have HB : Hid (∀ o, Below w.heap.size w (w.alloc o)) := fun o => (Below.refl _ _).alloc (Nat.le_refl _) o
  go_enter Tryz.func95, Tryz.ntmps95
  go_wp2_with fail
  refine bodyPost_ret (v := .agg #[.int .i64 2, .int .i64 0, .int .i64 0, .nilFunc]) (by simp [results, Tryz.results95, go_sem]; try rfl) rfl ⟨rfl, ?_⟩
  repeat (first | exact HB.out _ | refine Below.setCell ?_ (Nat.le_refl _) _)

set_option maxRecDepth 100000 in
set_option maxHeartbeats 1000000 in
theorem cshape_8 (w : World) : Calls Tryz.prog 95 #[.int .i64 8] w fun e w' => e = .returned (.agg #[.int .i64 1, .int .i64 0, .int .i64 0, .nilFunc]) ∧ Below w.heap.size w w' := by
  have HB : Hid (∀ o, Below w.heap.size w (w.alloc o)) := fun o => (Below.refl _ _).alloc (Nat.le_refl _) o
  go_enter Tryz.func95, Tryz.ntmps95
  go_wp2_with fail
  refine bodyPost_ret (v := .agg #[.int .i64 1, .int .i64 0, .int .i64 0, .nilFunc]) (by simp [results, Tryz.results95, go_sem]; try rfl) rfl ⟨rfl, ?_⟩
  repeat (first | exact HB.out _ | refine Below.setCell ?_ (Nat.le_refl _) _)

set_option maxRecDepth 100000 in
set_option maxHeartbeats 1000000 in
theorem cshape_9 (w : World) : Calls Tryz.prog 95 #[.int .i64 9] w fun e w' => e = .returned (.agg #[.int .i64 1, .int .i64 0, .int .i64 0, .nilFunc]) ∧ Below w.heap.size w w' := by
  have HB : Hid (∀ o, Below w.heap.size w (w.alloc o)) := fun o => (Below.refl _ _).alloc (Nat.le_refl _) o
  go_enter Tryz.func95, Tryz.ntmps95
  go_wp2_with fail
  refine bodyPost_ret (v := .agg #[.int .i64 1, .int .i64 0, .int .i64 0, .nilFunc]) (by simp [results, Tryz.results95, go_sem]; try rfl) rfl ⟨rfl, ?_⟩
  repeat (first | exact HB.out _ | refine Below.setCell ?_ (Nat.le_refl _) _)

set_option maxRecDepth 100000 in
set_option maxHeartbeats 1000000 in
theorem cshape_10 (w : World) : Calls Tryz.prog 95 #[.int .i64 10] w fun e w' => e = .returned (.agg #[.int .i64 1, .int .i64 0, .int .i64 0, .nilFunc]) ∧ Below w.heap.size w w' := by
  have HB : Hid (∀ o, Below w.heap.size w (w.alloc o)) := fun o => (Below.refl _ _).alloc (Nat.le_refl _) o
  go_enter Tryz.func95, Tryz.ntmps95
  go_wp2_with fail
  refine bodyPost_ret (v := .agg #[.int .i64 1, .int .i64 0, .int .i64 0, .nilFunc]) (by simp [results, Tryz.results95, go_sem]; try rfl) rfl ⟨rfl, ?_⟩
  repeat (first | exact HB.out _ | refine Below.setCell ?_ (Nat.le_refl _) _)

set_option maxRecDepth 100000 in
set_option maxHeartbeats 1000000 in
theorem cshape_11 (w : World) : Calls Tryz.prog 95 #[.int .i64 11] w fun e w' => e = .returned (.agg #[.int .i64 2, .int .i64 0, .int .i64 0, .nilFunc]) ∧ Below w.heap.size w w' := by
  have HB : Hid (∀ o, Below w.heap.size w (w.alloc o)) := fun o => (Below.refl _ _).alloc (Nat.le_refl _) o
  go_enter Tryz.func95, Tryz.ntmps95
  go_wp2_with fail
  refine bodyPost_ret (v := .agg #[.int .i64 2, .int .i64 0, .int .i64 0, .nilFunc]) (by simp [results, Tryz.results95, go_sem]; try rfl) rfl ⟨rfl, ?_⟩
  repeat (first | exact HB.out _ | refine Below.setCell ?_ (Nat.le_refl _) _)

set_option maxRecDepth 100000 in
set_option maxHeartbeats 1000000 in
theorem cshape_12 (w : World) : Calls Tryz.prog 95 #[.int .i64 12] w fun e w' => e = .returned (.agg #[.int .i64 3, .int .i64 0, .int .i64 0, .nilFunc]) ∧ Below w.heap.size w w' := by
  have HB : Hid (∀ o, Below w.heap.size w (w.alloc o)) := fun o => (Below.refl _ _).alloc (Nat.le_refl _) o
  go_enter Tryz.func95, Tryz.ntmps95
  go_wp2_with fail
  refine bodyPost_ret (v := .agg #[.int .i64 3, .int .i64 0, .int .i64 0, .nilFunc]) (by simp [results, Tryz.results95, go_sem]; try rfl) rfl ⟨rfl, ?_⟩
  repeat (first | exact HB.out _ | refine Below.setCell ?_ (Nat.le_refl _) _)

set_option maxRecDepth 100000 in
set_option maxHeartbeats 1000000 in
theorem cshape_13 (w : World) : Calls Tryz.prog 95 #[.int .i64 13] w fun e w' => e = .returned (.agg #[.int .i64 3, .int .i64 0, .int .i64 59, .nilFunc]) ∧ Below w.heap.size w w' := by
  have HB : Hid (∀ o, Below w.heap.size w (w.alloc o)) := fun o => (Below.refl _ _).alloc (Nat.le_refl _) o
  go_enter Tryz.func95, Tryz.ntmps95
  go_wp2_with fail
  refine bodyPost_ret (v := .agg #[.int .i64 3, .int .i64 0, .int .i64 59, .nilFunc]) (by simp [results, Tryz.results95, go_sem]; try rfl) rfl ⟨rfl, ?_⟩
  repeat (first | exact HB.out _ | refine Below.setCell ?_ (Nat.le_refl _) _)

set_option maxRecDepth 100000 in
set_option maxHeartbeats 1000000 in
theorem cshape_14 (w : World) : Calls Tryz.prog 95 #[.int .i64 14] w fun e w' => e = .returned (.agg #[.int .i64 2, .int .i64 0, .int .i64 59, .nilFunc]) ∧ Below w.heap.size w w' := by
  have HB : Hid (∀ o, Below w.heap.size w (w.alloc o)) := fun o => (Below.refl _ _).alloc (Nat.le_refl _) o
  go_enter Tryz.func95, Tryz.ntmps95
  go_wp2_with fail
  refine bodyPost_ret (v := .agg #[.int .i64 2, .int .i64 0, .int .i64 59, .nilFunc]) (by simp [results, Tryz.results95, go_sem]; try rfl) rfl ⟨rfl, ?_⟩
  repeat (first | exact HB.out _ | refine Below.setCell ?_ (Nat.le_refl _) _)

set_option maxRecDepth 100000 in
set_option maxHeartbeats 1000000 in
theorem cshape_15 (w : World) : Calls Tryz.prog 95 #[.int .i64 15] w fun e w' => e = .returned (.agg #[.int .i64 0, .int .i64 0, .int .i64 59, .nilFunc]) ∧ Below w.heap.size w w' := by
  have HB : Hid (∀ o, Below w.heap.size w (w.alloc o)) := fun o => (Below.refl _ _).alloc (Nat.le_refl _) o
  go_enter Tryz.func95, Tryz.ntmps95
  go_wp2_with fail
  refine bodyPost_ret (v := .agg #[.int .i64 0, .int .i64 0, .int .i64 59, .nilFunc]) (by simp [results, Tryz.results95, go_sem]; try rfl) rfl ⟨rfl, ?_⟩
  repeat (first | exact HB.out _ | refine Below.setCell ?_ (Nat.le_refl _) _)

set_option maxRecDepth 100000 in
set_option maxHeartbeats 1000000 in
theorem cshape_16 (w : World) : Calls Tryz.prog 95 #[.int .i64 16] w fun e w' => e = .returned (.agg #[.int .i64 0, .int .i64 1, .int .i64 8, .nilFunc]) ∧ Below w.heap.size w w' := by
  have HB : Hid (∀ o, Below w.heap.size w (w.alloc o)) := fun o => (Below.refl _ _).alloc (Nat.le_refl _) o
  go_enter Tryz.func95, Tryz.ntmps95
  go_wp2_with fail
  refine bodyPost_ret (v := .agg #[.int .i64 0, .int .i64 1, .int .i64 8, .nilFunc]) (by simp [results, Tryz.results95, go_sem]; try rfl) rfl ⟨rfl, ?_⟩
  repeat (first | exact HB.out _ | refine Below.setCell ?_ (Nat.le_refl _) _)

set_option maxRecDepth 100000 in
set_option maxHeartbeats 1000000 in
theorem cshape_17 (w : World) : Calls Tryz.prog 95 #[.int .i64 17] w fun e w' => e = .returned (.agg #[.int .i64 0, .int .i64 0, .int .i64 0, .nilFunc]) ∧ Below w.heap.size w w' := by
  have HB : Hid (∀ o, Below w.heap.size w (w.alloc o)) := fun o => (Below.refl _ _).alloc (Nat.le_refl _) o
  go_enter Tryz.func95, Tryz.ntmps95
  go_wp2_with fail
  refine bodyPost_ret (v := .agg #[.int .i64 0, .int .i64 0, .int .i64 0, .nilFunc]) (by simp [results, Tryz.results95, go_sem]; try rfl) rfl ⟨rfl, ?_⟩
  repeat (first | exact HB.out _ | refine Below.setCell ?_ (Nat.le_refl _) _)

theorem coreShape_any (op : Int) (w : World) (h1 : 1 ≤ op) (h2 : op ≤ 17) : Calls Tryz.prog 95 #[.int .i64 op] w fun e w' => e = .returned (coreV op) ∧ Below w.heap.size w w' := by
  have h : op = 1 ∨ op = 2 ∨ op = 3 ∨ op = 4 ∨ op = 5 ∨ op = 6 ∨ op = 7 ∨ op = 8 ∨ op = 9 ∨ op = 10 ∨ op = 11 ∨ op = 12 ∨ op = 13 ∨ op = 14 ∨ op = 15 ∨ op = 16 ∨ op = 17 := by omega
  rcases h with rfl | rfl | rfl | rfl | rfl | rfl | rfl | rfl | rfl | rfl | rfl | rfl | rfl | rfl | rfl | rfl | rfl
  · exact cshape_1 w
  · exact cshape_2 w
  · exact cshape_3 w
  · exact cshape_4 w
  · exact cshape_5 w
  · exact cshape_6 w
  · exact cshape_7 w
  · exact cshape_8 w
  · exact cshape_9 w
  · exact cshape_10 w
  · exact cshape_11 w
  · exact cshape_12 w
  · exact cshape_13 w
  · exact cshape_14 w
  · exact cshape_15 w
  · exact cshape_16 w
  · exact cshape_17 w

set_option maxRecDepth 100000 in
set_option maxHeartbeats 1000000 in
theorem l6Kids_1 (w : World) : Calls Tryz.prog 54 #[.int .i64 1] w fun e w' => e = .returned (.int .i64 0) ∧ w' = w := by
  go_enter Tryz.func54, Tryz.ntmps54
  go_wp2_with fail
  go_ret
  exact ⟨rfl, rfl⟩

set_option maxRecDepth 100000 in
set_option maxHeartbeats 1000000 in
theorem l6Kids_2 (w : World) : Calls Tryz.prog 54 #[.int .i64 2] w fun e w' => e = .returned (.int .i64 0) ∧ w' = w := by
  go_enter Tryz.func54, Tryz.ntmps54
  go_wp2_with fail
  go_ret
  exact ⟨rfl, rfl⟩

set_option maxRecDepth 100000 in
set_option maxHeartbeats 1000000 in
theorem l6Kids_3 (w : World) : Calls Tryz.prog 54 #[.int .i64 3] w fun e w' => e = .returned (.int .i64 2) ∧ w' = w := by
  go_enter Tryz.func54, Tryz.ntmps54
  go_wp2_with fail
  go_ret
  exact ⟨rfl, rfl⟩

set_option maxRecDepth 100000 in
set_option maxHeartbeats 1000000 in
theorem l6Kids_4 (w : World) : Calls Tryz.prog 54 #[.int .i64 4] w fun e w' => e = .returned (.int .i64 2) ∧ w' = w := by
  go_enter Tryz.func54, Tryz.ntmps54
  go_wp2_with fail
  go_ret
  exact ⟨rfl, rfl⟩

set_option maxRecDepth 100000 in
set_option maxHeartbeats 1000000 in
theorem l6Kids_5 (w : World) : Calls Tryz.prog 54 #[.int .i64 5] w fun e w' => e = .returned (.int .i64 2) ∧ w' = w := by
  go_enter Tryz.func54, Tryz.ntmps54
  go_wp2_with fail
  go_ret
  exact ⟨rfl, rfl⟩

set_option maxRecDepth 100000 in
set_option maxHeartbeats 1000000 in
theorem l6Kids_6 (w : World) : Calls Tryz.prog 54 #[.int .i64 6] w fun e w' => e = .returned (.int .i64 2) ∧ w' = w := by
  go_enter Tryz.func54, Tryz.ntmps54
  go_wp2_with fail
  go_ret
  exact ⟨rfl, rfl⟩

set_option maxRecDepth 100000 in
set_option maxHeartbeats 1000000 in
theorem l6Kids_7 (w : World) : Calls Tryz.prog 54 #[.int .i64 7] w fun e w' => e = .returned (.int .i64 2) ∧ w' = w := by
  go_enter Tryz.func54, Tryz.ntmps54
  go_wp2_with fail
  go_ret
  exact ⟨rfl, rfl⟩

set_option maxRecDepth 100000 in
set_option maxHeartbeats 1000000 in
theorem l6Kids_8 (w : World) : Calls Tryz.prog 54 #[.int .i64 8] w fun e w' => e = .returned (.int .i64 1) ∧ w' = w := by
  go_enter Tryz.func54, Tryz.ntmps54
  go_wp2_with fail
  go_ret
  exact ⟨rfl, rfl⟩

set_option maxRecDepth 100000 in
set_option maxHeartbeats 1000000 in
theorem l6Kids_9 (w : World) : Calls Tryz.prog 54 #[.int .i64 9] w fun e w' => e = .returned (.int .i64 1) ∧ w' = w := by
  go_enter Tryz.func54, Tryz.ntmps54
  go_wp2_with fail
  go_ret
  exact ⟨rfl, rfl⟩

set_option maxRecDepth 100000 in
set_option maxHeartbeats 1000000 in
theorem l6Kids_10 (w : World) : Calls Tryz.prog 54 #[.int .i64 10] w fun e w' => e = .returned (.int .i64 1) ∧ w' = w := by
  go_enter Tryz.func54, Tryz.ntmps54
  go_wp2_with fail
  go_ret
  exact ⟨rfl, rfl⟩

set_option maxRecDepth 100000 in
set_option maxHeartbeats 1000000 in
theorem l6Kids_11 (w : World) : Calls Tryz.prog 54 #[.int .i64 11] w fun e w' => e = .returned (.int .i64 2) ∧ w' = w := by
  go_enter Tryz.func54, Tryz.ntmps54
  go_wp2_with fail
  go_ret
  exact ⟨rfl, rfl⟩

set_option maxRecDepth 100000 in
set_option maxHeartbeats 1000000 in
theorem l6Kids_12 (w : World) : Calls Tryz.prog 54 #[.int .i64 12] w fun e w' => e = .returned (.int .i64 3) ∧ w' = w := by
  go_enter Tryz.func54, Tryz.ntmps54
  go_wp2_with fail
  go_ret
  exact ⟨rfl, rfl⟩

set_option maxRecDepth 100000 in
set_option maxHeartbeats 1000000 in
theorem l6Kids_13 (w : World) : Calls Tryz.prog 54 #[.int .i64 13] w fun e w' => e = .returned (.int .i64 3) ∧ w' = w := by
  go_enter Tryz.func54, Tryz.ntmps54
  go_wp2_with fail
  go_ret
  exact ⟨rfl, rfl⟩

set_option maxRecDepth 100000 in
set_option maxHeartbeats 1000000 in
theorem l6Kids_14 (w : World) : Calls Tryz.prog 54 #[.int .i64 14] w fun e w' => e = .returned (.int .i64 2) ∧ w' = w := by
  go_enter Tryz.func54, Tryz.ntmps54
  go_wp2_with fail
  go_ret
  exact ⟨rfl, rfl⟩

set_option maxRecDepth 100000 in
set_option maxHeartbeats 1000000 in
theorem l6Kids_15 (w : World) : Calls Tryz.prog 54 #[.int .i64 15] w fun e w' => e = .returned (.int .i64 0) ∧ w' = w := by
  go_enter Tryz.func54, Tryz.ntmps54
  go_wp2_with fail
  go_ret
  exact ⟨rfl, rfl⟩

set_option maxRecDepth 100000 in
set_option maxHeartbeats 1000000 in
theorem l6Kids_16 (w : World) : Calls Tryz.prog 54 #[.int .i64 16] w fun e w' => e = .returned (.int .i64 0) ∧ w' = w := by
  go_enter Tryz.func54, Tryz.ntmps54
  go_wp2_with fail
  go_ret
  exact ⟨rfl, rfl⟩

set_option maxRecDepth 100000 in
set_option maxHeartbeats 1000000 in
theorem l6Kids_17 (w : World) : Calls Tryz.prog 54 #[.int .i64 17] w fun e w' => e = .returned (.int .i64 0) ∧ w' = w := by
  go_enter Tryz.func54, Tryz.ntmps54
  go_wp2_with fail
  go_ret
  exact ⟨rfl, rfl⟩

theorem l6Kids_any (op : Int) (w : World) (h1 : 1 ≤ op) (h2 : op ≤ 17) : Calls Tryz.prog 54 #[.int .i64 op] w fun e w' => e = .returned (.int .i64 (Co.kids op)) ∧ w' = w := by
  have h : op = 1 ∨ op = 2 ∨ op = 3 ∨ op = 4 ∨ op = 5 ∨ op = 6 ∨ op = 7 ∨ op = 8 ∨ op = 9 ∨ op = 10 ∨ op = 11 ∨ op = 12 ∨ op = 13 ∨ op = 14 ∨ op = 15 ∨ op = 16 ∨ op = 17 := by omega
  rcases h with rfl | rfl | rfl | rfl | rfl | rfl | rfl | rfl | rfl | rfl | rfl | rfl | rfl | rfl | rfl | rfl | rfl
  · exact l6Kids_1 w
  · exact l6Kids_2 w
  · exact l6Kids_3 w
  · exact l6Kids_4 w
  · exact l6Kids_5 w
  · exact l6Kids_6 w
  · exact l6Kids_7 w
  · exact l6Kids_8 w
  · exact l6Kids_9 w
  · exact l6Kids_10 w
  · exact l6Kids_11 w
  · exact l6Kids_12 w
  · exact l6Kids_13 w
  · exact l6Kids_14 w
  · exact l6Kids_15 w
  · exact l6Kids_16 w
  · exact l6Kids_17 w

set_option maxRecDepth 100000 in
set_option maxHeartbeats 1000000 in
theorem l6Nums_1 (w : World) : Calls Tryz.prog 72 #[.int .i64 1] w fun e w' => e = .returned (.tuple #[.int .i64 0, .int .i64 0]) ∧ w' = w := by
  go_enter Tryz.func72, Tryz.ntmps72
  go_wp2_with fail
  refine bodyPost_ret (v := .tuple #[.int .i64 0, .int .i64 0]) (by simp [results, Tryz.results72, go_sem]; try rfl) rfl ⟨rfl, rfl⟩

set_option maxRecDepth 100000 in
set_option maxHeartbeats 1000000 in
theorem l6Nums_2 (w : World) : Calls Tryz.prog 72 #[.int .i64 2] w fun e w' => e = .returned (.tuple #[.int .i64 0, .int .i64 0]) ∧ w' = w := by
  go_enter Tryz.func72, Tryz.ntmps72
  go_wp2_with fail
  refine bodyPost_ret (v := .tuple #[.int .i64 0, .int .i64 0]) (by simp [results, Tryz.results72, go_sem]; try rfl) rfl ⟨rfl, rfl⟩

set_option maxRecDepth 100000 in
set_option maxHeartbeats 1000000 in
theorem l6Nums_3 (w : World) : Calls Tryz.prog 72 #[.int .i64 3] w fun e w' => e = .returned (.tuple #[.int .i64 0, .int .i64 0]) ∧ w' = w := by
  go_enter Tryz.func72, Tryz.ntmps72
  go_wp2_with fail
  refine bodyPost_ret (v := .tuple #[.int .i64 0, .int .i64 0]) (by simp [results, Tryz.results72, go_sem]; try rfl) rfl ⟨rfl, rfl⟩

set_option maxRecDepth 100000 in
set_option maxHeartbeats 1000000 in
theorem l6Nums_4 (w : World) : Calls Tryz.prog 72 #[.int .i64 4] w fun e w' => e = .returned (.tuple #[.int .i64 0, .int .i64 0]) ∧ w' = w := by
  go_enter Tryz.func72, Tryz.ntmps72
  go_wp2_with fail
  refine bodyPost_ret (v := .tuple #[.int .i64 0, .int .i64 0]) (by simp [results, Tryz.results72, go_sem]; try rfl) rfl ⟨rfl, rfl⟩

set_option maxRecDepth 100000 in
set_option maxHeartbeats 1000000 in
theorem l6Nums_5 (w : World) : Calls Tryz.prog 72 #[.int .i64 5] w fun e w' => e = .returned (.tuple #[.int .i64 0, .int .i64 0]) ∧ w' = w := by
  go_enter Tryz.func72, Tryz.ntmps72
  go_wp2_with fail
  refine bodyPost_ret (v := .tuple #[.int .i64 0, .int .i64 0]) (by simp [results, Tryz.results72, go_sem]; try rfl) rfl ⟨rfl, rfl⟩

set_option maxRecDepth 100000 in
set_option maxHeartbeats 1000000 in
theorem l6Nums_6 (w : World) : Calls Tryz.prog 72 #[.int .i64 6] w fun e w' => e = .returned (.tuple #[.int .i64 1, .int .i64 11]) ∧ w' = w := by
  go_enter Tryz.func72, Tryz.ntmps72
  go_wp2_with fail
  refine bodyPost_ret (v := .tuple #[.int .i64 1, .int .i64 11]) (by simp [results, Tryz.results72, go_sem]; try rfl) rfl ⟨rfl, rfl⟩

set_option maxRecDepth 100000 in
set_option maxHeartbeats 1000000 in
theorem l6Nums_7 (w : World) : Calls Tryz.prog 72 #[.int .i64 7] w fun e w' => e = .returned (.tuple #[.int .i64 0, .int .i64 0]) ∧ w' = w := by
  go_enter Tryz.func72, Tryz.ntmps72
  go_wp2_with fail
  refine bodyPost_ret (v := .tuple #[.int .i64 0, .int .i64 0]) (by simp [results, Tryz.results72, go_sem]; try rfl) rfl ⟨rfl, rfl⟩

set_option maxRecDepth 100000 in
set_option maxHeartbeats 1000000 in
theorem l6Nums_8 (w : World) : Calls Tryz.prog 72 #[.int .i64 8] w fun e w' => e = .returned (.tuple #[.int .i64 0, .int .i64 0]) ∧ w' = w := by
  go_enter Tryz.func72, Tryz.ntmps72
  go_wp2_with fail
  refine bodyPost_ret (v := .tuple #[.int .i64 0, .int .i64 0]) (by simp [results, Tryz.results72, go_sem]; try rfl) rfl ⟨rfl, rfl⟩

set_option maxRecDepth 100000 in
set_option maxHeartbeats 1000000 in
theorem l6Nums_9 (w : World) : Calls Tryz.prog 72 #[.int .i64 9] w fun e w' => e = .returned (.tuple #[.int .i64 0, .int .i64 0]) ∧ w' = w := by
  go_enter Tryz.func72, Tryz.ntmps72
  go_wp2_with fail
  refine bodyPost_ret (v := .tuple #[.int .i64 0, .int .i64 0]) (by simp [results, Tryz.results72, go_sem]; try rfl) rfl ⟨rfl, rfl⟩

set_option maxRecDepth 100000 in
set_option maxHeartbeats 1000000 in
theorem l6Nums_10 (w : World) : Calls Tryz.prog 72 #[.int .i64 10] w fun e w' => e = .returned (.tuple #[.int .i64 0, .int .i64 0]) ∧ w' = w := by
  go_enter Tryz.func72, Tryz.ntmps72
  go_wp2_with fail
  refine bodyPost_ret (v := .tuple #[.int .i64 0, .int .i64 0]) (by simp [results, Tryz.results72, go_sem]; try rfl) rfl ⟨rfl, rfl⟩

set_option maxRecDepth 100000 in
set_option maxHeartbeats 1000000 in
theorem l6Nums_11 (w : World) : Calls Tryz.prog 72 #[.int .i64 11] w fun e w' => e = .returned (.tuple #[.int .i64 0, .int .i64 0]) ∧ w' = w := by
  go_enter Tryz.func72, Tryz.ntmps72
  go_wp2_with fail
  refine bodyPost_ret (v := .tuple #[.int .i64 0, .int .i64 0]) (by simp [results, Tryz.results72, go_sem]; try rfl) rfl ⟨rfl, rfl⟩

set_option maxRecDepth 100000 in
set_option maxHeartbeats 1000000 in
theorem l6Nums_12 (w : World) : Calls Tryz.prog 72 #[.int .i64 12] w fun e w' => e = .returned (.tuple #[.int .i64 0, .int .i64 0]) ∧ w' = w := by
  go_enter Tryz.func72, Tryz.ntmps72
  go_wp2_with fail
  refine bodyPost_ret (v := .tuple #[.int .i64 0, .int .i64 0]) (by simp [results, Tryz.results72, go_sem]; try rfl) rfl ⟨rfl, rfl⟩

set_option maxRecDepth 100000 in
set_option maxHeartbeats 1000000 in
theorem l6Nums_13 (w : World) : Calls Tryz.prog 72 #[.int .i64 13] w fun e w' => e = .returned (.tuple #[.int .i64 0, .int .i64 59]) ∧ w' = w := by
  go_enter Tryz.func72, Tryz.ntmps72
  go_wp2_with fail
  refine bodyPost_ret (v := .tuple #[.int .i64 0, .int .i64 59]) (by simp [results, Tryz.results72, go_sem]; try rfl) rfl ⟨rfl, rfl⟩

set_option maxRecDepth 100000 in
set_option maxHeartbeats 1000000 in
theorem l6Nums_14 (w : World) : Calls Tryz.prog 72 #[.int .i64 14] w fun e w' => e = .returned (.tuple #[.int .i64 0, .int .i64 59]) ∧ w' = w := by
  go_enter Tryz.func72, Tryz.ntmps72
  go_wp2_with fail
  refine bodyPost_ret (v := .tuple #[.int .i64 0, .int .i64 59]) (by simp [results, Tryz.results72, go_sem]; try rfl) rfl ⟨rfl, rfl⟩

set_option maxRecDepth 100000 in
set_option maxHeartbeats 1000000 in
theorem l6Nums_15 (w : World) : Calls Tryz.prog 72 #[.int .i64 15] w fun e w' => e = .returned (.tuple #[.int .i64 0, .int .i64 59]) ∧ w' = w := by
  go_enter Tryz.func72, Tryz.ntmps72
  go_wp2_with fail
  refine bodyPost_ret (v := .tuple #[.int .i64 0, .int .i64 59]) (by simp [results, Tryz.results72, go_sem]; try rfl) rfl ⟨rfl, rfl⟩

set_option maxRecDepth 100000 in
set_option maxHeartbeats 1000000 in
theorem l6Nums_16 (w : World) : Calls Tryz.prog 72 #[.int .i64 16] w fun e w' => e = .returned (.tuple #[.int .i64 1, .int .i64 8]) ∧ w' = w := by
  go_enter Tryz.func72, Tryz.ntmps72
  go_wp2_with fail
  refine bodyPost_ret (v := .tuple #[.int .i64 1, .int .i64 8]) (by simp [results, Tryz.results72, go_sem]; try rfl) rfl ⟨rfl, rfl⟩

set_option maxRecDepth 100000 in
set_option maxHeartbeats 1000000 in
theorem l6Nums_17 (w : World) : Calls Tryz.prog 72 #[.int .i64 17] w fun e w' => e = .returned (.tuple #[.int .i64 0, .int .i64 0]) ∧ w' = w := by
  go_enter Tryz.func72, Tryz.ntmps72
  go_wp2_with fail
  refine bodyPost_ret (v := .tuple #[.int .i64 0, .int .i64 0]) (by simp [results, Tryz.results72, go_sem]; try rfl) rfl ⟨rfl, rfl⟩

theorem l6Nums_any (op : Int) (w : World) (h1 : 1 ≤ op) (h2 : op ≤ 17) : Calls Tryz.prog 72 #[.int .i64 op] w fun e w' => e = .returned (.tuple #[.int .i64 (Co.low op), .int .i64 (Co.high op)]) ∧ w' = w := by
  have h : op = 1 ∨ op = 2 ∨ op = 3 ∨ op = 4 ∨ op = 5 ∨ op = 6 ∨ op = 7 ∨ op = 8 ∨ op = 9 ∨ op = 10 ∨ op = 11 ∨ op = 12 ∨ op = 13 ∨ op = 14 ∨ op = 15 ∨ op = 16 ∨ op = 17 := by omega
  rcases h with rfl | rfl | rfl | rfl | rfl | rfl | rfl | rfl | rfl | rfl | rfl | rfl | rfl | rfl | rfl | rfl | rfl
  · exact l6Nums_1 w
  · exact l6Nums_2 w
  · exact l6Nums_3 w
  · exact l6Nums_4 w
  · exact l6Nums_5 w
  · exact l6Nums_6 w
  · exact l6Nums_7 w
  · exact l6Nums_8 w
  · exact l6Nums_9 w
  · exact l6Nums_10 w
  · exact l6Nums_11 w
  · exact l6Nums_12 w
  · exact l6Nums_13 w
  · exact l6Nums_14 w
  · exact l6Nums_15 w
  · exact l6Nums_16 w
  · exact l6Nums_17 w

set_option maxHeartbeats 1000000 in
theorem l6HasVal_any (op : Int) (w : World) : Calls Tryz.prog 73 #[.int .i64 op] w fun e w' => e = .returned (.bool (Co.hasVal op)) ∧ w' = w := by
  by_cases h2 : op = 2
  · have fin := hide (show Co.hasVal op = true by unfold Co.hasVal; simp [h2])
    have g1 : (op == 2) = true := by simp [h2]
    clear h2
    go_enter Tryz.func73, Tryz.ntmps73
    go_wp2_with fail
    go_ret
    exact ⟨ret_bool (unhide fin).symm, rfl⟩
  · have g1 : (op == 2) = false := by simpa using h2
    cases h11 : (op == 11) with
    | true =>
      have fin := hide (show Co.hasVal op = true by unfold Co.hasVal; rw [g1, h11]; rfl)
      clear h2
      go_enter Tryz.func73, Tryz.ntmps73
      go_wp2_with fail
      go_ret
      exact ⟨ret_bool (unhide fin).symm, rfl⟩
    | false =>
      have fin := hide (show Co.hasVal op = false by unfold Co.hasVal; rw [g1, h11]; rfl)
      clear h2
      go_enter Tryz.func73, Tryz.ntmps73
      go_wp2_with fail
      go_ret
      exact ⟨ret_bool (unhide fin).symm, rfl⟩

set_option maxHeartbeats 1000000 in
theorem l6Kid_0 (op_ a_ b_ c_ num_ : Int) (v_ : Value) (hv : v_.oneCell' = true) (w : World) : Calls Tryz.prog 56 #[.agg #[.int .i64 op_, .int .i64 a_, .int .i64 b_, .int .i64 c_, .int .i64 num_, v_], .int .i64 0] w fun e w' => e = .returned (.int .i64 a_) ∧ w' = w.alloc (.cells #[.int .i64 op_, .int .i64 a_, .int .i64 b_, .int .i64 c_, .int .i64 num_, v_] 47) := by
  go_enter Tryz.func56, Tryz.ntmps56
  go_wp2_with fail
  go_ret
  exact ⟨rfl, rfl⟩

set_option maxHeartbeats 1000000 in
theorem l6Kid_1 (op_ a_ b_ c_ num_ : Int) (v_ : Value) (hv : v_.oneCell' = true) (w : World) : Calls Tryz.prog 56 #[.agg #[.int .i64 op_, .int .i64 a_, .int .i64 b_, .int .i64 c_, .int .i64 num_, v_], .int .i64 1] w fun e w' => e = .returned (.int .i64 b_) ∧ w' = w.alloc (.cells #[.int .i64 op_, .int .i64 a_, .int .i64 b_, .int .i64 c_, .int .i64 num_, v_] 47) := by
  go_enter Tryz.func56, Tryz.ntmps56
  go_wp2_with fail
  go_ret
  exact ⟨rfl, rfl⟩

set_option maxHeartbeats 1000000 in
theorem l6Kid_2 (op_ a_ b_ c_ num_ : Int) (v_ : Value) (hv : v_.oneCell' = true) (w : World) : Calls Tryz.prog 56 #[.agg #[.int .i64 op_, .int .i64 a_, .int .i64 b_, .int .i64 c_, .int .i64 num_, v_], .int .i64 2] w fun e w' => e = .returned (.int .i64 c_) ∧ w' = w.alloc (.cells #[.int .i64 op_, .int .i64 a_, .int .i64 b_, .int .i64 c_, .int .i64 num_, v_] 47) := by
  go_enter Tryz.func56, Tryz.ntmps56
  go_wp2_with fail
  go_ret
  exact ⟨rfl, rfl⟩

end Go.Proofs.YtbaanpgbfncdnaaGreat
