/-
  impl.shapeOf: what a node names, by its op; impl.isFreeName.
-/
import Derived.Test.YtokcefcjkjhnbaaTreM
import Derived.Test.YtokcefcjkjhnbaaText
import Derived.Laws.EntriesVeiled
namespace Go.Proofs.Ytokcefcjkjhnbaa
open Go.RowKit
set_option linter.unusedVariables false
set_option linter.unusedSimpArgs false

/-- The question that an op asks of its text. -/
def fitsV (op : Int) : Value := if op = 3 ∨ op = 17 then .func (.func 121) #[] #[] else if op = 19 ∨ op = 20 ∨ op = 21 then .func (.func 123) #[] #[] else if op = 22 ∨ op = 23 then .func (.func 124) #[] #[] else .nilFunc
def shapeV (op : Int) : Value := .agg #[.int .i64 (Tr.kids op), .int .i64 (Tr.low op), .int .i64 (Tr.high op), fitsV op]
theorem valueWords_any (w : World) : Calls Try.prog 122 #[] w fun e w' => e = .returned (.slice (some ⟨w.heap.size, 0, none⟩) 3 3) ∧ Below w.heap.size w w' := by
  have HB : Hid (∀ o, Below w.heap.size w (w.alloc o)) := fun o => (Below.refl _ _).alloc (Nat.le_refl _) o
  go_enter Try.func122, Try.ntmps122
  go_wp2_with fail
  go_ret
  exact ⟨rfl, HB.out _⟩

set_option maxRecDepth 100000 in
set_option maxHeartbeats 1000000 in
theorem shape_1 (w : World) : Calls Try.prog 100 #[.int .i64 1] w fun e w' => e = .returned (.agg #[.int .i64 0, .int .i64 0, .int .i64 0, .nilFunc]) ∧ Below w.heap.size w w' := by
  have HB : Hid (∀ o, Below w.heap.size w (w.alloc o)) := fun o => (Below.refl _ _).alloc (Nat.le_refl _) o
  go_enter Try.func100, Try.ntmps100
  go_wp2_with fail
  refine bodyPost_ret (v := .agg #[.int .i64 0, .int .i64 0, .int .i64 0, .nilFunc]) (by simp [results, Try.results100, go_sem]; try rfl) rfl ⟨rfl, ?_⟩
  repeat (first | exact HB.out _ | refine Below.setCell ?_ (Nat.le_refl _) _)

set_option maxRecDepth 100000 in
set_option maxHeartbeats 1000000 in
theorem shape_2 (w : World) : Calls Try.prog 100 #[.int .i64 2] w fun e w' => e = .returned (.agg #[.int .i64 0, .int .i64 0, .int .i64 1000000000000000, .nilFunc]) ∧ Below w.heap.size w w' := by
  have HB : Hid (∀ o, Below w.heap.size w (w.alloc o)) := fun o => (Below.refl _ _).alloc (Nat.le_refl _) o
  go_enter Try.func100, Try.ntmps100
  go_wp2_with fail
  refine bodyPost_ret (v := .agg #[.int .i64 0, .int .i64 0, .int .i64 1000000000000000, .nilFunc]) (by simp [results, Try.results100, go_sem]; try rfl) rfl ⟨rfl, ?_⟩
  repeat (first | exact HB.out _ | refine Below.setCell ?_ (Nat.le_refl _) _)

set_option maxRecDepth 100000 in
set_option maxHeartbeats 1000000 in
theorem shape_3 (w : World) : Calls Try.prog 100 #[.int .i64 3] w fun e w' => e = .returned (.agg #[.int .i64 0, .int .i64 0, .int .i64 0, .func (.func 121) #[] #[]]) ∧ Below w.heap.size w w' := by
  have HB : Hid (∀ o, Below w.heap.size w (w.alloc o)) := fun o => (Below.refl _ _).alloc (Nat.le_refl _) o
  go_enter Try.func100, Try.ntmps100
  go_wp2_with fail
  refine bodyPost_ret (v := .agg #[.int .i64 0, .int .i64 0, .int .i64 0, .func (.func 121) #[] #[]]) (by simp [results, Try.results100, go_sem]; try rfl) rfl ⟨rfl, ?_⟩
  repeat (first | exact HB.out _ | refine Below.setCell ?_ (Nat.le_refl _) _)

set_option maxRecDepth 100000 in
set_option maxHeartbeats 1000000 in
theorem shape_4 (w : World) : Calls Try.prog 100 #[.int .i64 4] w fun e w' => e = .returned (.agg #[.int .i64 0, .int .i64 0, .int .i64 2, .nilFunc]) ∧ Below w.heap.size w w' := by
  have HB : Hid (∀ o, Below w.heap.size w (w.alloc o)) := fun o => (Below.refl _ _).alloc (Nat.le_refl _) o
  have O : ∀ o, Own (w.alloc (.cells #[.int .i64 0, .int .i64 0, .int .i64 0, .nilFunc] o)) w.heap.size o [.int .i64 0, .int .i64 0, .int .i64 0, .nilFunc] := fun o => ⟨_, heap_alloc_new _ _, rfl⟩
  go_enter Try.func100, Try.ntmps100
  go_wp2_with fail
  refine (valueWords_any _).mono ?_
  rintro e w1 ⟨rfl, hb1⟩
  have O1 := (O _).below hb1 (O _).lt
  have B1 : Below w.heap.size w w1 := (HB.out _).trans (hb1.mono (HB.out _).size)
  have c0 := O1.cell 0
  have c1 := O1.cell 1
  have c2 := O1.cell 2
  have c3 := O1.cell 3
  have z0 := O1.frozen 0
  have z1 := O1.frozen 1
  have z2 := O1.frozen 2
  have z3 := O1.frozen 3
  simp only [List.getElem?_cons_zero, List.getElem?_cons_succ] at c0 c1 c2 c3
  have O2 := hide ((((O1.set 0 (.int .i64 0)).set 1 (.int .i64 0)).set 2 (.int .i64 2)).set 3 .nilFunc)
  clear O1 O hb1
  go_wp2_with fail
  have q0 := (unhide O2).cell 0
  have q1 := (unhide O2).cell 1
  have q2 := (unhide O2).cell 2
  have q3 := (unhide O2).cell 3
  simp only [List.set_cons_zero, List.set_cons_succ, List.getElem?_cons_zero, List.getElem?_cons_succ] at q0 q1 q2 q3
  clear c0 c1 c2 c3 z0 z1 z2 z3 O2
  generalize hW : (((w1.setCell ⟨w.heap.size, 0, none⟩ (.int .i64 0)).setCell ⟨w.heap.size, 1, none⟩ (.int .i64 0)).setCell ⟨w.heap.size, 2, none⟩ (.int .i64 2)).setCell ⟨w.heap.size, 3, none⟩ .nilFunc = W at *
  refine bodyPost_ret (v := .agg #[.int .i64 0, .int .i64 0, .int .i64 2, .nilFunc]) (by simp [results, Try.results100, go_sem, q0, q1, q2, q3]; try rfl) rfl ⟨rfl, ?_⟩
  rw [← hW]
  exact (((B1.setCell (Nat.le_refl _) _).setCell (Nat.le_refl _) _).setCell (Nat.le_refl _) _).setCell (Nat.le_refl _) _

set_option maxRecDepth 100000 in
set_option maxHeartbeats 1000000 in
theorem shape_5 (w : World) : Calls Try.prog 100 #[.int .i64 5] w fun e w' => e = .returned (.agg #[.int .i64 2, .int .i64 0, .int .i64 0, .nilFunc]) ∧ Below w.heap.size w w' := by
  have HB : Hid (∀ o, Below w.heap.size w (w.alloc o)) := fun o => (Below.refl _ _).alloc (Nat.le_refl _) o
  go_enter Try.func100, Try.ntmps100
  go_wp2_with fail
  refine bodyPost_ret (v := .agg #[.int .i64 2, .int .i64 0, .int .i64 0, .nilFunc]) (by simp [results, Try.results100, go_sem]; try rfl) rfl ⟨rfl, ?_⟩
  repeat (first | exact HB.out _ | refine Below.setCell ?_ (Nat.le_refl _) _)

set_option maxRecDepth 100000 in
set_option maxHeartbeats 1000000 in
theorem shape_6 (w : World) : Calls Try.prog 100 #[.int .i64 6] w fun e w' => e = .returned (.agg #[.int .i64 2, .int .i64 0, .int .i64 0, .nilFunc]) ∧ Below w.heap.size w w' := by
  have HB : Hid (∀ o, Below w.heap.size w (w.alloc o)) := fun o => (Below.refl _ _).alloc (Nat.le_refl _) o
  go_enter Try.func100, Try.ntmps100
  go_wp2_with fail
  refine bodyPost_ret (v := .agg #[.int .i64 2, .int .i64 0, .int .i64 0, .nilFunc]) (by simp [results, Try.results100, go_sem]; try rfl) rfl ⟨rfl, ?_⟩
  repeat (first | exact HB.out _ | refine Below.setCell ?_ (Nat.le_refl _) _)

set_option maxRecDepth 100000 in
set_option maxHeartbeats 1000000 in
theorem shape_7 (w : World) : Calls Try.prog 100 #[.int .i64 7] w fun e w' => e = .returned (.agg #[.int .i64 2, .int .i64 0, .int .i64 0, .nilFunc]) ∧ Below w.heap.size w w' := by
  have HB : Hid (∀ o, Below w.heap.size w (w.alloc o)) := fun o => (Below.refl _ _).alloc (Nat.le_refl _) o
  go_enter Try.func100, Try.ntmps100
  go_wp2_with fail
  refine bodyPost_ret (v := .agg #[.int .i64 2, .int .i64 0, .int .i64 0, .nilFunc]) (by simp [results, Try.results100, go_sem]; try rfl) rfl ⟨rfl, ?_⟩
  repeat (first | exact HB.out _ | refine Below.setCell ?_ (Nat.le_refl _) _)

set_option maxRecDepth 100000 in
set_option maxHeartbeats 1000000 in
theorem shape_8 (w : World) : Calls Try.prog 100 #[.int .i64 8] w fun e w' => e = .returned (.agg #[.int .i64 2, .int .i64 0, .int .i64 0, .nilFunc]) ∧ Below w.heap.size w w' := by
  have HB : Hid (∀ o, Below w.heap.size w (w.alloc o)) := fun o => (Below.refl _ _).alloc (Nat.le_refl _) o
  go_enter Try.func100, Try.ntmps100
  go_wp2_with fail
  refine bodyPost_ret (v := .agg #[.int .i64 2, .int .i64 0, .int .i64 0, .nilFunc]) (by simp [results, Try.results100, go_sem]; try rfl) rfl ⟨rfl, ?_⟩
  repeat (first | exact HB.out _ | refine Below.setCell ?_ (Nat.le_refl _) _)

set_option maxRecDepth 100000 in
set_option maxHeartbeats 1000000 in
theorem shape_9 (w : World) : Calls Try.prog 100 #[.int .i64 9] w fun e w' => e = .returned (.agg #[.int .i64 2, .int .i64 0, .int .i64 0, .nilFunc]) ∧ Below w.heap.size w w' := by
  have HB : Hid (∀ o, Below w.heap.size w (w.alloc o)) := fun o => (Below.refl _ _).alloc (Nat.le_refl _) o
  go_enter Try.func100, Try.ntmps100
  go_wp2_with fail
  refine bodyPost_ret (v := .agg #[.int .i64 2, .int .i64 0, .int .i64 0, .nilFunc]) (by simp [results, Try.results100, go_sem]; try rfl) rfl ⟨rfl, ?_⟩
  repeat (first | exact HB.out _ | refine Below.setCell ?_ (Nat.le_refl _) _)

set_option maxRecDepth 100000 in
set_option maxHeartbeats 1000000 in
theorem shape_10 (w : World) : Calls Try.prog 100 #[.int .i64 10] w fun e w' => e = .returned (.agg #[.int .i64 2, .int .i64 1, .int .i64 11, .nilFunc]) ∧ Below w.heap.size w w' := by
  have HB : Hid (∀ o, Below w.heap.size w (w.alloc o)) := fun o => (Below.refl _ _).alloc (Nat.le_refl _) o
  go_enter Try.func100, Try.ntmps100
  go_wp2_with fail
  refine bodyPost_ret (v := .agg #[.int .i64 2, .int .i64 1, .int .i64 11, .nilFunc]) (by simp [results, Try.results100, go_sem]; try rfl) rfl ⟨rfl, ?_⟩
  repeat (first | exact HB.out _ | refine Below.setCell ?_ (Nat.le_refl _) _)

set_option maxRecDepth 100000 in
set_option maxHeartbeats 1000000 in
theorem shape_11 (w : World) : Calls Try.prog 100 #[.int .i64 11] w fun e w' => e = .returned (.agg #[.int .i64 2, .int .i64 0, .int .i64 0, .nilFunc]) ∧ Below w.heap.size w w' := by
  have HB : Hid (∀ o, Below w.heap.size w (w.alloc o)) := fun o => (Below.refl _ _).alloc (Nat.le_refl _) o
  go_enter Try.func100, Try.ntmps100
  go_wp2_with fail
  refine bodyPost_ret (v := .agg #[.int .i64 2, .int .i64 0, .int .i64 0, .nilFunc]) (by simp [results, Try.results100, go_sem]; try rfl) rfl ⟨rfl, ?_⟩
  repeat (first | exact HB.out _ | refine Below.setCell ?_ (Nat.le_refl _) _)

set_option maxRecDepth 100000 in
set_option maxHeartbeats 1000000 in
theorem shape_12 (w : World) : Calls Try.prog 100 #[.int .i64 12] w fun e w' => e = .returned (.agg #[.int .i64 1, .int .i64 0, .int .i64 0, .nilFunc]) ∧ Below w.heap.size w w' := by
  have HB : Hid (∀ o, Below w.heap.size w (w.alloc o)) := fun o => (Below.refl _ _).alloc (Nat.le_refl _) o
  go_enter Try.func100, Try.ntmps100
  go_wp2_with fail
  refine bodyPost_ret (v := .agg #[.int .i64 1, .int .i64 0, .int .i64 0, .nilFunc]) (by simp [results, Try.results100, go_sem]; try rfl) rfl ⟨rfl, ?_⟩
  repeat (first | exact HB.out _ | refine Below.setCell ?_ (Nat.le_refl _) _)

set_option maxRecDepth 100000 in
set_option maxHeartbeats 1000000 in
theorem shape_13 (w : World) : Calls Try.prog 100 #[.int .i64 13] w fun e w' => e = .returned (.agg #[.int .i64 1, .int .i64 0, .int .i64 0, .nilFunc]) ∧ Below w.heap.size w w' := by
  have HB : Hid (∀ o, Below w.heap.size w (w.alloc o)) := fun o => (Below.refl _ _).alloc (Nat.le_refl _) o
  go_enter Try.func100, Try.ntmps100
  go_wp2_with fail
  refine bodyPost_ret (v := .agg #[.int .i64 1, .int .i64 0, .int .i64 0, .nilFunc]) (by simp [results, Try.results100, go_sem]; try rfl) rfl ⟨rfl, ?_⟩
  repeat (first | exact HB.out _ | refine Below.setCell ?_ (Nat.le_refl _) _)

set_option maxRecDepth 100000 in
set_option maxHeartbeats 1000000 in
theorem shape_14 (w : World) : Calls Try.prog 100 #[.int .i64 14] w fun e w' => e = .returned (.agg #[.int .i64 1, .int .i64 0, .int .i64 0, .nilFunc]) ∧ Below w.heap.size w w' := by
  have HB : Hid (∀ o, Below w.heap.size w (w.alloc o)) := fun o => (Below.refl _ _).alloc (Nat.le_refl _) o
  go_enter Try.func100, Try.ntmps100
  go_wp2_with fail
  refine bodyPost_ret (v := .agg #[.int .i64 1, .int .i64 0, .int .i64 0, .nilFunc]) (by simp [results, Try.results100, go_sem]; try rfl) rfl ⟨rfl, ?_⟩
  repeat (first | exact HB.out _ | refine Below.setCell ?_ (Nat.le_refl _) _)

set_option maxRecDepth 100000 in
set_option maxHeartbeats 1000000 in
theorem shape_15 (w : World) : Calls Try.prog 100 #[.int .i64 15] w fun e w' => e = .returned (.agg #[.int .i64 0, .int .i64 0, .int .i64 0, .nilFunc]) ∧ Below w.heap.size w w' := by
  have HB : Hid (∀ o, Below w.heap.size w (w.alloc o)) := fun o => (Below.refl _ _).alloc (Nat.le_refl _) o
  go_enter Try.func100, Try.ntmps100
  go_wp2_with fail
  refine bodyPost_ret (v := .agg #[.int .i64 0, .int .i64 0, .int .i64 0, .nilFunc]) (by simp [results, Try.results100, go_sem]; try rfl) rfl ⟨rfl, ?_⟩
  repeat (first | exact HB.out _ | refine Below.setCell ?_ (Nat.le_refl _) _)

set_option maxRecDepth 100000 in
set_option maxHeartbeats 1000000 in
theorem shape_16 (w : World) : Calls Try.prog 100 #[.int .i64 16] w fun e w' => e = .returned (.agg #[.int .i64 0, .int .i64 0, .int .i64 0, .nilFunc]) ∧ Below w.heap.size w w' := by
  have HB : Hid (∀ o, Below w.heap.size w (w.alloc o)) := fun o => (Below.refl _ _).alloc (Nat.le_refl _) o
  go_enter Try.func100, Try.ntmps100
  go_wp2_with fail
  refine bodyPost_ret (v := .agg #[.int .i64 0, .int .i64 0, .int .i64 0, .nilFunc]) (by simp [results, Try.results100, go_sem]; try rfl) rfl ⟨rfl, ?_⟩
  repeat (first | exact HB.out _ | refine Below.setCell ?_ (Nat.le_refl _) _)

set_option maxRecDepth 100000 in
set_option maxHeartbeats 1000000 in
theorem shape_17 (w : World) : Calls Try.prog 100 #[.int .i64 17] w fun e w' => e = .returned (.agg #[.int .i64 2, .int .i64 0, .int .i64 0, .func (.func 121) #[] #[]]) ∧ Below w.heap.size w w' := by
  have HB : Hid (∀ o, Below w.heap.size w (w.alloc o)) := fun o => (Below.refl _ _).alloc (Nat.le_refl _) o
  go_enter Try.func100, Try.ntmps100
  go_wp2_with fail
  refine bodyPost_ret (v := .agg #[.int .i64 2, .int .i64 0, .int .i64 0, .func (.func 121) #[] #[]]) (by simp [results, Try.results100, go_sem]; try rfl) rfl ⟨rfl, ?_⟩
  repeat (first | exact HB.out _ | refine Below.setCell ?_ (Nat.le_refl _) _)

set_option maxRecDepth 100000 in
set_option maxHeartbeats 1000000 in
theorem shape_18 (w : World) : Calls Try.prog 100 #[.int .i64 18] w fun e w' => e = .returned (.agg #[.int .i64 3, .int .i64 0, .int .i64 0, .nilFunc]) ∧ Below w.heap.size w w' := by
  have HB : Hid (∀ o, Below w.heap.size w (w.alloc o)) := fun o => (Below.refl _ _).alloc (Nat.le_refl _) o
  go_enter Try.func100, Try.ntmps100
  go_wp2_with fail
  refine bodyPost_ret (v := .agg #[.int .i64 3, .int .i64 0, .int .i64 0, .nilFunc]) (by simp [results, Try.results100, go_sem]; try rfl) rfl ⟨rfl, ?_⟩
  repeat (first | exact HB.out _ | refine Below.setCell ?_ (Nat.le_refl _) _)

set_option maxRecDepth 100000 in
set_option maxHeartbeats 1000000 in
theorem shape_19 (w : World) : Calls Try.prog 100 #[.int .i64 19] w fun e w' => e = .returned (.agg #[.int .i64 3, .int .i64 0, .int .i64 0, .func (.func 123) #[] #[]]) ∧ Below w.heap.size w w' := by
  have HB : Hid (∀ o, Below w.heap.size w (w.alloc o)) := fun o => (Below.refl _ _).alloc (Nat.le_refl _) o
  go_enter Try.func100, Try.ntmps100
  go_wp2_with fail
  refine bodyPost_ret (v := .agg #[.int .i64 3, .int .i64 0, .int .i64 0, .func (.func 123) #[] #[]]) (by simp [results, Try.results100, go_sem]; try rfl) rfl ⟨rfl, ?_⟩
  repeat (first | exact HB.out _ | refine Below.setCell ?_ (Nat.le_refl _) _)

set_option maxRecDepth 100000 in
set_option maxHeartbeats 1000000 in
theorem shape_20 (w : World) : Calls Try.prog 100 #[.int .i64 20] w fun e w' => e = .returned (.agg #[.int .i64 2, .int .i64 0, .int .i64 0, .func (.func 123) #[] #[]]) ∧ Below w.heap.size w w' := by
  have HB : Hid (∀ o, Below w.heap.size w (w.alloc o)) := fun o => (Below.refl _ _).alloc (Nat.le_refl _) o
  go_enter Try.func100, Try.ntmps100
  go_wp2_with fail
  refine bodyPost_ret (v := .agg #[.int .i64 2, .int .i64 0, .int .i64 0, .func (.func 123) #[] #[]]) (by simp [results, Try.results100, go_sem]; try rfl) rfl ⟨rfl, ?_⟩
  repeat (first | exact HB.out _ | refine Below.setCell ?_ (Nat.le_refl _) _)

set_option maxRecDepth 100000 in
set_option maxHeartbeats 1000000 in
theorem shape_21 (w : World) : Calls Try.prog 100 #[.int .i64 21] w fun e w' => e = .returned (.agg #[.int .i64 0, .int .i64 0, .int .i64 0, .func (.func 123) #[] #[]]) ∧ Below w.heap.size w w' := by
  have HB : Hid (∀ o, Below w.heap.size w (w.alloc o)) := fun o => (Below.refl _ _).alloc (Nat.le_refl _) o
  go_enter Try.func100, Try.ntmps100
  go_wp2_with fail
  refine bodyPost_ret (v := .agg #[.int .i64 0, .int .i64 0, .int .i64 0, .func (.func 123) #[] #[]]) (by simp [results, Try.results100, go_sem]; try rfl) rfl ⟨rfl, ?_⟩
  repeat (first | exact HB.out _ | refine Below.setCell ?_ (Nat.le_refl _) _)

set_option maxRecDepth 100000 in
set_option maxHeartbeats 1000000 in
theorem shape_22 (w : World) : Calls Try.prog 100 #[.int .i64 22] w fun e w' => e = .returned (.agg #[.int .i64 0, .int .i64 0, .int .i64 0, .func (.func 124) #[] #[]]) ∧ Below w.heap.size w w' := by
  have HB : Hid (∀ o, Below w.heap.size w (w.alloc o)) := fun o => (Below.refl _ _).alloc (Nat.le_refl _) o
  go_enter Try.func100, Try.ntmps100
  go_wp2_with fail
  refine bodyPost_ret (v := .agg #[.int .i64 0, .int .i64 0, .int .i64 0, .func (.func 124) #[] #[]]) (by simp [results, Try.results100, go_sem]; try rfl) rfl ⟨rfl, ?_⟩
  repeat (first | exact HB.out _ | refine Below.setCell ?_ (Nat.le_refl _) _)

set_option maxRecDepth 100000 in
set_option maxHeartbeats 1000000 in
theorem shape_23 (w : World) : Calls Try.prog 100 #[.int .i64 23] w fun e w' => e = .returned (.agg #[.int .i64 1, .int .i64 0, .int .i64 0, .func (.func 124) #[] #[]]) ∧ Below w.heap.size w w' := by
  have HB : Hid (∀ o, Below w.heap.size w (w.alloc o)) := fun o => (Below.refl _ _).alloc (Nat.le_refl _) o
  go_enter Try.func100, Try.ntmps100
  go_wp2_with fail
  refine bodyPost_ret (v := .agg #[.int .i64 1, .int .i64 0, .int .i64 0, .func (.func 124) #[] #[]]) (by simp [results, Try.results100, go_sem]; try rfl) rfl ⟨rfl, ?_⟩
  repeat (first | exact HB.out _ | refine Below.setCell ?_ (Nat.le_refl _) _)

set_option maxRecDepth 100000 in
set_option maxHeartbeats 1000000 in
theorem shape_24 (w : World) : Calls Try.prog 100 #[.int .i64 24] w fun e w' => e = .returned (.agg #[.int .i64 0, .int .i64 0, .int .i64 0, .nilFunc]) ∧ Below w.heap.size w w' := by
  have HB : Hid (∀ o, Below w.heap.size w (w.alloc o)) := fun o => (Below.refl _ _).alloc (Nat.le_refl _) o
  go_enter Try.func100, Try.ntmps100
  go_wp2_with fail
  refine bodyPost_ret (v := .agg #[.int .i64 0, .int .i64 0, .int .i64 0, .nilFunc]) (by simp [results, Try.results100, go_sem]; try rfl) rfl ⟨rfl, ?_⟩
  repeat (first | exact HB.out _ | refine Below.setCell ?_ (Nat.le_refl _) _)

theorem shapeOf_any (op : Int) (w : World) (h1 : 1 ≤ op) (h2 : op ≤ 24) : Calls Try.prog 100 #[.int .i64 op] w fun e w' => e = .returned (shapeV op) ∧ Below w.heap.size w w' := by
  have h : op = 1 ∨ op = 2 ∨ op = 3 ∨ op = 4 ∨ op = 5 ∨ op = 6 ∨ op = 7 ∨ op = 8 ∨ op = 9 ∨ op = 10 ∨ op = 11 ∨ op = 12 ∨ op = 13 ∨ op = 14 ∨ op = 15 ∨ op = 16 ∨ op = 17 ∨ op = 18 ∨ op = 19 ∨ op = 20 ∨ op = 21 ∨ op = 22 ∨ op = 23 ∨ op = 24 := by omega
  rcases h with rfl | rfl | rfl | rfl | rfl | rfl | rfl | rfl | rfl | rfl | rfl | rfl | rfl | rfl | rfl | rfl | rfl | rfl | rfl | rfl | rfl | rfl | rfl | rfl
  · exact shape_1 w
  · exact shape_2 w
  · exact shape_3 w
  · exact shape_4 w
  · exact shape_5 w
  · exact shape_6 w
  · exact shape_7 w
  · exact shape_8 w
  · exact shape_9 w
  · exact shape_10 w
  · exact shape_11 w
  · exact shape_12 w
  · exact shape_13 w
  · exact shape_14 w
  · exact shape_15 w
  · exact shape_16 w
  · exact shape_17 w
  · exact shape_18 w
  · exact shape_19 w
  · exact shape_20 w
  · exact shape_21 w
  · exact shape_22 w
  · exact shape_23 w
  · exact shape_24 w

set_option maxHeartbeats 1000000 in
theorem isFreeName_any (s : ByteArray) (w : World) (hs : s.size ≤ 1048576) : Calls Try.prog 124 #[.string s] w fun e w' => e = .returned (.bool (J.isName s && !oneOf theWords s)) ∧ Below w.heap.size w w' := by
  cases h : J.isName s with
  | false =>
    go_enter Try.func124, Try.ntmps124
    go_wp2_with fail
    refine (implIsName_any s _ hs).mono ?_
    rintro e w1 ⟨rfl, hb1⟩
    rw [h]
    go_wp2_with fail
    go_ret
    exact ⟨rfl, hb1⟩
  | true =>
    go_enter Try.func124, Try.ntmps124
    go_wp2_with fail
    refine (implIsName_any s _ hs).mono ?_
    rintro e w1 ⟨rfl, hb1⟩
    rw [h]
    go_wp2_with fail
    refine (implIsWord_any s _).mono ?_
    rintro e w2 ⟨rfl, hw2⟩
    subst hw2
    cases ho : oneOf theWords s with
    | true =>
      go_wp2_with fail
      go_ret
      exact ⟨ret_bool (by first | rfl | (rw [ho]; rfl)), hb1⟩
    | false =>
      go_wp2_with fail
      go_ret
      exact ⟨ret_bool (by first | rfl | (rw [ho]; rfl)), hb1⟩

end Go.Proofs.Ytokcefcjkjhnbaa
