/-
  An answer of a code, a place and cells: what the laws' helpers find, mark and find again in it.
-/
import Derived.Test.YthaabakpcokomaaRes
namespace Go.Proofs.Ythaabakpcokomaa
open Go.RowKit
set_option linter.unusedVariables false
set_option linter.unusedSimpArgs false


set_option maxHeartbeats 1000000 in
theorem eqReadResult_any (code at_ : Int) (s s' : Value) (B B' : Nat) (l : List M.Cl) (w : World) (h : Res w B s l) (h' : Res w B' s' l) :
    Calls Try.prog 38 #[.agg #[.int .i64 code, .int .i64 at_, s], .agg #[.int .i64 code, .int .i64 at_, s']] w fun e w' => e = .returned (.bool true) ∧ Below w.heap.size w w' := by
  have HB : ∀ o o', Below w.heap.size w ((w.alloc o).alloc o') := fun o o' => ((Below.refl _ _).alloc (Nat.le_refl _) _).alloc (by simp) _
  have H := hide (fun o o' => eqCellS_res s s' B B' l ((w.alloc o).alloc o') ((h.alloc o).alloc o') ((h'.alloc o).alloc o'))
  obtain ⟨a, n, cap, rfl⟩ := h.shape
  obtain ⟨a', n', cap', rfl⟩ := h'.shape
  clear h h'
  have HB' := hide HB
  clear HB
  go_enter Try.func38, Try.ntmps38
  go_wp2_with fail
  refine ((unhide H) _ _).mono ?_
  rintro e w1 ⟨rfl, hb1⟩
  go_wp2_with fail
  go_ret
  exact ⟨rfl, ((unhide HB') _ _).trans (hb1.mono (by simp <;> omega))⟩

set_option maxHeartbeats 1000000 in
theorem markReadResult_any (code at_ : Int) (s : Value) (B : Nat) (l : List M.Cl) (k : Int) (w : World) (h : Res w B s l) (k0 : 0 ≤ k) (k1 : k ≤ 100000000000) :
    Calls Try.prog 41 #[.agg #[.int .i64 code, .int .i64 at_, s], .int .i64 k] w fun e w' => e = .returned (.int .i64 (k + 5 * l.length)) ∧ Res w' B s (marked l.length k) ∧ ButV s w w' := by
  have H := hide (fun o => markCellS_res s B l k (w.alloc o) (h.alloc o) k0 k1)
  have hs := hide h.shape
  obtain ⟨a, n, cap, rfl⟩ := h.shape
  clear h hs
  go_enter Try.func41, Try.ntmps41
  go_wp2_with fail
  refine ((unhide H) _).mono ?_
  rintro e w1 ⟨rfl, hr, hb⟩
  go_wp2_with fail
  go_ret
  refine ⟨rfl, hr, ⟨hb.os, hb.tape, hb.output, by have := hb.size; simp at this; omega, fun i hi hne => ?_⟩⟩
  rw [hb.block i (by simp; omega) hne]
  exact Below.heap_alloc _ _ _ hi

set_option maxHeartbeats 1000000 in
theorem heldReadResult_any (code at_ : Int) (s : Value) (B n : Nat) (k : Int) (w : World) (h : Res w B s (marked n k)) (k0 : 0 ≤ k) (k1 : k ≤ 100000000000) (hn : n ≤ 1048576) :
    Calls Try.prog 42 #[.agg #[.int .i64 code, .int .i64 at_, s], .int .i64 k] w fun e w' => e = .returned (.int .i64 (k + 5 * n)) ∧ Below w.heap.size w w' := by
  have H := hide (fun o => heldCellS_res s B n k (w.alloc o) (h.alloc o) k0 k1)
  obtain ⟨a, m, cap, rfl⟩ := h.shape
  clear h
  go_enter Try.func42, Try.ntmps42
  go_wp2_with fail
  refine ((unhide H) _).mono ?_
  rintro e w1 ⟨rfl, hb⟩
  go_wp2_with fail
  go_ret
  exact ⟨rfl, ((Below.refl _ _).alloc (Nat.le_refl _) _).trans (hb.mono (by simp))⟩

end Go.Proofs.Ythaabakpcokomaa
