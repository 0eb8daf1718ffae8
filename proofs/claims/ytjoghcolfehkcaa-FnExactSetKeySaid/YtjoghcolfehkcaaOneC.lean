/-
  spec.l1Number, spec.l1String, impl.NumberValue, impl.StringValue: makers of one cell.
-/
import Derived.Test.YtjoghcolfehkcaaAns
namespace Go.Proofs.Ytjoghcolfehkcaa
open Go.RowKit
set_option linter.unusedVariables false

def numOut (n : Int) : Int × List M.Cl := if n < -1000000000000000 ∨ 1000000000000000 < n then (3, []) else (0, [⟨3, n, ByteArray.empty, ByteArray.empty, 0⟩])
theorem num_bad {n : Int} (h : n < -1000000000000000 ∨ 1000000000000000 < n) : numOut n = (3, []) := by unfold numOut; rw [if_pos h]
theorem num_ok {n : Int} (h : ¬ (n < -1000000000000000 ∨ 1000000000000000 < n)) : numOut n = (0, [⟨3, n, ByteArray.empty, ByteArray.empty, 0⟩]) := by unfold numOut; rw [if_neg h]
def strOut (s : ByteArray) : Int × List M.Cl := if M.textOk s = true then (0, [⟨4, 0, s, ByteArray.empty, 0⟩]) else (5, [])
theorem str_bad {s : ByteArray} (h : M.textOk s = false) : strOut s = (5, []) := by unfold strOut; rw [if_neg (by simp [h])]
theorem str_ok {s : ByteArray} (h : M.textOk s = true) : strOut s = (0, [⟨4, 0, s, ByteArray.empty, 0⟩]) := by unfold strOut; rw [if_pos h]

set_option maxHeartbeats 400000 in
theorem l1Number_any (n : Int) (w : World) : Calls Try.prog 112 #[.int .i64 n] w fun e w' => ∃ s, e = .returned s ∧ Res w' w.heap.size s [⟨3, n, ByteArray.empty, ByteArray.empty, 0⟩] ∧ Below w.heap.size w w' := by
  go_enter Try.func112, Try.ntmps112
  go_wp2_with fail
  go_ret
  exact ⟨_, rfl, one_cell w w.heap.size w.heap.size ⟨3, n, ByteArray.empty, ByteArray.empty, 0⟩ rfl (Nat.le_refl _), (Below.refl _ _).alloc (Nat.le_refl _) _⟩
set_option maxHeartbeats 400000 in
theorem l1String_any (s : ByteArray) (w : World) : Calls Try.prog 115 #[.string s] w fun e w' => ∃ r, e = .returned r ∧ Res w' w.heap.size r [⟨4, 0, s, ByteArray.empty, 0⟩] ∧ Below w.heap.size w w' := by
  go_enter Try.func115, Try.ntmps115
  go_wp2_with fail
  go_ret
  exact ⟨_, rfl, one_cell w w.heap.size w.heap.size ⟨4, 0, s, ByteArray.empty, 0⟩ rfl (Nat.le_refl _), (Below.refl _ _).alloc (Nat.le_refl _) _⟩

set_option maxHeartbeats 1000000 in
theorem numberValue_any (n : Int) (w : World) : Calls Try.prog 80 #[.int .i64 n] w (Ans w (numOut n)) := by
  by_cases h : n < -1000000000000000 ∨ 1000000000000000 < n
  · have fin := hide (num_bad h)
    rcases h with h | h
    · have d1 : decide (-1000000000000000 ≤ n) = false := decide_eq_false (by omega)
      go_enter Try.func80, Try.ntmps80
      go_wp2
      refine bodyPost_ret (v := .agg #[.int .i64 3, .slice none 0 0]) (by simp [results, Try.results80, go_sem]) rfl (ans_of (unhide fin) (resNil _ _) ((Below.refl _ _).alloc (Nat.le_refl _) _))
    · have d1 : decide (n ≤ 1000000000000000) = false := decide_eq_false (by omega)
      go_enter Try.func80, Try.ntmps80
      go_wp2
      refine bodyPost_ret (v := .agg #[.int .i64 3, .slice none 0 0]) (by simp [results, Try.results80, go_sem]) rfl (ans_of (unhide fin) (resNil _ _) ((Below.refl _ _).alloc (Nat.le_refl _) _))
  · have fin := hide (num_ok h)
    have h1 : -1000000000000000 ≤ n := by omega
    have h2 : n ≤ 1000000000000000 := by omega
    clear h
    go_enter Try.func80, Try.ntmps80
    go_wp2
    refine bodyPost_ret (v := .agg #[.int .i64 0, .slice (some ⟨w.heap.size + 1, 0, none⟩) 1 1]) (by simp [results, Try.results80, go_sem]) rfl (ans_of (unhide fin) ?_ ?_)
    · exact one_cell (w.alloc _) w.heap.size (w.heap.size + 1) ⟨3, n, ByteArray.empty, ByteArray.empty, 0⟩ (by simp) (by simp)
    · exact ((Below.refl _ _).alloc (Nat.le_refl _) _).alloc (by simp) _

set_option maxHeartbeats 1000000 in
theorem stringValue_any (s : ByteArray) (w : World) (hs : s.size ≤ 9223372036854775807) : Calls Try.prog 92 #[.string s] w (Ans w (strOut s)) := by
  have H := hide (textFits_any s)
  cases ht : M.textOk s with
  | false =>
    have fin := hide (str_bad ht)
    go_enter Try.func92, Try.ntmps92
    go_wp2_with fail
    refine ((unhide H) _ hs).mono ?_; rintro e w' ⟨rfl, rfl⟩
    rw [ht]
    clear ht
    go_wp2_with go_in
    refine bodyPost_ret (v := .agg #[.int .i64 5, .slice none 0 0]) (by simp [results, Try.results92, go_sem]) rfl (ans_of (unhide fin) (resNil _ _) ((Below.refl _ _).alloc (Nat.le_refl _) _))
  | true =>
    have fin := hide (str_ok ht)
    go_enter Try.func92, Try.ntmps92
    go_wp2_with fail
    refine ((unhide H) _ hs).mono ?_; rintro e w' ⟨rfl, rfl⟩
    rw [ht]
    clear ht
    go_wp2_with go_in
    refine bodyPost_ret (v := .agg #[.int .i64 0, .slice (some ⟨w.heap.size + 1, 0, none⟩) 1 1]) (by simp [results, Try.results92, go_sem]) rfl (ans_of (unhide fin) ?_ ?_)
    · exact one_cell (w.alloc _) w.heap.size (w.heap.size + 1) ⟨4, 0, s, ByteArray.empty, 0⟩ (by simp) (by simp)
    · exact ((Below.refl _ _).alloc (Nat.le_refl _) _).alloc (by simp) _

end Go.Proofs.Ytjoghcolfehkcaa
