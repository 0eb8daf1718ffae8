/-
  One cell's code: impl.cellFault and spec.l1Cell both return the plain function M.cellCode of the cell, and write nothing that was there.
-/
import Derived.Test.YtlmibdddfjbbdaaM06
import Derived.Deep.RegionWith
namespace Go.Proofs.Ytlmibdddfjbbdaa
open Go.RowKit
set_option linter.unusedVariables false

set_option maxHeartbeats 400000 in
theorem l1In_yes (v lo hi : Int) (w : World) (h1 : lo ≤ v) (h2 : v ≤ hi) : Calls Try.prog 50 #[.int .i64 v, .int .i64 lo, .int .i64 hi] w fun e w' => e = .returned (.bool true) ∧ w' = w := by
  go_enter Try.func50, Try.ntmps50
  go_wp2
  go_ret
  exact ⟨rfl, rfl⟩
set_option maxHeartbeats 400000 in
theorem l1In_no (v lo hi : Int) (w : World) (h : v < lo ∨ hi < v) : Calls Try.prog 50 #[.int .i64 v, .int .i64 lo, .int .i64 hi] w fun e w' => e = .returned (.bool false) ∧ w' = w := by
  by_cases h1 : lo ≤ v
  · have h2 : ¬ v ≤ hi := by omega
    go_enter Try.func50, Try.ntmps50
    go_wp2
    go_ret
    exact ⟨rfl, rfl⟩
  · go_enter Try.func50, Try.ntmps50
    go_wp2
    go_ret
    exact ⟨rfl, rfl⟩
set_option maxHeartbeats 400000 in
theorem l1Holds_yes (kind num n : Int) (text key : ByteArray) (w : World) (h : kind = 5 ∨ kind = 6) : Calls Try.prog 51 #[.agg #[.int .i64 kind, .int .i64 num, .string text, .string key, .int .i64 n]] w fun e w' => e = .returned (.bool true) ∧ w' = w.alloc (.cells #[.int .i64 kind, .int .i64 num, .string text, .string key, .int .i64 n] 41) := by
  rcases h with rfl | rfl
  · go_enter Try.func51, Try.ntmps51
    go_wp2
    go_ret
    exact ⟨rfl, rfl⟩
  · go_enter Try.func51, Try.ntmps51
    go_wp2
    go_ret
    exact ⟨rfl, rfl⟩
set_option maxHeartbeats 400000 in
theorem l1Holds_no (kind num n : Int) (text key : ByteArray) (w : World) (h : ¬ (kind = 5 ∨ kind = 6)) : Calls Try.prog 51 #[.agg #[.int .i64 kind, .int .i64 num, .string text, .string key, .int .i64 n]] w fun e w' => e = .returned (.bool false) ∧ w' = w.alloc (.cells #[.int .i64 kind, .int .i64 num, .string text, .string key, .int .i64 n] 41) := by
  have e5 : (kind == 5) = false := by simp; omega
  have e6 : (kind == 6) = false := by simp; omega
  go_enter Try.func51, Try.ntmps51
  go_wp2
  go_ret
  exact ⟨rfl, rfl⟩

set_option maxHeartbeats 400000 in
theorem l1Cell_low (kind num n : Int) (text key : ByteArray) (w : World) (ht : text.size ≤ 9223372036854775807) (hk : key.size ≤ 9223372036854775807) (h0 : kind < 0) :
    Calls Try.prog 37 #[.agg #[.int .i64 kind, .int .i64 num, .string text, .string key, .int .i64 n]] w fun e w' => e = .returned (.int .i64 (M.cellCode ⟨kind, num, text, key, n⟩)) ∧ Below w.heap.size w w' := by
  have hcode := hide (code_low kind num n text key h0)
  go_enter Try.func37, Try.ntmps37
  go_wp2_with fail
  refine (l1In_no _ _ _ _ (by omega)).mono ?_; rintro e w' ⟨rfl, rfl⟩
  go_wp2_with fail
  go_ret
  refine ⟨ret_int (unhide hcode).symm, ?_⟩
  first | exact (Below.refl _ _).alloc (Nat.le_refl _) _ | exact ((Below.refl _ _).alloc (Nat.le_refl _) _).alloc (by simp) _

set_option maxHeartbeats 400000 in
theorem l1Cell_high (kind num n : Int) (text key : ByteArray) (w : World) (ht : text.size ≤ 9223372036854775807) (hk : key.size ≤ 9223372036854775807) (h0 : 6 < kind) :
    Calls Try.prog 37 #[.agg #[.int .i64 kind, .int .i64 num, .string text, .string key, .int .i64 n]] w fun e w' => e = .returned (.int .i64 (M.cellCode ⟨kind, num, text, key, n⟩)) ∧ Below w.heap.size w w' := by
  have hcode := hide (code_high kind num n text key h0)
  go_enter Try.func37, Try.ntmps37
  go_wp2_with fail
  refine (l1In_no _ _ _ _ (by omega)).mono ?_; rintro e w' ⟨rfl, rfl⟩
  go_wp2_with fail
  go_ret
  refine ⟨ret_int (unhide hcode).symm, ?_⟩
  first | exact (Below.refl _ _).alloc (Nat.le_refl _) _ | exact ((Below.refl _ _).alloc (Nat.le_refl _) _).alloc (by simp) _

set_option maxHeartbeats 400000 in
theorem l1Cell_numA (kind num n : Int) (text key : ByteArray) (w : World) (ht : text.size ≤ 9223372036854775807) (hk : key.size ≤ 9223372036854775807) (h0 : 0 ≤ kind) (h1 : kind ≤ 6) (h2 : num ≠ 0) (h3 : kind ≠ 3) :
    Calls Try.prog 37 #[.agg #[.int .i64 kind, .int .i64 num, .string text, .string key, .int .i64 n]] w fun e w' => e = .returned (.int .i64 (M.cellCode ⟨kind, num, text, key, n⟩)) ∧ Below w.heap.size w w' := by
  have hcode := hide (code_numA kind num n text key h0 h1 h2 h3)
  go_enter Try.func37, Try.ntmps37
  go_wp2_with fail
  refine (l1In_yes _ _ _ _ (by omega) (by omega)).mono ?_; rintro e w' ⟨rfl, rfl⟩
  go_wp2_with fail
  go_ret
  refine ⟨ret_int (unhide hcode).symm, ?_⟩
  first | exact (Below.refl _ _).alloc (Nat.le_refl _) _ | exact ((Below.refl _ _).alloc (Nat.le_refl _) _).alloc (by simp) _

set_option maxHeartbeats 400000 in
theorem l1Cell_txtA (kind num n : Int) (text key : ByteArray) (w : World) (ht : text.size ≤ 9223372036854775807) (hk : key.size ≤ 9223372036854775807) (h0 : 0 ≤ kind) (h1 : kind ≤ 6) (h2 : num = 0) (h3 : text.toList ≠ []) (h4 : kind ≠ 4) :
    Calls Try.prog 37 #[.agg #[.int .i64 kind, .int .i64 num, .string text, .string key, .int .i64 n]] w fun e w' => e = .returned (.int .i64 (M.cellCode ⟨kind, num, text, key, n⟩)) ∧ Below w.heap.size w w' := by
  have hcode := hide (code_txtA kind num n text key h0 h1 h2 h3 h4)
  subst h2
  go_enter Try.func37, Try.ntmps37
  go_wp2_with fail
  refine (l1In_yes _ _ _ _ (by omega) (by omega)).mono ?_; rintro e w' ⟨rfl, rfl⟩
  go_wp2_with fail
  go_ret
  refine ⟨ret_int (unhide hcode).symm, ?_⟩
  first | exact (Below.refl _ _).alloc (Nat.le_refl _) _ | exact ((Below.refl _ _).alloc (Nat.le_refl _) _).alloc (by simp) _

set_option maxHeartbeats 400000 in
theorem l1Cell_txtB (kind num n : Int) (text key : ByteArray) (w : World) (ht : text.size ≤ 9223372036854775807) (hk : key.size ≤ 9223372036854775807) (h0 : kind = 3) (h1 : num ≠ 0) (h2 : text.toList ≠ []) :
    Calls Try.prog 37 #[.agg #[.int .i64 kind, .int .i64 num, .string text, .string key, .int .i64 n]] w fun e w' => e = .returned (.int .i64 (M.cellCode ⟨kind, num, text, key, n⟩)) ∧ Below w.heap.size w w' := by
  have hcode := hide (code_txtB kind num n text key h0 h1 h2)
  subst h0
  go_enter Try.func37, Try.ntmps37
  go_wp2_with fail
  refine (l1In_yes _ _ _ _ (by omega) (by omega)).mono ?_; rintro e w' ⟨rfl, rfl⟩
  go_wp2_with fail
  go_ret
  refine ⟨ret_int (unhide hcode).symm, ?_⟩
  first | exact (Below.refl _ _).alloc (Nat.le_refl _) _ | exact ((Below.refl _ _).alloc (Nat.le_refl _) _).alloc (by simp) _

set_option maxHeartbeats 400000 in
theorem l1Cell_nA (kind num n : Int) (text key : ByteArray) (w : World) (ht : text.size ≤ 9223372036854775807) (hk : key.size ≤ 9223372036854775807) (h0 : 0 ≤ kind) (h1 : kind ≤ 4) (h2 : num = 0) (h3 : text.toList = []) (h4 : n ≠ 0) :
    Calls Try.prog 37 #[.agg #[.int .i64 kind, .int .i64 num, .string text, .string key, .int .i64 n]] w fun e w' => e = .returned (.int .i64 (M.cellCode ⟨kind, num, text, key, n⟩)) ∧ Below w.heap.size w w' := by
  have hcode := hide (code_nA kind num n text key h0 h1 h2 h3 h4)
  subst h2
  have e1 : (n != 0) = true := by simp [h4]
  have e2 : (kind != 5) = true := by simp; omega
  have e3 : (kind != 6) = true := by simp; omega
  go_enter Try.func37, Try.ntmps37
  go_wp2_with fail
  refine (l1In_yes _ _ _ _ (by omega) (by omega)).mono ?_; rintro e w' ⟨rfl, rfl⟩
  go_wp2_with fail
  refine (l1Holds_no _ _ _ _ _ _ (by omega)).mono ?_; rintro e w' ⟨rfl, rfl⟩
  go_wp2_with fail
  go_ret
  refine ⟨ret_int (unhide hcode).symm, ?_⟩
  first | exact (Below.refl _ _).alloc (Nat.le_refl _) _ | exact ((Below.refl _ _).alloc (Nat.le_refl _) _).alloc (by simp) _

set_option maxHeartbeats 400000 in
theorem l1Cell_nB (kind num n : Int) (text key : ByteArray) (w : World) (ht : text.size ≤ 9223372036854775807) (hk : key.size ≤ 9223372036854775807) (h0 : kind = 3) (h1 : num ≠ 0) (h2 : text.toList = []) (h3 : n ≠ 0) :
    Calls Try.prog 37 #[.agg #[.int .i64 kind, .int .i64 num, .string text, .string key, .int .i64 n]] w fun e w' => e = .returned (.int .i64 (M.cellCode ⟨kind, num, text, key, n⟩)) ∧ Below w.heap.size w w' := by
  have hcode := hide (code_nB kind num n text key h0 h1 h2 h3)
  subst h0
  go_enter Try.func37, Try.ntmps37
  go_wp2_with fail
  refine (l1In_yes _ _ _ _ (by omega) (by omega)).mono ?_; rintro e w' ⟨rfl, rfl⟩
  go_wp2_with fail
  refine (l1Holds_no _ _ _ _ _ _ (by omega)).mono ?_; rintro e w' ⟨rfl, rfl⟩
  go_wp2_with fail
  go_ret
  refine ⟨ret_int (unhide hcode).symm, ?_⟩
  first | exact (Below.refl _ _).alloc (Nat.le_refl _) _ | exact ((Below.refl _ _).alloc (Nat.le_refl _) _).alloc (by simp) _

set_option maxHeartbeats 400000 in
theorem l1Cell_nC (kind num n : Int) (text key : ByteArray) (w : World) (ht : text.size ≤ 9223372036854775807) (hk : key.size ≤ 9223372036854775807) (h0 : kind = 4) (h1 : num = 0) (h2 : text.toList ≠ []) (h3 : n ≠ 0) :
    Calls Try.prog 37 #[.agg #[.int .i64 kind, .int .i64 num, .string text, .string key, .int .i64 n]] w fun e w' => e = .returned (.int .i64 (M.cellCode ⟨kind, num, text, key, n⟩)) ∧ Below w.heap.size w w' := by
  have hcode := hide (code_nC kind num n text key h0 h1 h2 h3)
  subst h0 h1
  go_enter Try.func37, Try.ntmps37
  go_wp2_with fail
  refine (l1In_yes _ _ _ _ (by omega) (by omega)).mono ?_; rintro e w' ⟨rfl, rfl⟩
  go_wp2_with fail
  refine (l1Holds_no _ _ _ _ _ _ (by omega)).mono ?_; rintro e w' ⟨rfl, rfl⟩
  go_wp2_with fail
  go_ret
  refine ⟨ret_int (unhide hcode).symm, ?_⟩
  first | exact (Below.refl _ _).alloc (Nat.le_refl _) _ | exact ((Below.refl _ _).alloc (Nat.le_refl _) _).alloc (by simp) _

set_option maxHeartbeats 400000 in
theorem l1Cell_r3a (kind num n : Int) (text key : ByteArray) (w : World) (ht : text.size ≤ 9223372036854775807) (hk : key.size ≤ 9223372036854775807) (h0 : kind = 3) (h1 : num < -1000000000000000) (h2 : text.toList = []) (h3 : n = 0) :
    Calls Try.prog 37 #[.agg #[.int .i64 kind, .int .i64 num, .string text, .string key, .int .i64 n]] w fun e w' => e = .returned (.int .i64 (M.cellCode ⟨kind, num, text, key, n⟩)) ∧ Below w.heap.size w w' := by
  have hcode := hide (code_r3a kind num n text key h0 h1 h2 h3)
  subst h0 h3
  go_enter Try.func37, Try.ntmps37
  go_wp2_with fail
  refine (l1In_yes _ _ _ _ (by omega) (by omega)).mono ?_; rintro e w' ⟨rfl, rfl⟩
  go_wp2_with fail
  refine (l1In_no _ _ _ _ (by omega)).mono ?_; rintro e w' ⟨rfl, rfl⟩
  go_wp2_with fail
  go_ret
  refine ⟨ret_int (unhide hcode).symm, ?_⟩
  first | exact (Below.refl _ _).alloc (Nat.le_refl _) _ | exact ((Below.refl _ _).alloc (Nat.le_refl _) _).alloc (by simp) _

set_option maxHeartbeats 400000 in
theorem l1Cell_r3b (kind num n : Int) (text key : ByteArray) (w : World) (ht : text.size ≤ 9223372036854775807) (hk : key.size ≤ 9223372036854775807) (h0 : kind = 3) (h1 : 1000000000000000 < num) (h2 : text.toList = []) (h3 : n = 0) :
    Calls Try.prog 37 #[.agg #[.int .i64 kind, .int .i64 num, .string text, .string key, .int .i64 n]] w fun e w' => e = .returned (.int .i64 (M.cellCode ⟨kind, num, text, key, n⟩)) ∧ Below w.heap.size w w' := by
  have hcode := hide (code_r3b kind num n text key h0 h1 h2 h3)
  subst h0 h3
  go_enter Try.func37, Try.ntmps37
  go_wp2_with fail
  refine (l1In_yes _ _ _ _ (by omega) (by omega)).mono ?_; rintro e w' ⟨rfl, rfl⟩
  go_wp2_with fail
  refine (l1In_no _ _ _ _ (by omega)).mono ?_; rintro e w' ⟨rfl, rfl⟩
  go_wp2_with fail
  go_ret
  refine ⟨ret_int (unhide hcode).symm, ?_⟩
  first | exact (Below.refl _ _).alloc (Nat.le_refl _) _ | exact ((Below.refl _ _).alloc (Nat.le_refl _) _).alloc (by simp) _

set_option maxHeartbeats 400000 in
theorem l1Cell_r5a (kind num n : Int) (text key : ByteArray) (w : World) (ht : text.size ≤ 9223372036854775807) (hk : key.size ≤ 9223372036854775807) (h0 : kind = 5) (h1 : num = 0) (h2 : text.toList = []) (h3 : n < 0) :
    Calls Try.prog 37 #[.agg #[.int .i64 kind, .int .i64 num, .string text, .string key, .int .i64 n]] w fun e w' => e = .returned (.int .i64 (M.cellCode ⟨kind, num, text, key, n⟩)) ∧ Below w.heap.size w w' := by
  have hcode := hide (code_r5a kind num n text key h0 h1 h2 h3)
  subst h0 h1
  go_enter Try.func37, Try.ntmps37
  go_wp2_with fail
  refine (l1In_yes _ _ _ _ (by omega) (by omega)).mono ?_; rintro e w' ⟨rfl, rfl⟩
  go_wp2_with fail
  refine (l1Holds_yes _ _ _ _ _ _ (by omega)).mono ?_; rintro e w' ⟨rfl, rfl⟩
  go_wp2_with fail
  refine (l1In_yes _ _ _ _ (by omega) (by omega)).mono ?_; rintro e w' ⟨rfl, rfl⟩
  go_wp2_with fail
  refine (l1In_no _ _ _ _ (by omega)).mono ?_; rintro e w' ⟨rfl, rfl⟩
  go_wp2_with fail
  go_ret
  refine ⟨ret_int (unhide hcode).symm, ?_⟩
  first | exact (Below.refl _ _).alloc (Nat.le_refl _) _ | exact ((Below.refl _ _).alloc (Nat.le_refl _) _).alloc (by simp) _

set_option maxHeartbeats 400000 in
theorem l1Cell_r5b (kind num n : Int) (text key : ByteArray) (w : World) (ht : text.size ≤ 9223372036854775807) (hk : key.size ≤ 9223372036854775807) (h0 : kind = 5) (h1 : num = 0) (h2 : text.toList = []) (h3 : 200 < n) :
    Calls Try.prog 37 #[.agg #[.int .i64 kind, .int .i64 num, .string text, .string key, .int .i64 n]] w fun e w' => e = .returned (.int .i64 (M.cellCode ⟨kind, num, text, key, n⟩)) ∧ Below w.heap.size w w' := by
  have hcode := hide (code_r5b kind num n text key h0 h1 h2 h3)
  subst h0 h1
  go_enter Try.func37, Try.ntmps37
  go_wp2_with fail
  refine (l1In_yes _ _ _ _ (by omega) (by omega)).mono ?_; rintro e w' ⟨rfl, rfl⟩
  go_wp2_with fail
  refine (l1Holds_yes _ _ _ _ _ _ (by omega)).mono ?_; rintro e w' ⟨rfl, rfl⟩
  go_wp2_with fail
  refine (l1In_yes _ _ _ _ (by omega) (by omega)).mono ?_; rintro e w' ⟨rfl, rfl⟩
  go_wp2_with fail
  refine (l1In_no _ _ _ _ (by omega)).mono ?_; rintro e w' ⟨rfl, rfl⟩
  go_wp2_with fail
  go_ret
  refine ⟨ret_int (unhide hcode).symm, ?_⟩
  first | exact (Below.refl _ _).alloc (Nat.le_refl _) _ | exact ((Below.refl _ _).alloc (Nat.le_refl _) _).alloc (by simp) _

set_option maxHeartbeats 400000 in
theorem l1Cell_r6a (kind num n : Int) (text key : ByteArray) (w : World) (ht : text.size ≤ 9223372036854775807) (hk : key.size ≤ 9223372036854775807) (h0 : kind = 6) (h1 : num = 0) (h2 : text.toList = []) (h3 : n < 0) :
    Calls Try.prog 37 #[.agg #[.int .i64 kind, .int .i64 num, .string text, .string key, .int .i64 n]] w fun e w' => e = .returned (.int .i64 (M.cellCode ⟨kind, num, text, key, n⟩)) ∧ Below w.heap.size w w' := by
  have hcode := hide (code_r6a kind num n text key h0 h1 h2 h3)
  subst h0 h1
  go_enter Try.func37, Try.ntmps37
  go_wp2_with fail
  refine (l1In_yes _ _ _ _ (by omega) (by omega)).mono ?_; rintro e w' ⟨rfl, rfl⟩
  go_wp2_with fail
  refine (l1Holds_yes _ _ _ _ _ _ (by omega)).mono ?_; rintro e w' ⟨rfl, rfl⟩
  go_wp2_with fail
  refine (l1In_yes _ _ _ _ (by omega) (by omega)).mono ?_; rintro e w' ⟨rfl, rfl⟩
  go_wp2_with fail
  refine (l1In_no _ _ _ _ (by omega)).mono ?_; rintro e w' ⟨rfl, rfl⟩
  go_wp2_with fail
  go_ret
  refine ⟨ret_int (unhide hcode).symm, ?_⟩
  first | exact (Below.refl _ _).alloc (Nat.le_refl _) _ | exact ((Below.refl _ _).alloc (Nat.le_refl _) _).alloc (by simp) _

set_option maxHeartbeats 400000 in
theorem l1Cell_r6b (kind num n : Int) (text key : ByteArray) (w : World) (ht : text.size ≤ 9223372036854775807) (hk : key.size ≤ 9223372036854775807) (h0 : kind = 6) (h1 : num = 0) (h2 : text.toList = []) (h3 : 200 < n) :
    Calls Try.prog 37 #[.agg #[.int .i64 kind, .int .i64 num, .string text, .string key, .int .i64 n]] w fun e w' => e = .returned (.int .i64 (M.cellCode ⟨kind, num, text, key, n⟩)) ∧ Below w.heap.size w w' := by
  have hcode := hide (code_r6b kind num n text key h0 h1 h2 h3)
  subst h0 h1
  go_enter Try.func37, Try.ntmps37
  go_wp2_with fail
  refine (l1In_yes _ _ _ _ (by omega) (by omega)).mono ?_; rintro e w' ⟨rfl, rfl⟩
  go_wp2_with fail
  refine (l1Holds_yes _ _ _ _ _ _ (by omega)).mono ?_; rintro e w' ⟨rfl, rfl⟩
  go_wp2_with fail
  refine (l1In_yes _ _ _ _ (by omega) (by omega)).mono ?_; rintro e w' ⟨rfl, rfl⟩
  go_wp2_with fail
  refine (l1In_no _ _ _ _ (by omega)).mono ?_; rintro e w' ⟨rfl, rfl⟩
  go_wp2_with fail
  go_ret
  refine ⟨ret_int (unhide hcode).symm, ?_⟩
  first | exact (Below.refl _ _).alloc (Nat.le_refl _) _ | exact ((Below.refl _ _).alloc (Nat.le_refl _) _).alloc (by simp) _

set_option maxHeartbeats 400000 in
theorem l1Cell_g0t (kind num n : Int) (text key : ByteArray) (w : World) (ht : text.size ≤ 9223372036854775807) (hk : key.size ≤ 9223372036854775807) (h0 : 0 ≤ kind) (h1 : kind ≤ 6) (h2 : num = 0) (h3 : text.toList = []) (h4 : n = 0) (h5 : M.textOk text = false) :
    Calls Try.prog 37 #[.agg #[.int .i64 kind, .int .i64 num, .string text, .string key, .int .i64 n]] w fun e w' => e = .returned (.int .i64 (M.cellCode ⟨kind, num, text, key, n⟩)) ∧ Below w.heap.size w w' := by
  have hcode := hide (code_g0t kind num n text key h0 h1 h2 h3 h4 h5)
  subst h2 h4
  go_enter Try.func37, Try.ntmps37
  go_wp2_with fail
  refine (l1In_yes _ _ _ _ (by omega) (by omega)).mono ?_; rintro e w' ⟨rfl, rfl⟩
  go_wp2_with fail
  refine (l1In_yes _ _ _ _ (by omega) (by omega)).mono ?_; rintro e w' ⟨rfl, rfl⟩
  go_wp2_with fail
  refine (l1In_yes _ _ _ _ (by omega) (by omega)).mono ?_; rintro e w' ⟨rfl, rfl⟩
  go_wp2_with fail
  refine (l1Text_any text _ ht).mono ?_; rintro e w' ⟨rfl, rfl⟩
  go_wp2_with fail
  go_ret
  refine ⟨ret_int (unhide hcode).symm, ?_⟩
  first | exact (Below.refl _ _).alloc (Nat.le_refl _) _ | exact ((Below.refl _ _).alloc (Nat.le_refl _) _).alloc (by simp) _

set_option maxHeartbeats 400000 in
theorem l1Cell_g0k (kind num n : Int) (text key : ByteArray) (w : World) (ht : text.size ≤ 9223372036854775807) (hk : key.size ≤ 9223372036854775807) (h0 : 0 ≤ kind) (h1 : kind ≤ 6) (h2 : num = 0) (h3 : text.toList = []) (h4 : n = 0) (h5 : M.textOk text = true) (h6 : M.textOk key = false) :
    Calls Try.prog 37 #[.agg #[.int .i64 kind, .int .i64 num, .string text, .string key, .int .i64 n]] w fun e w' => e = .returned (.int .i64 (M.cellCode ⟨kind, num, text, key, n⟩)) ∧ Below w.heap.size w w' := by
  have hcode := hide (code_g0k kind num n text key h0 h1 h2 h3 h4 h5 h6)
  subst h2 h4
  go_enter Try.func37, Try.ntmps37
  go_wp2_with fail
  refine (l1In_yes _ _ _ _ (by omega) (by omega)).mono ?_; rintro e w' ⟨rfl, rfl⟩
  go_wp2_with fail
  refine (l1In_yes _ _ _ _ (by omega) (by omega)).mono ?_; rintro e w' ⟨rfl, rfl⟩
  go_wp2_with fail
  refine (l1In_yes _ _ _ _ (by omega) (by omega)).mono ?_; rintro e w' ⟨rfl, rfl⟩
  go_wp2_with fail
  refine (l1Text_any text _ ht).mono ?_; rintro e w' ⟨rfl, rfl⟩
  go_wp2_with fail
  refine (l1Text_any key _ hk).mono ?_; rintro e w' ⟨rfl, rfl⟩
  go_wp2_with fail
  go_ret
  refine ⟨ret_int (unhide hcode).symm, ?_⟩
  first | exact (Below.refl _ _).alloc (Nat.le_refl _) _ | exact ((Below.refl _ _).alloc (Nat.le_refl _) _).alloc (by simp) _

set_option maxHeartbeats 400000 in
theorem l1Cell_g0o (kind num n : Int) (text key : ByteArray) (w : World) (ht : text.size ≤ 9223372036854775807) (hk : key.size ≤ 9223372036854775807) (h0 : 0 ≤ kind) (h1 : kind ≤ 6) (h2 : num = 0) (h3 : text.toList = []) (h4 : n = 0) (h5 : M.textOk text = true) (h6 : M.textOk key = true) :
    Calls Try.prog 37 #[.agg #[.int .i64 kind, .int .i64 num, .string text, .string key, .int .i64 n]] w fun e w' => e = .returned (.int .i64 (M.cellCode ⟨kind, num, text, key, n⟩)) ∧ Below w.heap.size w w' := by
  have hcode := hide (code_g0o kind num n text key h0 h1 h2 h3 h4 h5 h6)
  subst h2 h4
  go_enter Try.func37, Try.ntmps37
  go_wp2_with fail
  refine (l1In_yes _ _ _ _ (by omega) (by omega)).mono ?_; rintro e w' ⟨rfl, rfl⟩
  go_wp2_with fail
  refine (l1In_yes _ _ _ _ (by omega) (by omega)).mono ?_; rintro e w' ⟨rfl, rfl⟩
  go_wp2_with fail
  refine (l1In_yes _ _ _ _ (by omega) (by omega)).mono ?_; rintro e w' ⟨rfl, rfl⟩
  go_wp2_with fail
  refine (l1Text_any text _ ht).mono ?_; rintro e w' ⟨rfl, rfl⟩
  go_wp2_with fail
  refine (l1Text_any key _ hk).mono ?_; rintro e w' ⟨rfl, rfl⟩
  go_wp2_with fail
  go_ret
  refine ⟨ret_int (unhide hcode).symm, ?_⟩
  first | exact (Below.refl _ _).alloc (Nat.le_refl _) _ | exact ((Below.refl _ _).alloc (Nat.le_refl _) _).alloc (by simp) _

set_option maxHeartbeats 400000 in
theorem l1Cell_g3t (kind num n : Int) (text key : ByteArray) (w : World) (ht : text.size ≤ 9223372036854775807) (hk : key.size ≤ 9223372036854775807) (h0 : kind = 3) (h1 : num ≠ 0) (h2 : -1000000000000000 ≤ num) (h3 : num ≤ 1000000000000000) (h4 : text.toList = []) (h5 : n = 0) (h6 : M.textOk text = false) :
    Calls Try.prog 37 #[.agg #[.int .i64 kind, .int .i64 num, .string text, .string key, .int .i64 n]] w fun e w' => e = .returned (.int .i64 (M.cellCode ⟨kind, num, text, key, n⟩)) ∧ Below w.heap.size w w' := by
  have hcode := hide (code_g3t kind num n text key h0 h1 h2 h3 h4 h5 h6)
  subst h0 h5
  go_enter Try.func37, Try.ntmps37
  go_wp2_with fail
  refine (l1In_yes _ _ _ _ (by omega) (by omega)).mono ?_; rintro e w' ⟨rfl, rfl⟩
  go_wp2_with fail
  refine (l1In_yes _ _ _ _ (by omega) (by omega)).mono ?_; rintro e w' ⟨rfl, rfl⟩
  go_wp2_with fail
  refine (l1In_yes _ _ _ _ (by omega) (by omega)).mono ?_; rintro e w' ⟨rfl, rfl⟩
  go_wp2_with fail
  refine (l1Text_any text _ ht).mono ?_; rintro e w' ⟨rfl, rfl⟩
  go_wp2_with fail
  go_ret
  refine ⟨ret_int (unhide hcode).symm, ?_⟩
  first | exact (Below.refl _ _).alloc (Nat.le_refl _) _ | exact ((Below.refl _ _).alloc (Nat.le_refl _) _).alloc (by simp) _

set_option maxHeartbeats 400000 in
theorem l1Cell_g3k (kind num n : Int) (text key : ByteArray) (w : World) (ht : text.size ≤ 9223372036854775807) (hk : key.size ≤ 9223372036854775807) (h0 : kind = 3) (h1 : num ≠ 0) (h2 : -1000000000000000 ≤ num) (h3 : num ≤ 1000000000000000) (h4 : text.toList = []) (h5 : n = 0) (h6 : M.textOk text = true) (h7 : M.textOk key = false) :
    Calls Try.prog 37 #[.agg #[.int .i64 kind, .int .i64 num, .string text, .string key, .int .i64 n]] w fun e w' => e = .returned (.int .i64 (M.cellCode ⟨kind, num, text, key, n⟩)) ∧ Below w.heap.size w w' := by
  have hcode := hide (code_g3k kind num n text key h0 h1 h2 h3 h4 h5 h6 h7)
  subst h0 h5
  go_enter Try.func37, Try.ntmps37
  go_wp2_with fail
  refine (l1In_yes _ _ _ _ (by omega) (by omega)).mono ?_; rintro e w' ⟨rfl, rfl⟩
  go_wp2_with fail
  refine (l1In_yes _ _ _ _ (by omega) (by omega)).mono ?_; rintro e w' ⟨rfl, rfl⟩
  go_wp2_with fail
  refine (l1In_yes _ _ _ _ (by omega) (by omega)).mono ?_; rintro e w' ⟨rfl, rfl⟩
  go_wp2_with fail
  refine (l1Text_any text _ ht).mono ?_; rintro e w' ⟨rfl, rfl⟩
  go_wp2_with fail
  refine (l1Text_any key _ hk).mono ?_; rintro e w' ⟨rfl, rfl⟩
  go_wp2_with fail
  go_ret
  refine ⟨ret_int (unhide hcode).symm, ?_⟩
  first | exact (Below.refl _ _).alloc (Nat.le_refl _) _ | exact ((Below.refl _ _).alloc (Nat.le_refl _) _).alloc (by simp) _

set_option maxHeartbeats 400000 in
theorem l1Cell_g3o (kind num n : Int) (text key : ByteArray) (w : World) (ht : text.size ≤ 9223372036854775807) (hk : key.size ≤ 9223372036854775807) (h0 : kind = 3) (h1 : num ≠ 0) (h2 : -1000000000000000 ≤ num) (h3 : num ≤ 1000000000000000) (h4 : text.toList = []) (h5 : n = 0) (h6 : M.textOk text = true) (h7 : M.textOk key = true) :
    Calls Try.prog 37 #[.agg #[.int .i64 kind, .int .i64 num, .string text, .string key, .int .i64 n]] w fun e w' => e = .returned (.int .i64 (M.cellCode ⟨kind, num, text, key, n⟩)) ∧ Below w.heap.size w w' := by
  have hcode := hide (code_g3o kind num n text key h0 h1 h2 h3 h4 h5 h6 h7)
  subst h0 h5
  go_enter Try.func37, Try.ntmps37
  go_wp2_with fail
  refine (l1In_yes _ _ _ _ (by omega) (by omega)).mono ?_; rintro e w' ⟨rfl, rfl⟩
  go_wp2_with fail
  refine (l1In_yes _ _ _ _ (by omega) (by omega)).mono ?_; rintro e w' ⟨rfl, rfl⟩
  go_wp2_with fail
  refine (l1In_yes _ _ _ _ (by omega) (by omega)).mono ?_; rintro e w' ⟨rfl, rfl⟩
  go_wp2_with fail
  refine (l1Text_any text _ ht).mono ?_; rintro e w' ⟨rfl, rfl⟩
  go_wp2_with fail
  refine (l1Text_any key _ hk).mono ?_; rintro e w' ⟨rfl, rfl⟩
  go_wp2_with fail
  go_ret
  refine ⟨ret_int (unhide hcode).symm, ?_⟩
  first | exact (Below.refl _ _).alloc (Nat.le_refl _) _ | exact ((Below.refl _ _).alloc (Nat.le_refl _) _).alloc (by simp) _

set_option maxHeartbeats 400000 in
theorem l1Cell_g4t (kind num n : Int) (text key : ByteArray) (w : World) (ht : text.size ≤ 9223372036854775807) (hk : key.size ≤ 9223372036854775807) (h0 : kind = 4) (h1 : num = 0) (h2 : text.toList ≠ []) (h3 : n = 0) (h4 : M.textOk text = false) :
    Calls Try.prog 37 #[.agg #[.int .i64 kind, .int .i64 num, .string text, .string key, .int .i64 n]] w fun e w' => e = .returned (.int .i64 (M.cellCode ⟨kind, num, text, key, n⟩)) ∧ Below w.heap.size w w' := by
  have hcode := hide (code_g4t kind num n text key h0 h1 h2 h3 h4)
  subst h0 h1 h3
  go_enter Try.func37, Try.ntmps37
  go_wp2_with fail
  refine (l1In_yes _ _ _ _ (by omega) (by omega)).mono ?_; rintro e w' ⟨rfl, rfl⟩
  go_wp2_with fail
  refine (l1In_yes _ _ _ _ (by omega) (by omega)).mono ?_; rintro e w' ⟨rfl, rfl⟩
  go_wp2_with fail
  refine (l1In_yes _ _ _ _ (by omega) (by omega)).mono ?_; rintro e w' ⟨rfl, rfl⟩
  go_wp2_with fail
  refine (l1Text_any text _ ht).mono ?_; rintro e w' ⟨rfl, rfl⟩
  go_wp2_with fail
  go_ret
  refine ⟨ret_int (unhide hcode).symm, ?_⟩
  first | exact (Below.refl _ _).alloc (Nat.le_refl _) _ | exact ((Below.refl _ _).alloc (Nat.le_refl _) _).alloc (by simp) _

set_option maxHeartbeats 400000 in
theorem l1Cell_g4k (kind num n : Int) (text key : ByteArray) (w : World) (ht : text.size ≤ 9223372036854775807) (hk : key.size ≤ 9223372036854775807) (h0 : kind = 4) (h1 : num = 0) (h2 : text.toList ≠ []) (h3 : n = 0) (h4 : M.textOk text = true) (h5 : M.textOk key = false) :
    Calls Try.prog 37 #[.agg #[.int .i64 kind, .int .i64 num, .string text, .string key, .int .i64 n]] w fun e w' => e = .returned (.int .i64 (M.cellCode ⟨kind, num, text, key, n⟩)) ∧ Below w.heap.size w w' := by
  have hcode := hide (code_g4k kind num n text key h0 h1 h2 h3 h4 h5)
  subst h0 h1 h3
  go_enter Try.func37, Try.ntmps37
  go_wp2_with fail
  refine (l1In_yes _ _ _ _ (by omega) (by omega)).mono ?_; rintro e w' ⟨rfl, rfl⟩
  go_wp2_with fail
  refine (l1In_yes _ _ _ _ (by omega) (by omega)).mono ?_; rintro e w' ⟨rfl, rfl⟩
  go_wp2_with fail
  refine (l1In_yes _ _ _ _ (by omega) (by omega)).mono ?_; rintro e w' ⟨rfl, rfl⟩
  go_wp2_with fail
  refine (l1Text_any text _ ht).mono ?_; rintro e w' ⟨rfl, rfl⟩
  go_wp2_with fail
  refine (l1Text_any key _ hk).mono ?_; rintro e w' ⟨rfl, rfl⟩
  go_wp2_with fail
  go_ret
  refine ⟨ret_int (unhide hcode).symm, ?_⟩
  first | exact (Below.refl _ _).alloc (Nat.le_refl _) _ | exact ((Below.refl _ _).alloc (Nat.le_refl _) _).alloc (by simp) _

set_option maxHeartbeats 400000 in
theorem l1Cell_g4o (kind num n : Int) (text key : ByteArray) (w : World) (ht : text.size ≤ 9223372036854775807) (hk : key.size ≤ 9223372036854775807) (h0 : kind = 4) (h1 : num = 0) (h2 : text.toList ≠ []) (h3 : n = 0) (h4 : M.textOk text = true) (h5 : M.textOk key = true) :
    Calls Try.prog 37 #[.agg #[.int .i64 kind, .int .i64 num, .string text, .string key, .int .i64 n]] w fun e w' => e = .returned (.int .i64 (M.cellCode ⟨kind, num, text, key, n⟩)) ∧ Below w.heap.size w w' := by
  have hcode := hide (code_g4o kind num n text key h0 h1 h2 h3 h4 h5)
  subst h0 h1 h3
  go_enter Try.func37, Try.ntmps37
  go_wp2_with fail
  refine (l1In_yes _ _ _ _ (by omega) (by omega)).mono ?_; rintro e w' ⟨rfl, rfl⟩
  go_wp2_with fail
  refine (l1In_yes _ _ _ _ (by omega) (by omega)).mono ?_; rintro e w' ⟨rfl, rfl⟩
  go_wp2_with fail
  refine (l1In_yes _ _ _ _ (by omega) (by omega)).mono ?_; rintro e w' ⟨rfl, rfl⟩
  go_wp2_with fail
  refine (l1Text_any text _ ht).mono ?_; rintro e w' ⟨rfl, rfl⟩
  go_wp2_with fail
  refine (l1Text_any key _ hk).mono ?_; rintro e w' ⟨rfl, rfl⟩
  go_wp2_with fail
  go_ret
  refine ⟨ret_int (unhide hcode).symm, ?_⟩
  first | exact (Below.refl _ _).alloc (Nat.le_refl _) _ | exact ((Below.refl _ _).alloc (Nat.le_refl _) _).alloc (by simp) _

set_option maxHeartbeats 400000 in
theorem l1Cell_g5t (kind num n : Int) (text key : ByteArray) (w : World) (ht : text.size ≤ 9223372036854775807) (hk : key.size ≤ 9223372036854775807) (h0 : kind = 5) (h1 : num = 0) (h2 : text.toList = []) (h3 : 0 < n) (h4 : n ≤ 200) (h5 : M.textOk text = false) :
    Calls Try.prog 37 #[.agg #[.int .i64 kind, .int .i64 num, .string text, .string key, .int .i64 n]] w fun e w' => e = .returned (.int .i64 (M.cellCode ⟨kind, num, text, key, n⟩)) ∧ Below w.heap.size w w' := by
  have hcode := hide (code_g5t kind num n text key h0 h1 h2 h3 h4 h5)
  subst h0 h1
  go_enter Try.func37, Try.ntmps37
  go_wp2_with fail
  refine (l1In_yes _ _ _ _ (by omega) (by omega)).mono ?_; rintro e w' ⟨rfl, rfl⟩
  go_wp2_with fail
  refine (l1Holds_yes _ _ _ _ _ _ (by omega)).mono ?_; rintro e w' ⟨rfl, rfl⟩
  go_wp2_with fail
  refine (l1In_yes _ _ _ _ (by omega) (by omega)).mono ?_; rintro e w' ⟨rfl, rfl⟩
  go_wp2_with fail
  refine (l1In_yes _ _ _ _ (by omega) (by omega)).mono ?_; rintro e w' ⟨rfl, rfl⟩
  go_wp2_with fail
  refine (l1Text_any text _ ht).mono ?_; rintro e w' ⟨rfl, rfl⟩
  go_wp2_with fail
  go_ret
  refine ⟨ret_int (unhide hcode).symm, ?_⟩
  first | exact (Below.refl _ _).alloc (Nat.le_refl _) _ | exact ((Below.refl _ _).alloc (Nat.le_refl _) _).alloc (by simp) _

set_option maxHeartbeats 400000 in
theorem l1Cell_g5k (kind num n : Int) (text key : ByteArray) (w : World) (ht : text.size ≤ 9223372036854775807) (hk : key.size ≤ 9223372036854775807) (h0 : kind = 5) (h1 : num = 0) (h2 : text.toList = []) (h3 : 0 < n) (h4 : n ≤ 200) (h5 : M.textOk text = true) (h6 : M.textOk key = false) :
    Calls Try.prog 37 #[.agg #[.int .i64 kind, .int .i64 num, .string text, .string key, .int .i64 n]] w fun e w' => e = .returned (.int .i64 (M.cellCode ⟨kind, num, text, key, n⟩)) ∧ Below w.heap.size w w' := by
  have hcode := hide (code_g5k kind num n text key h0 h1 h2 h3 h4 h5 h6)
  subst h0 h1
  go_enter Try.func37, Try.ntmps37
  go_wp2_with fail
  refine (l1In_yes _ _ _ _ (by omega) (by omega)).mono ?_; rintro e w' ⟨rfl, rfl⟩
  go_wp2_with fail
  refine (l1Holds_yes _ _ _ _ _ _ (by omega)).mono ?_; rintro e w' ⟨rfl, rfl⟩
  go_wp2_with fail
  refine (l1In_yes _ _ _ _ (by omega) (by omega)).mono ?_; rintro e w' ⟨rfl, rfl⟩
  go_wp2_with fail
  refine (l1In_yes _ _ _ _ (by omega) (by omega)).mono ?_; rintro e w' ⟨rfl, rfl⟩
  go_wp2_with fail
  refine (l1Text_any text _ ht).mono ?_; rintro e w' ⟨rfl, rfl⟩
  go_wp2_with fail
  refine (l1Text_any key _ hk).mono ?_; rintro e w' ⟨rfl, rfl⟩
  go_wp2_with fail
  go_ret
  refine ⟨ret_int (unhide hcode).symm, ?_⟩
  first | exact (Below.refl _ _).alloc (Nat.le_refl _) _ | exact ((Below.refl _ _).alloc (Nat.le_refl _) _).alloc (by simp) _

set_option maxHeartbeats 400000 in
theorem l1Cell_g5o (kind num n : Int) (text key : ByteArray) (w : World) (ht : text.size ≤ 9223372036854775807) (hk : key.size ≤ 9223372036854775807) (h0 : kind = 5) (h1 : num = 0) (h2 : text.toList = []) (h3 : 0 < n) (h4 : n ≤ 200) (h5 : M.textOk text = true) (h6 : M.textOk key = true) :
    Calls Try.prog 37 #[.agg #[.int .i64 kind, .int .i64 num, .string text, .string key, .int .i64 n]] w fun e w' => e = .returned (.int .i64 (M.cellCode ⟨kind, num, text, key, n⟩)) ∧ Below w.heap.size w w' := by
  have hcode := hide (code_g5o kind num n text key h0 h1 h2 h3 h4 h5 h6)
  subst h0 h1
  go_enter Try.func37, Try.ntmps37
  go_wp2_with fail
  refine (l1In_yes _ _ _ _ (by omega) (by omega)).mono ?_; rintro e w' ⟨rfl, rfl⟩
  go_wp2_with fail
  refine (l1Holds_yes _ _ _ _ _ _ (by omega)).mono ?_; rintro e w' ⟨rfl, rfl⟩
  go_wp2_with fail
  refine (l1In_yes _ _ _ _ (by omega) (by omega)).mono ?_; rintro e w' ⟨rfl, rfl⟩
  go_wp2_with fail
  refine (l1In_yes _ _ _ _ (by omega) (by omega)).mono ?_; rintro e w' ⟨rfl, rfl⟩
  go_wp2_with fail
  refine (l1Text_any text _ ht).mono ?_; rintro e w' ⟨rfl, rfl⟩
  go_wp2_with fail
  refine (l1Text_any key _ hk).mono ?_; rintro e w' ⟨rfl, rfl⟩
  go_wp2_with fail
  go_ret
  refine ⟨ret_int (unhide hcode).symm, ?_⟩
  first | exact (Below.refl _ _).alloc (Nat.le_refl _) _ | exact ((Below.refl _ _).alloc (Nat.le_refl _) _).alloc (by simp) _

set_option maxHeartbeats 400000 in
theorem l1Cell_g6t (kind num n : Int) (text key : ByteArray) (w : World) (ht : text.size ≤ 9223372036854775807) (hk : key.size ≤ 9223372036854775807) (h0 : kind = 6) (h1 : num = 0) (h2 : text.toList = []) (h3 : 0 < n) (h4 : n ≤ 200) (h5 : M.textOk text = false) :
    Calls Try.prog 37 #[.agg #[.int .i64 kind, .int .i64 num, .string text, .string key, .int .i64 n]] w fun e w' => e = .returned (.int .i64 (M.cellCode ⟨kind, num, text, key, n⟩)) ∧ Below w.heap.size w w' := by
  have hcode := hide (code_g6t kind num n text key h0 h1 h2 h3 h4 h5)
  subst h0 h1
  go_enter Try.func37, Try.ntmps37
  go_wp2_with fail
  refine (l1In_yes _ _ _ _ (by omega) (by omega)).mono ?_; rintro e w' ⟨rfl, rfl⟩
  go_wp2_with fail
  refine (l1Holds_yes _ _ _ _ _ _ (by omega)).mono ?_; rintro e w' ⟨rfl, rfl⟩
  go_wp2_with fail
  refine (l1In_yes _ _ _ _ (by omega) (by omega)).mono ?_; rintro e w' ⟨rfl, rfl⟩
  go_wp2_with fail
  refine (l1In_yes _ _ _ _ (by omega) (by omega)).mono ?_; rintro e w' ⟨rfl, rfl⟩
  go_wp2_with fail
  refine (l1Text_any text _ ht).mono ?_; rintro e w' ⟨rfl, rfl⟩
  go_wp2_with fail
  go_ret
  refine ⟨ret_int (unhide hcode).symm, ?_⟩
  first | exact (Below.refl _ _).alloc (Nat.le_refl _) _ | exact ((Below.refl _ _).alloc (Nat.le_refl _) _).alloc (by simp) _

set_option maxHeartbeats 400000 in
theorem l1Cell_g6k (kind num n : Int) (text key : ByteArray) (w : World) (ht : text.size ≤ 9223372036854775807) (hk : key.size ≤ 9223372036854775807) (h0 : kind = 6) (h1 : num = 0) (h2 : text.toList = []) (h3 : 0 < n) (h4 : n ≤ 200) (h5 : M.textOk text = true) (h6 : M.textOk key = false) :
    Calls Try.prog 37 #[.agg #[.int .i64 kind, .int .i64 num, .string text, .string key, .int .i64 n]] w fun e w' => e = .returned (.int .i64 (M.cellCode ⟨kind, num, text, key, n⟩)) ∧ Below w.heap.size w w' := by
  have hcode := hide (code_g6k kind num n text key h0 h1 h2 h3 h4 h5 h6)
  subst h0 h1
  go_enter Try.func37, Try.ntmps37
  go_wp2_with fail
  refine (l1In_yes _ _ _ _ (by omega) (by omega)).mono ?_; rintro e w' ⟨rfl, rfl⟩
  go_wp2_with fail
  refine (l1Holds_yes _ _ _ _ _ _ (by omega)).mono ?_; rintro e w' ⟨rfl, rfl⟩
  go_wp2_with fail
  refine (l1In_yes _ _ _ _ (by omega) (by omega)).mono ?_; rintro e w' ⟨rfl, rfl⟩
  go_wp2_with fail
  refine (l1In_yes _ _ _ _ (by omega) (by omega)).mono ?_; rintro e w' ⟨rfl, rfl⟩
  go_wp2_with fail
  refine (l1Text_any text _ ht).mono ?_; rintro e w' ⟨rfl, rfl⟩
  go_wp2_with fail
  refine (l1Text_any key _ hk).mono ?_; rintro e w' ⟨rfl, rfl⟩
  go_wp2_with fail
  go_ret
  refine ⟨ret_int (unhide hcode).symm, ?_⟩
  first | exact (Below.refl _ _).alloc (Nat.le_refl _) _ | exact ((Below.refl _ _).alloc (Nat.le_refl _) _).alloc (by simp) _

set_option maxHeartbeats 400000 in
theorem l1Cell_g6o (kind num n : Int) (text key : ByteArray) (w : World) (ht : text.size ≤ 9223372036854775807) (hk : key.size ≤ 9223372036854775807) (h0 : kind = 6) (h1 : num = 0) (h2 : text.toList = []) (h3 : 0 < n) (h4 : n ≤ 200) (h5 : M.textOk text = true) (h6 : M.textOk key = true) :
    Calls Try.prog 37 #[.agg #[.int .i64 kind, .int .i64 num, .string text, .string key, .int .i64 n]] w fun e w' => e = .returned (.int .i64 (M.cellCode ⟨kind, num, text, key, n⟩)) ∧ Below w.heap.size w w' := by
  have hcode := hide (code_g6o kind num n text key h0 h1 h2 h3 h4 h5 h6)
  subst h0 h1
  go_enter Try.func37, Try.ntmps37
  go_wp2_with fail
  refine (l1In_yes _ _ _ _ (by omega) (by omega)).mono ?_; rintro e w' ⟨rfl, rfl⟩
  go_wp2_with fail
  refine (l1Holds_yes _ _ _ _ _ _ (by omega)).mono ?_; rintro e w' ⟨rfl, rfl⟩
  go_wp2_with fail
  refine (l1In_yes _ _ _ _ (by omega) (by omega)).mono ?_; rintro e w' ⟨rfl, rfl⟩
  go_wp2_with fail
  refine (l1In_yes _ _ _ _ (by omega) (by omega)).mono ?_; rintro e w' ⟨rfl, rfl⟩
  go_wp2_with fail
  refine (l1Text_any text _ ht).mono ?_; rintro e w' ⟨rfl, rfl⟩
  go_wp2_with fail
  refine (l1Text_any key _ hk).mono ?_; rintro e w' ⟨rfl, rfl⟩
  go_wp2_with fail
  go_ret
  refine ⟨ret_int (unhide hcode).symm, ?_⟩
  first | exact (Below.refl _ _).alloc (Nat.le_refl _) _ | exact ((Below.refl _ _).alloc (Nat.le_refl _) _).alloc (by simp) _

theorem l1Cell_any (c : M.Cl) (w : World) (ht : c.text.size ≤ 9223372036854775807) (hk : c.key.size ≤ 9223372036854775807) :
    Calls Try.prog 37 #[c.agg] w fun e w' => e = .returned (.int .i64 (M.cellCode c)) ∧ Below w.heap.size w w' := by
  obtain ⟨kind, num, text, key, n⟩ := c
  exact split_cell kind num n text key _ (l1Cell_low kind num n text key w ht hk) (l1Cell_high kind num n text key w ht hk) (l1Cell_numA kind num n text key w ht hk) (l1Cell_txtA kind num n text key w ht hk) (l1Cell_txtB kind num n text key w ht hk) (l1Cell_nA kind num n text key w ht hk) (l1Cell_nB kind num n text key w ht hk) (l1Cell_nC kind num n text key w ht hk) (l1Cell_r3a kind num n text key w ht hk) (l1Cell_r3b kind num n text key w ht hk) (l1Cell_r5a kind num n text key w ht hk) (l1Cell_r5b kind num n text key w ht hk) (l1Cell_r6a kind num n text key w ht hk) (l1Cell_r6b kind num n text key w ht hk) (l1Cell_g0t kind num n text key w ht hk) (l1Cell_g0k kind num n text key w ht hk) (l1Cell_g0o kind num n text key w ht hk) (l1Cell_g3t kind num n text key w ht hk) (l1Cell_g3k kind num n text key w ht hk) (l1Cell_g3o kind num n text key w ht hk) (l1Cell_g4t kind num n text key w ht hk) (l1Cell_g4k kind num n text key w ht hk) (l1Cell_g4o kind num n text key w ht hk) (l1Cell_g5t kind num n text key w ht hk) (l1Cell_g5k kind num n text key w ht hk) (l1Cell_g5o kind num n text key w ht hk) (l1Cell_g6t kind num n text key w ht hk) (l1Cell_g6k kind num n text key w ht hk) (l1Cell_g6o kind num n text key w ht hk)

end Go.Proofs.Ytlmibdddfjbbdaa
