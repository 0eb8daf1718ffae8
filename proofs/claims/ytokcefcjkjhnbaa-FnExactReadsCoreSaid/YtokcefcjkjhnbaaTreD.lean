/-
  The model's small questions of a node: l1In, l5Kids, l5Texts, l5Nums, l5Kid, l5TextFits.
-/
import Derived.Test.YtokcefcjkjhnbaaTreN
import Derived.Test.YtokcefcjkjhnbaaText
namespace Go.Proofs.Ytokcefcjkjhnbaa
open Go.RowKit
set_option linter.unusedVariables false
set_option linter.unusedSimpArgs false

theorem l1In_tr (a lo hi : Int) (w : World) : Calls Try.prog 85 #[.int .i64 a, .int .i64 lo, .int .i64 hi] w fun e w' => e = .returned (.bool (decide (lo ≤ a) && decide (a ≤ hi))) ∧ w' = w := by
  by_cases h1 : lo ≤ a
  · by_cases h2 : a ≤ hi
    · go_enter Try.func85, Try.ntmps85
      go_wp2
      go_ret
      exact ⟨ret_bool (by first | simp [h1, h2] | (simp; omega)), rfl⟩
    · go_enter Try.func85, Try.ntmps85
      go_wp2
      go_ret
      exact ⟨ret_bool (by first | simp [h1, h2] | (simp; omega)), rfl⟩
  · go_enter Try.func85, Try.ntmps85
    go_wp2
    go_ret
    exact ⟨ret_bool (by simp; omega), rfl⟩

set_option maxHeartbeats 400000 in
theorem l5Kids_1 (w : World) : Calls Try.prog 98 #[.int .i64 1] w fun e w' => e = .returned (.int .i64 0) ∧ w' = w := by
  go_enter Try.func98, Try.ntmps98
  go_wp2_with fail
  go_ret
  exact ⟨rfl, rfl⟩

set_option maxHeartbeats 400000 in
theorem l5Kids_2 (w : World) : Calls Try.prog 98 #[.int .i64 2] w fun e w' => e = .returned (.int .i64 0) ∧ w' = w := by
  go_enter Try.func98, Try.ntmps98
  go_wp2_with fail
  go_ret
  exact ⟨rfl, rfl⟩

set_option maxHeartbeats 400000 in
theorem l5Kids_3 (w : World) : Calls Try.prog 98 #[.int .i64 3] w fun e w' => e = .returned (.int .i64 0) ∧ w' = w := by
  go_enter Try.func98, Try.ntmps98
  go_wp2_with fail
  go_ret
  exact ⟨rfl, rfl⟩

set_option maxHeartbeats 400000 in
theorem l5Kids_4 (w : World) : Calls Try.prog 98 #[.int .i64 4] w fun e w' => e = .returned (.int .i64 0) ∧ w' = w := by
  go_enter Try.func98, Try.ntmps98
  go_wp2_with fail
  go_ret
  exact ⟨rfl, rfl⟩

set_option maxHeartbeats 400000 in
theorem l5Kids_5 (w : World) : Calls Try.prog 98 #[.int .i64 5] w fun e w' => e = .returned (.int .i64 2) ∧ w' = w := by
  go_enter Try.func98, Try.ntmps98
  go_wp2_with fail
  go_ret
  exact ⟨rfl, rfl⟩

set_option maxHeartbeats 400000 in
theorem l5Kids_6 (w : World) : Calls Try.prog 98 #[.int .i64 6] w fun e w' => e = .returned (.int .i64 2) ∧ w' = w := by
  go_enter Try.func98, Try.ntmps98
  go_wp2_with fail
  go_ret
  exact ⟨rfl, rfl⟩

set_option maxHeartbeats 400000 in
theorem l5Kids_7 (w : World) : Calls Try.prog 98 #[.int .i64 7] w fun e w' => e = .returned (.int .i64 2) ∧ w' = w := by
  go_enter Try.func98, Try.ntmps98
  go_wp2_with fail
  go_ret
  exact ⟨rfl, rfl⟩

set_option maxHeartbeats 400000 in
theorem l5Kids_8 (w : World) : Calls Try.prog 98 #[.int .i64 8] w fun e w' => e = .returned (.int .i64 2) ∧ w' = w := by
  go_enter Try.func98, Try.ntmps98
  go_wp2_with fail
  go_ret
  exact ⟨rfl, rfl⟩

set_option maxHeartbeats 400000 in
theorem l5Kids_9 (w : World) : Calls Try.prog 98 #[.int .i64 9] w fun e w' => e = .returned (.int .i64 2) ∧ w' = w := by
  go_enter Try.func98, Try.ntmps98
  go_wp2_with fail
  go_ret
  exact ⟨rfl, rfl⟩

set_option maxHeartbeats 400000 in
theorem l5Kids_10 (w : World) : Calls Try.prog 98 #[.int .i64 10] w fun e w' => e = .returned (.int .i64 2) ∧ w' = w := by
  go_enter Try.func98, Try.ntmps98
  go_wp2_with fail
  go_ret
  exact ⟨rfl, rfl⟩

set_option maxHeartbeats 400000 in
theorem l5Kids_11 (w : World) : Calls Try.prog 98 #[.int .i64 11] w fun e w' => e = .returned (.int .i64 2) ∧ w' = w := by
  go_enter Try.func98, Try.ntmps98
  go_wp2_with fail
  go_ret
  exact ⟨rfl, rfl⟩

set_option maxHeartbeats 400000 in
theorem l5Kids_12 (w : World) : Calls Try.prog 98 #[.int .i64 12] w fun e w' => e = .returned (.int .i64 1) ∧ w' = w := by
  go_enter Try.func98, Try.ntmps98
  go_wp2_with fail
  go_ret
  exact ⟨rfl, rfl⟩

set_option maxHeartbeats 400000 in
theorem l5Kids_13 (w : World) : Calls Try.prog 98 #[.int .i64 13] w fun e w' => e = .returned (.int .i64 1) ∧ w' = w := by
  go_enter Try.func98, Try.ntmps98
  go_wp2_with fail
  go_ret
  exact ⟨rfl, rfl⟩

set_option maxHeartbeats 400000 in
theorem l5Kids_14 (w : World) : Calls Try.prog 98 #[.int .i64 14] w fun e w' => e = .returned (.int .i64 1) ∧ w' = w := by
  go_enter Try.func98, Try.ntmps98
  go_wp2_with fail
  go_ret
  exact ⟨rfl, rfl⟩

set_option maxHeartbeats 400000 in
theorem l5Kids_15 (w : World) : Calls Try.prog 98 #[.int .i64 15] w fun e w' => e = .returned (.int .i64 0) ∧ w' = w := by
  go_enter Try.func98, Try.ntmps98
  go_wp2_with fail
  go_ret
  exact ⟨rfl, rfl⟩

set_option maxHeartbeats 400000 in
theorem l5Kids_16 (w : World) : Calls Try.prog 98 #[.int .i64 16] w fun e w' => e = .returned (.int .i64 0) ∧ w' = w := by
  go_enter Try.func98, Try.ntmps98
  go_wp2_with fail
  go_ret
  exact ⟨rfl, rfl⟩

set_option maxHeartbeats 400000 in
theorem l5Kids_17 (w : World) : Calls Try.prog 98 #[.int .i64 17] w fun e w' => e = .returned (.int .i64 2) ∧ w' = w := by
  go_enter Try.func98, Try.ntmps98
  go_wp2_with fail
  go_ret
  exact ⟨rfl, rfl⟩

set_option maxHeartbeats 400000 in
theorem l5Kids_18 (w : World) : Calls Try.prog 98 #[.int .i64 18] w fun e w' => e = .returned (.int .i64 3) ∧ w' = w := by
  go_enter Try.func98, Try.ntmps98
  go_wp2_with fail
  go_ret
  exact ⟨rfl, rfl⟩

set_option maxHeartbeats 400000 in
theorem l5Kids_19 (w : World) : Calls Try.prog 98 #[.int .i64 19] w fun e w' => e = .returned (.int .i64 3) ∧ w' = w := by
  go_enter Try.func98, Try.ntmps98
  go_wp2_with fail
  go_ret
  exact ⟨rfl, rfl⟩

set_option maxHeartbeats 400000 in
theorem l5Kids_20 (w : World) : Calls Try.prog 98 #[.int .i64 20] w fun e w' => e = .returned (.int .i64 2) ∧ w' = w := by
  go_enter Try.func98, Try.ntmps98
  go_wp2_with fail
  go_ret
  exact ⟨rfl, rfl⟩

set_option maxHeartbeats 400000 in
theorem l5Kids_21 (w : World) : Calls Try.prog 98 #[.int .i64 21] w fun e w' => e = .returned (.int .i64 0) ∧ w' = w := by
  go_enter Try.func98, Try.ntmps98
  go_wp2_with fail
  go_ret
  exact ⟨rfl, rfl⟩

set_option maxHeartbeats 400000 in
theorem l5Kids_22 (w : World) : Calls Try.prog 98 #[.int .i64 22] w fun e w' => e = .returned (.int .i64 0) ∧ w' = w := by
  go_enter Try.func98, Try.ntmps98
  go_wp2_with fail
  go_ret
  exact ⟨rfl, rfl⟩

set_option maxHeartbeats 400000 in
theorem l5Kids_23 (w : World) : Calls Try.prog 98 #[.int .i64 23] w fun e w' => e = .returned (.int .i64 1) ∧ w' = w := by
  go_enter Try.func98, Try.ntmps98
  go_wp2_with fail
  go_ret
  exact ⟨rfl, rfl⟩

set_option maxHeartbeats 400000 in
theorem l5Kids_24 (w : World) : Calls Try.prog 98 #[.int .i64 24] w fun e w' => e = .returned (.int .i64 0) ∧ w' = w := by
  go_enter Try.func98, Try.ntmps98
  go_wp2_with fail
  go_ret
  exact ⟨rfl, rfl⟩

theorem l5Kids_any (op : Int) (w : World) (h1 : 1 ≤ op) (h2 : op ≤ 24) : Calls Try.prog 98 #[.int .i64 op] w fun e w' => e = .returned (.int .i64 (Tr.kids op)) ∧ w' = w := by
  have h : op = 1 ∨ op = 2 ∨ op = 3 ∨ op = 4 ∨ op = 5 ∨ op = 6 ∨ op = 7 ∨ op = 8 ∨ op = 9 ∨ op = 10 ∨ op = 11 ∨ op = 12 ∨ op = 13 ∨ op = 14 ∨ op = 15 ∨ op = 16 ∨ op = 17 ∨ op = 18 ∨ op = 19 ∨ op = 20 ∨ op = 21 ∨ op = 22 ∨ op = 23 ∨ op = 24 := by omega
  rcases h with rfl | rfl | rfl | rfl | rfl | rfl | rfl | rfl | rfl | rfl | rfl | rfl | rfl | rfl | rfl | rfl | rfl | rfl | rfl | rfl | rfl | rfl | rfl | rfl
  · exact l5Kids_1 w
  · exact l5Kids_2 w
  · exact l5Kids_3 w
  · exact l5Kids_4 w
  · exact l5Kids_5 w
  · exact l5Kids_6 w
  · exact l5Kids_7 w
  · exact l5Kids_8 w
  · exact l5Kids_9 w
  · exact l5Kids_10 w
  · exact l5Kids_11 w
  · exact l5Kids_12 w
  · exact l5Kids_13 w
  · exact l5Kids_14 w
  · exact l5Kids_15 w
  · exact l5Kids_16 w
  · exact l5Kids_17 w
  · exact l5Kids_18 w
  · exact l5Kids_19 w
  · exact l5Kids_20 w
  · exact l5Kids_21 w
  · exact l5Kids_22 w
  · exact l5Kids_23 w
  · exact l5Kids_24 w

set_option maxHeartbeats 400000 in
theorem l5Texts_1 (w : World) : Calls Try.prog 96 #[.int .i64 1] w fun e w' => e = .returned (.bool false) ∧ w' = w := by
  go_enter Try.func96, Try.ntmps96
  go_wp2_with fail
  go_ret
  exact ⟨rfl, rfl⟩

set_option maxHeartbeats 400000 in
theorem l5Texts_2 (w : World) : Calls Try.prog 96 #[.int .i64 2] w fun e w' => e = .returned (.bool false) ∧ w' = w := by
  go_enter Try.func96, Try.ntmps96
  go_wp2_with fail
  go_ret
  exact ⟨rfl, rfl⟩

set_option maxHeartbeats 400000 in
theorem l5Texts_3 (w : World) : Calls Try.prog 96 #[.int .i64 3] w fun e w' => e = .returned (.bool true) ∧ w' = w := by
  go_enter Try.func96, Try.ntmps96
  go_wp2_with fail
  go_ret
  exact ⟨rfl, rfl⟩

set_option maxHeartbeats 400000 in
theorem l5Texts_4 (w : World) : Calls Try.prog 96 #[.int .i64 4] w fun e w' => e = .returned (.bool false) ∧ w' = w := by
  go_enter Try.func96, Try.ntmps96
  go_wp2_with fail
  go_ret
  exact ⟨rfl, rfl⟩

set_option maxHeartbeats 400000 in
theorem l5Texts_5 (w : World) : Calls Try.prog 96 #[.int .i64 5] w fun e w' => e = .returned (.bool false) ∧ w' = w := by
  go_enter Try.func96, Try.ntmps96
  go_wp2_with fail
  go_ret
  exact ⟨rfl, rfl⟩

set_option maxHeartbeats 400000 in
theorem l5Texts_6 (w : World) : Calls Try.prog 96 #[.int .i64 6] w fun e w' => e = .returned (.bool false) ∧ w' = w := by
  go_enter Try.func96, Try.ntmps96
  go_wp2_with fail
  go_ret
  exact ⟨rfl, rfl⟩

set_option maxHeartbeats 400000 in
theorem l5Texts_7 (w : World) : Calls Try.prog 96 #[.int .i64 7] w fun e w' => e = .returned (.bool false) ∧ w' = w := by
  go_enter Try.func96, Try.ntmps96
  go_wp2_with fail
  go_ret
  exact ⟨rfl, rfl⟩

set_option maxHeartbeats 400000 in
theorem l5Texts_8 (w : World) : Calls Try.prog 96 #[.int .i64 8] w fun e w' => e = .returned (.bool false) ∧ w' = w := by
  go_enter Try.func96, Try.ntmps96
  go_wp2_with fail
  go_ret
  exact ⟨rfl, rfl⟩

set_option maxHeartbeats 400000 in
theorem l5Texts_9 (w : World) : Calls Try.prog 96 #[.int .i64 9] w fun e w' => e = .returned (.bool false) ∧ w' = w := by
  go_enter Try.func96, Try.ntmps96
  go_wp2_with fail
  go_ret
  exact ⟨rfl, rfl⟩

set_option maxHeartbeats 400000 in
theorem l5Texts_10 (w : World) : Calls Try.prog 96 #[.int .i64 10] w fun e w' => e = .returned (.bool false) ∧ w' = w := by
  go_enter Try.func96, Try.ntmps96
  go_wp2_with fail
  go_ret
  exact ⟨rfl, rfl⟩

set_option maxHeartbeats 400000 in
theorem l5Texts_11 (w : World) : Calls Try.prog 96 #[.int .i64 11] w fun e w' => e = .returned (.bool false) ∧ w' = w := by
  go_enter Try.func96, Try.ntmps96
  go_wp2_with fail
  go_ret
  exact ⟨rfl, rfl⟩

set_option maxHeartbeats 400000 in
theorem l5Texts_12 (w : World) : Calls Try.prog 96 #[.int .i64 12] w fun e w' => e = .returned (.bool false) ∧ w' = w := by
  go_enter Try.func96, Try.ntmps96
  go_wp2_with fail
  go_ret
  exact ⟨rfl, rfl⟩

set_option maxHeartbeats 400000 in
theorem l5Texts_13 (w : World) : Calls Try.prog 96 #[.int .i64 13] w fun e w' => e = .returned (.bool false) ∧ w' = w := by
  go_enter Try.func96, Try.ntmps96
  go_wp2_with fail
  go_ret
  exact ⟨rfl, rfl⟩

set_option maxHeartbeats 400000 in
theorem l5Texts_14 (w : World) : Calls Try.prog 96 #[.int .i64 14] w fun e w' => e = .returned (.bool false) ∧ w' = w := by
  go_enter Try.func96, Try.ntmps96
  go_wp2_with fail
  go_ret
  exact ⟨rfl, rfl⟩

set_option maxHeartbeats 400000 in
theorem l5Texts_15 (w : World) : Calls Try.prog 96 #[.int .i64 15] w fun e w' => e = .returned (.bool false) ∧ w' = w := by
  go_enter Try.func96, Try.ntmps96
  go_wp2_with fail
  go_ret
  exact ⟨rfl, rfl⟩

set_option maxHeartbeats 400000 in
theorem l5Texts_16 (w : World) : Calls Try.prog 96 #[.int .i64 16] w fun e w' => e = .returned (.bool false) ∧ w' = w := by
  go_enter Try.func96, Try.ntmps96
  go_wp2_with fail
  go_ret
  exact ⟨rfl, rfl⟩

set_option maxHeartbeats 400000 in
theorem l5Texts_17 (w : World) : Calls Try.prog 96 #[.int .i64 17] w fun e w' => e = .returned (.bool true) ∧ w' = w := by
  go_enter Try.func96, Try.ntmps96
  go_wp2_with fail
  go_ret
  exact ⟨rfl, rfl⟩

set_option maxHeartbeats 400000 in
theorem l5Texts_18 (w : World) : Calls Try.prog 96 #[.int .i64 18] w fun e w' => e = .returned (.bool false) ∧ w' = w := by
  go_enter Try.func96, Try.ntmps96
  go_wp2_with fail
  go_ret
  exact ⟨rfl, rfl⟩

set_option maxHeartbeats 400000 in
theorem l5Texts_19 (w : World) : Calls Try.prog 96 #[.int .i64 19] w fun e w' => e = .returned (.bool true) ∧ w' = w := by
  go_enter Try.func96, Try.ntmps96
  go_wp2_with fail
  go_ret
  exact ⟨rfl, rfl⟩

set_option maxHeartbeats 400000 in
theorem l5Texts_20 (w : World) : Calls Try.prog 96 #[.int .i64 20] w fun e w' => e = .returned (.bool true) ∧ w' = w := by
  go_enter Try.func96, Try.ntmps96
  go_wp2_with fail
  go_ret
  exact ⟨rfl, rfl⟩

set_option maxHeartbeats 400000 in
theorem l5Texts_21 (w : World) : Calls Try.prog 96 #[.int .i64 21] w fun e w' => e = .returned (.bool true) ∧ w' = w := by
  go_enter Try.func96, Try.ntmps96
  go_wp2_with fail
  go_ret
  exact ⟨rfl, rfl⟩

set_option maxHeartbeats 400000 in
theorem l5Texts_22 (w : World) : Calls Try.prog 96 #[.int .i64 22] w fun e w' => e = .returned (.bool true) ∧ w' = w := by
  go_enter Try.func96, Try.ntmps96
  go_wp2_with fail
  go_ret
  exact ⟨rfl, rfl⟩

set_option maxHeartbeats 400000 in
theorem l5Texts_23 (w : World) : Calls Try.prog 96 #[.int .i64 23] w fun e w' => e = .returned (.bool true) ∧ w' = w := by
  go_enter Try.func96, Try.ntmps96
  go_wp2_with fail
  go_ret
  exact ⟨rfl, rfl⟩

set_option maxHeartbeats 400000 in
theorem l5Texts_24 (w : World) : Calls Try.prog 96 #[.int .i64 24] w fun e w' => e = .returned (.bool false) ∧ w' = w := by
  go_enter Try.func96, Try.ntmps96
  go_wp2_with fail
  go_ret
  exact ⟨rfl, rfl⟩

theorem l5Texts_any (op : Int) (w : World) (h1 : 1 ≤ op) (h2 : op ≤ 24) : Calls Try.prog 96 #[.int .i64 op] w fun e w' => e = .returned (.bool (Tr.texts op)) ∧ w' = w := by
  have h : op = 1 ∨ op = 2 ∨ op = 3 ∨ op = 4 ∨ op = 5 ∨ op = 6 ∨ op = 7 ∨ op = 8 ∨ op = 9 ∨ op = 10 ∨ op = 11 ∨ op = 12 ∨ op = 13 ∨ op = 14 ∨ op = 15 ∨ op = 16 ∨ op = 17 ∨ op = 18 ∨ op = 19 ∨ op = 20 ∨ op = 21 ∨ op = 22 ∨ op = 23 ∨ op = 24 := by omega
  rcases h with rfl | rfl | rfl | rfl | rfl | rfl | rfl | rfl | rfl | rfl | rfl | rfl | rfl | rfl | rfl | rfl | rfl | rfl | rfl | rfl | rfl | rfl | rfl | rfl
  · exact l5Texts_1 w
  · exact l5Texts_2 w
  · exact l5Texts_3 w
  · exact l5Texts_4 w
  · exact l5Texts_5 w
  · exact l5Texts_6 w
  · exact l5Texts_7 w
  · exact l5Texts_8 w
  · exact l5Texts_9 w
  · exact l5Texts_10 w
  · exact l5Texts_11 w
  · exact l5Texts_12 w
  · exact l5Texts_13 w
  · exact l5Texts_14 w
  · exact l5Texts_15 w
  · exact l5Texts_16 w
  · exact l5Texts_17 w
  · exact l5Texts_18 w
  · exact l5Texts_19 w
  · exact l5Texts_20 w
  · exact l5Texts_21 w
  · exact l5Texts_22 w
  · exact l5Texts_23 w
  · exact l5Texts_24 w

set_option maxHeartbeats 400000 in
theorem l5Nums_1 (w : World) : Calls Try.prog 95 #[.int .i64 1] w fun e w' => e = .returned (.tuple #[.int .i64 0, .int .i64 0]) ∧ w' = w := by
  go_enter Try.func95, Try.ntmps95
  go_wp2_with fail
  go_ret2
  exact ⟨rfl, rfl⟩

set_option maxHeartbeats 400000 in
theorem l5Nums_2 (w : World) : Calls Try.prog 95 #[.int .i64 2] w fun e w' => e = .returned (.tuple #[.int .i64 0, .int .i64 1000000000000000]) ∧ w' = w := by
  go_enter Try.func95, Try.ntmps95
  go_wp2_with fail
  go_ret2
  exact ⟨rfl, rfl⟩

set_option maxHeartbeats 400000 in
theorem l5Nums_3 (w : World) : Calls Try.prog 95 #[.int .i64 3] w fun e w' => e = .returned (.tuple #[.int .i64 0, .int .i64 0]) ∧ w' = w := by
  go_enter Try.func95, Try.ntmps95
  go_wp2_with fail
  go_ret2
  exact ⟨rfl, rfl⟩

set_option maxHeartbeats 400000 in
theorem l5Nums_4 (w : World) : Calls Try.prog 95 #[.int .i64 4] w fun e w' => e = .returned (.tuple #[.int .i64 0, .int .i64 2]) ∧ w' = w := by
  go_enter Try.func95, Try.ntmps95
  go_wp2_with fail
  go_ret2
  exact ⟨rfl, rfl⟩

set_option maxHeartbeats 400000 in
theorem l5Nums_5 (w : World) : Calls Try.prog 95 #[.int .i64 5] w fun e w' => e = .returned (.tuple #[.int .i64 0, .int .i64 0]) ∧ w' = w := by
  go_enter Try.func95, Try.ntmps95
  go_wp2_with fail
  go_ret2
  exact ⟨rfl, rfl⟩

set_option maxHeartbeats 400000 in
theorem l5Nums_6 (w : World) : Calls Try.prog 95 #[.int .i64 6] w fun e w' => e = .returned (.tuple #[.int .i64 0, .int .i64 0]) ∧ w' = w := by
  go_enter Try.func95, Try.ntmps95
  go_wp2_with fail
  go_ret2
  exact ⟨rfl, rfl⟩

set_option maxHeartbeats 400000 in
theorem l5Nums_7 (w : World) : Calls Try.prog 95 #[.int .i64 7] w fun e w' => e = .returned (.tuple #[.int .i64 0, .int .i64 0]) ∧ w' = w := by
  go_enter Try.func95, Try.ntmps95
  go_wp2_with fail
  go_ret2
  exact ⟨rfl, rfl⟩

set_option maxHeartbeats 400000 in
theorem l5Nums_8 (w : World) : Calls Try.prog 95 #[.int .i64 8] w fun e w' => e = .returned (.tuple #[.int .i64 0, .int .i64 0]) ∧ w' = w := by
  go_enter Try.func95, Try.ntmps95
  go_wp2_with fail
  go_ret2
  exact ⟨rfl, rfl⟩

set_option maxHeartbeats 400000 in
theorem l5Nums_9 (w : World) : Calls Try.prog 95 #[.int .i64 9] w fun e w' => e = .returned (.tuple #[.int .i64 0, .int .i64 0]) ∧ w' = w := by
  go_enter Try.func95, Try.ntmps95
  go_wp2_with fail
  go_ret2
  exact ⟨rfl, rfl⟩

set_option maxHeartbeats 400000 in
theorem l5Nums_10 (w : World) : Calls Try.prog 95 #[.int .i64 10] w fun e w' => e = .returned (.tuple #[.int .i64 1, .int .i64 11]) ∧ w' = w := by
  go_enter Try.func95, Try.ntmps95
  go_wp2_with fail
  go_ret2
  exact ⟨rfl, rfl⟩

set_option maxHeartbeats 400000 in
theorem l5Nums_11 (w : World) : Calls Try.prog 95 #[.int .i64 11] w fun e w' => e = .returned (.tuple #[.int .i64 0, .int .i64 0]) ∧ w' = w := by
  go_enter Try.func95, Try.ntmps95
  go_wp2_with fail
  go_ret2
  exact ⟨rfl, rfl⟩

set_option maxHeartbeats 400000 in
theorem l5Nums_12 (w : World) : Calls Try.prog 95 #[.int .i64 12] w fun e w' => e = .returned (.tuple #[.int .i64 0, .int .i64 0]) ∧ w' = w := by
  go_enter Try.func95, Try.ntmps95
  go_wp2_with fail
  go_ret2
  exact ⟨rfl, rfl⟩

set_option maxHeartbeats 400000 in
theorem l5Nums_13 (w : World) : Calls Try.prog 95 #[.int .i64 13] w fun e w' => e = .returned (.tuple #[.int .i64 0, .int .i64 0]) ∧ w' = w := by
  go_enter Try.func95, Try.ntmps95
  go_wp2_with fail
  go_ret2
  exact ⟨rfl, rfl⟩

set_option maxHeartbeats 400000 in
theorem l5Nums_14 (w : World) : Calls Try.prog 95 #[.int .i64 14] w fun e w' => e = .returned (.tuple #[.int .i64 0, .int .i64 0]) ∧ w' = w := by
  go_enter Try.func95, Try.ntmps95
  go_wp2_with fail
  go_ret2
  exact ⟨rfl, rfl⟩

set_option maxHeartbeats 400000 in
theorem l5Nums_15 (w : World) : Calls Try.prog 95 #[.int .i64 15] w fun e w' => e = .returned (.tuple #[.int .i64 0, .int .i64 0]) ∧ w' = w := by
  go_enter Try.func95, Try.ntmps95
  go_wp2_with fail
  go_ret2
  exact ⟨rfl, rfl⟩

set_option maxHeartbeats 400000 in
theorem l5Nums_16 (w : World) : Calls Try.prog 95 #[.int .i64 16] w fun e w' => e = .returned (.tuple #[.int .i64 0, .int .i64 0]) ∧ w' = w := by
  go_enter Try.func95, Try.ntmps95
  go_wp2_with fail
  go_ret2
  exact ⟨rfl, rfl⟩

set_option maxHeartbeats 400000 in
theorem l5Nums_17 (w : World) : Calls Try.prog 95 #[.int .i64 17] w fun e w' => e = .returned (.tuple #[.int .i64 0, .int .i64 0]) ∧ w' = w := by
  go_enter Try.func95, Try.ntmps95
  go_wp2_with fail
  go_ret2
  exact ⟨rfl, rfl⟩

set_option maxHeartbeats 400000 in
theorem l5Nums_18 (w : World) : Calls Try.prog 95 #[.int .i64 18] w fun e w' => e = .returned (.tuple #[.int .i64 0, .int .i64 0]) ∧ w' = w := by
  go_enter Try.func95, Try.ntmps95
  go_wp2_with fail
  go_ret2
  exact ⟨rfl, rfl⟩

set_option maxHeartbeats 400000 in
theorem l5Nums_19 (w : World) : Calls Try.prog 95 #[.int .i64 19] w fun e w' => e = .returned (.tuple #[.int .i64 0, .int .i64 0]) ∧ w' = w := by
  go_enter Try.func95, Try.ntmps95
  go_wp2_with fail
  go_ret2
  exact ⟨rfl, rfl⟩

set_option maxHeartbeats 400000 in
theorem l5Nums_20 (w : World) : Calls Try.prog 95 #[.int .i64 20] w fun e w' => e = .returned (.tuple #[.int .i64 0, .int .i64 0]) ∧ w' = w := by
  go_enter Try.func95, Try.ntmps95
  go_wp2_with fail
  go_ret2
  exact ⟨rfl, rfl⟩

set_option maxHeartbeats 400000 in
theorem l5Nums_21 (w : World) : Calls Try.prog 95 #[.int .i64 21] w fun e w' => e = .returned (.tuple #[.int .i64 0, .int .i64 0]) ∧ w' = w := by
  go_enter Try.func95, Try.ntmps95
  go_wp2_with fail
  go_ret2
  exact ⟨rfl, rfl⟩

set_option maxHeartbeats 400000 in
theorem l5Nums_22 (w : World) : Calls Try.prog 95 #[.int .i64 22] w fun e w' => e = .returned (.tuple #[.int .i64 0, .int .i64 0]) ∧ w' = w := by
  go_enter Try.func95, Try.ntmps95
  go_wp2_with fail
  go_ret2
  exact ⟨rfl, rfl⟩

set_option maxHeartbeats 400000 in
theorem l5Nums_23 (w : World) : Calls Try.prog 95 #[.int .i64 23] w fun e w' => e = .returned (.tuple #[.int .i64 0, .int .i64 0]) ∧ w' = w := by
  go_enter Try.func95, Try.ntmps95
  go_wp2_with fail
  go_ret2
  exact ⟨rfl, rfl⟩

set_option maxHeartbeats 400000 in
theorem l5Nums_24 (w : World) : Calls Try.prog 95 #[.int .i64 24] w fun e w' => e = .returned (.tuple #[.int .i64 0, .int .i64 0]) ∧ w' = w := by
  go_enter Try.func95, Try.ntmps95
  go_wp2_with fail
  go_ret2
  exact ⟨rfl, rfl⟩

theorem l5Nums_any (op : Int) (w : World) (h1 : 1 ≤ op) (h2 : op ≤ 24) : Calls Try.prog 95 #[.int .i64 op] w fun e w' => e = .returned (.tuple #[.int .i64 (Tr.low op), .int .i64 (Tr.high op)]) ∧ w' = w := by
  have h : op = 1 ∨ op = 2 ∨ op = 3 ∨ op = 4 ∨ op = 5 ∨ op = 6 ∨ op = 7 ∨ op = 8 ∨ op = 9 ∨ op = 10 ∨ op = 11 ∨ op = 12 ∨ op = 13 ∨ op = 14 ∨ op = 15 ∨ op = 16 ∨ op = 17 ∨ op = 18 ∨ op = 19 ∨ op = 20 ∨ op = 21 ∨ op = 22 ∨ op = 23 ∨ op = 24 := by omega
  rcases h with rfl | rfl | rfl | rfl | rfl | rfl | rfl | rfl | rfl | rfl | rfl | rfl | rfl | rfl | rfl | rfl | rfl | rfl | rfl | rfl | rfl | rfl | rfl | rfl
  · exact l5Nums_1 w
  · exact l5Nums_2 w
  · exact l5Nums_3 w
  · exact l5Nums_4 w
  · exact l5Nums_5 w
  · exact l5Nums_6 w
  · exact l5Nums_7 w
  · exact l5Nums_8 w
  · exact l5Nums_9 w
  · exact l5Nums_10 w
  · exact l5Nums_11 w
  · exact l5Nums_12 w
  · exact l5Nums_13 w
  · exact l5Nums_14 w
  · exact l5Nums_15 w
  · exact l5Nums_16 w
  · exact l5Nums_17 w
  · exact l5Nums_18 w
  · exact l5Nums_19 w
  · exact l5Nums_20 w
  · exact l5Nums_21 w
  · exact l5Nums_22 w
  · exact l5Nums_23 w
  · exact l5Nums_24 w

namespace Tr
def kidAt (n : Nd) (k : Nat) : Int := if k = 0 then n.a else if k = 1 then n.b else n.c
theorem links_all {n : Nd} {ks i : Nat} (h : ∀ j, j < 3 → one (decide (j < ks)) (kidAt n j) i = true) : linksOk ks n.a n.b n.c i = true := by
  unfold linksOk
  have h0 := h 0 (by omega)
  have h1 := h 1 (by omega)
  have h2 := h 2 (by omega)
  simp only [kidAt] at h0 h1 h2
  simp only [Bool.and_eq_true]
  exact ⟨h0, h1, h2⟩
theorem links_bad {n : Nd} {ks i j : Nat} (hj : j < 3) (h : one (decide (j < ks)) (kidAt n j) i = false) : linksOk ks n.a n.b n.c i = false := by
  unfold linksOk
  have hh : j = 0 ∨ j = 1 ∨ j = 2 := by omega
  rcases hh with rfl | rfl | rfl
  · have h0 : one (decide (0 < ks)) n.a i = false := h
    rw [h0, Bool.false_and]
  · have h0 : one (decide (1 < ks)) n.b i = false := h
    rw [h0, Bool.false_and, Bool.and_false]
  · have h0 : one (decide (2 < ks)) n.c i = false := h
    rw [h0, Bool.and_false, Bool.and_false]
/-- The places that a node names are those of its first kids. -/
theorem links_kidAt (n : Nd) : links n = (List.range (kids n.op)).map (kidAt n) := by
  have hk := kids_le n.op
  unfold links
  match e : kids n.op, hk with
  | 0, _ => rfl
  | 1, _ => rfl
  | 2, _ => rfl
  | 3, _ => rfl
end Tr

set_option maxHeartbeats 400000 in
theorem l5Kid_0 (n : Nd) (w : World) : Calls Try.prog 97 #[n.agg, .int .i64 0] w fun e w' => e = .returned (.int .i64 n.a) ∧ Below w.heap.size w w' := by
  have HB : Hid (∀ o, Below w.heap.size w (w.alloc o)) := fun o => (Below.refl _ _).alloc (Nat.le_refl _) o
  unfold Nd.agg
  go_enter Try.func97, Try.ntmps97
  go_wp2_with fail
  go_ret
  first | exact ⟨rfl, HB.out _⟩ | exact ⟨rfl, Below.refl _ _⟩

set_option maxHeartbeats 400000 in
theorem l5Kid_1 (n : Nd) (w : World) : Calls Try.prog 97 #[n.agg, .int .i64 1] w fun e w' => e = .returned (.int .i64 n.b) ∧ Below w.heap.size w w' := by
  have HB : Hid (∀ o, Below w.heap.size w (w.alloc o)) := fun o => (Below.refl _ _).alloc (Nat.le_refl _) o
  unfold Nd.agg
  go_enter Try.func97, Try.ntmps97
  go_wp2_with fail
  go_ret
  first | exact ⟨rfl, HB.out _⟩ | exact ⟨rfl, Below.refl _ _⟩

set_option maxHeartbeats 400000 in
theorem l5Kid_2 (n : Nd) (w : World) : Calls Try.prog 97 #[n.agg, .int .i64 2] w fun e w' => e = .returned (.int .i64 n.c) ∧ Below w.heap.size w w' := by
  have HB : Hid (∀ o, Below w.heap.size w (w.alloc o)) := fun o => (Below.refl _ _).alloc (Nat.le_refl _) o
  unfold Nd.agg
  go_enter Try.func97, Try.ntmps97
  go_wp2_with fail
  go_ret
  first | exact ⟨rfl, HB.out _⟩ | exact ⟨rfl, Below.refl _ _⟩

theorem l5Kid_any (n : Nd) (k : Nat) (hk : k < 3) (w : World) : Calls Try.prog 97 #[n.agg, .int .i64 k] w fun e w' => e = .returned (.int .i64 (Tr.kidAt n k)) ∧ Below w.heap.size w w' := by
  have hh : k = 0 ∨ k = 1 ∨ k = 2 := by omega
  rcases hh with rfl | rfl | rfl
  · exact l5Kid_0 n w
  · exact l5Kid_1 n w
  · exact l5Kid_2 n w

set_option maxHeartbeats 1000000 in
theorem l5TextFits_3 (a_ b_ c_ num_ : Int) (text_ : ByteArray) (w : World) (hsz : text_.size ≤ 1048576) : Calls Try.prog 99 #[.agg #[.int .i64 3, .int .i64 a_, .int .i64 b_, .int .i64 c_, .int .i64 num_, .string text_]] w fun e w' => e = .returned (.bool (M.textOk text_)) ∧ Below w.heap.size w w' := by
  have HB : Hid (∀ o, Below w.heap.size w (w.alloc o)) := fun o => (Below.refl _ _).alloc (Nat.le_refl _) o
  go_enter Try.func99, Try.ntmps99
  go_wp2_with fail
  refine (l1Text_any text_ _ (by omega)).mono ?_
  rintro e w1 ⟨rfl, hw1⟩
  subst hw1
  go_wp2_with fail
  go_ret
  exact ⟨rfl, HB.out _⟩

set_option maxHeartbeats 1000000 in
theorem l5TextFits_17 (a_ b_ c_ num_ : Int) (text_ : ByteArray) (w : World) (hsz : text_.size ≤ 1048576) : Calls Try.prog 99 #[.agg #[.int .i64 17, .int .i64 a_, .int .i64 b_, .int .i64 c_, .int .i64 num_, .string text_]] w fun e w' => e = .returned (.bool (M.textOk text_)) ∧ Below w.heap.size w w' := by
  have HB : Hid (∀ o, Below w.heap.size w (w.alloc o)) := fun o => (Below.refl _ _).alloc (Nat.le_refl _) o
  go_enter Try.func99, Try.ntmps99
  go_wp2_with fail
  refine (l1Text_any text_ _ (by omega)).mono ?_
  rintro e w1 ⟨rfl, hw1⟩
  subst hw1
  go_wp2_with fail
  go_ret
  exact ⟨rfl, HB.out _⟩

set_option maxHeartbeats 1000000 in
theorem l5TextFits_19 (a_ b_ c_ num_ : Int) (text_ : ByteArray) (w : World) (hsz : text_.size ≤ 1048576) : Calls Try.prog 99 #[.agg #[.int .i64 19, .int .i64 a_, .int .i64 b_, .int .i64 c_, .int .i64 num_, .string text_]] w fun e w' => e = .returned (.bool (J.isName text_)) ∧ Below w.heap.size w w' := by
  have HB : Hid (∀ o, Below w.heap.size w (w.alloc o)) := fun o => (Below.refl _ _).alloc (Nat.le_refl _) o
  go_enter Try.func99, Try.ntmps99
  go_wp2_with fail
  refine (specIsName_any text_ _ hsz).mono ?_
  rintro e w1 ⟨rfl, hw1⟩
  subst hw1
  go_wp2_with fail
  go_ret
  exact ⟨rfl, HB.out _⟩

set_option maxHeartbeats 1000000 in
theorem l5TextFits_20 (a_ b_ c_ num_ : Int) (text_ : ByteArray) (w : World) (hsz : text_.size ≤ 1048576) : Calls Try.prog 99 #[.agg #[.int .i64 20, .int .i64 a_, .int .i64 b_, .int .i64 c_, .int .i64 num_, .string text_]] w fun e w' => e = .returned (.bool (J.isName text_)) ∧ Below w.heap.size w w' := by
  have HB : Hid (∀ o, Below w.heap.size w (w.alloc o)) := fun o => (Below.refl _ _).alloc (Nat.le_refl _) o
  go_enter Try.func99, Try.ntmps99
  go_wp2_with fail
  refine (specIsName_any text_ _ hsz).mono ?_
  rintro e w1 ⟨rfl, hw1⟩
  subst hw1
  go_wp2_with fail
  go_ret
  exact ⟨rfl, HB.out _⟩

set_option maxHeartbeats 1000000 in
theorem l5TextFits_21 (a_ b_ c_ num_ : Int) (text_ : ByteArray) (w : World) (hsz : text_.size ≤ 1048576) : Calls Try.prog 99 #[.agg #[.int .i64 21, .int .i64 a_, .int .i64 b_, .int .i64 c_, .int .i64 num_, .string text_]] w fun e w' => e = .returned (.bool (J.isName text_)) ∧ Below w.heap.size w w' := by
  have HB : Hid (∀ o, Below w.heap.size w (w.alloc o)) := fun o => (Below.refl _ _).alloc (Nat.le_refl _) o
  go_enter Try.func99, Try.ntmps99
  go_wp2_with fail
  refine (specIsName_any text_ _ hsz).mono ?_
  rintro e w1 ⟨rfl, hw1⟩
  subst hw1
  go_wp2_with fail
  go_ret
  exact ⟨rfl, HB.out _⟩

set_option maxHeartbeats 1000000 in
theorem l5TextFits_22 (a_ b_ c_ num_ : Int) (text_ : ByteArray) (w : World) (hsz : text_.size ≤ 1048576) : Calls Try.prog 99 #[.agg #[.int .i64 22, .int .i64 a_, .int .i64 b_, .int .i64 c_, .int .i64 num_, .string text_]] w fun e w' => e = .returned (.bool (J.isName text_ && !oneOf theWords text_)) ∧ Below w.heap.size w w' := by
  have HB : Hid (∀ o, Below w.heap.size w (w.alloc o)) := fun o => (Below.refl _ _).alloc (Nat.le_refl _) o
  go_enter Try.func99, Try.ntmps99
  go_wp2_with fail
  refine (specIsName_any text_ _ hsz).mono ?_
  rintro e w1 ⟨rfl, hw1⟩
  subst hw1
  cases hn : J.isName text_ with
  | false =>
    go_wp2_with fail
    go_ret
    exact ⟨ret_bool (by rw [hn]; rfl), HB.out _⟩
  | true =>
    go_wp2_with fail
    refine (specIsWord_any text_ _).mono ?_
    rintro e w2 ⟨rfl, hb2⟩
    have B2 : Below w.heap.size w w2 := (HB.out _).trans (hb2.mono (HB.out _).size)
    go_wp2_with fail
    go_ret
    exact ⟨ret_bool (by rw [hn]; first | rfl | simp), B2⟩

set_option maxHeartbeats 1000000 in
theorem l5TextFits_23 (a_ b_ c_ num_ : Int) (text_ : ByteArray) (w : World) (hsz : text_.size ≤ 1048576) : Calls Try.prog 99 #[.agg #[.int .i64 23, .int .i64 a_, .int .i64 b_, .int .i64 c_, .int .i64 num_, .string text_]] w fun e w' => e = .returned (.bool (J.isName text_ && !oneOf theWords text_)) ∧ Below w.heap.size w w' := by
  have HB : Hid (∀ o, Below w.heap.size w (w.alloc o)) := fun o => (Below.refl _ _).alloc (Nat.le_refl _) o
  go_enter Try.func99, Try.ntmps99
  go_wp2_with fail
  refine (specIsName_any text_ _ hsz).mono ?_
  rintro e w1 ⟨rfl, hw1⟩
  subst hw1
  cases hn : J.isName text_ with
  | false =>
    go_wp2_with fail
    go_ret
    exact ⟨ret_bool (by rw [hn]; rfl), HB.out _⟩
  | true =>
    go_wp2_with fail
    refine (specIsWord_any text_ _).mono ?_
    rintro e w2 ⟨rfl, hb2⟩
    have B2 : Below w.heap.size w w2 := (HB.out _).trans (hb2.mono (HB.out _).size)
    go_wp2_with fail
    go_ret
    exact ⟨ret_bool (by rw [hn]; first | rfl | simp), B2⟩

set_option maxHeartbeats 1000000 in
theorem l5TextFits_none (op a_ b_ c_ num_ : Int) (text_ : ByteArray) (w : World) (h3 : (op == 3) = false) (h17 : (op == 17) = false) (h19 : (op == 19) = false) (h20 : (op == 20) = false) (h21 : (op == 21) = false) (h22 : (op == 22) = false) (h23 : (op == 23) = false) (ht : text_.toList = []) : Calls Try.prog 99 #[.agg #[.int .i64 op, .int .i64 a_, .int .i64 b_, .int .i64 c_, .int .i64 num_, .string text_]] w fun e w' => e = .returned (.bool true) ∧ Below w.heap.size w w' := by
  have HB : Hid (∀ o, Below w.heap.size w (w.alloc o)) := fun o => (Below.refl _ _).alloc (Nat.le_refl _) o
  go_enter Try.func99, Try.ntmps99
  go_wp2_with fail
  go_ret
  exact ⟨ret_bool (by first | rfl | simp [ht] | (rw [ht]; rfl)), HB.out _⟩

theorem l5TextFits_any (n : Nd) (w : World) (hsz : n.text.size ≤ 1048576) (h : Tr.texts n.op = true ∨ n.text.toList = []) : Calls Try.prog 99 #[n.agg] w fun e w' => e = .returned (.bool (Tr.fits n.op n.text)) ∧ Below w.heap.size w w' := by
  obtain ⟨op, a_, b_, c_, num_, text_⟩ := n
  unfold Nd.agg
  show Calls Try.prog 99 #[.agg #[.int .i64 op, .int .i64 a_, .int .i64 b_, .int .i64 c_, .int .i64 num_, .string text_]] w fun e w' => e = .returned (.bool (Tr.fits op text_)) ∧ Below w.heap.size w w'
  replace hsz : text_.size ≤ 1048576 := hsz
  replace h : Tr.texts op = true ∨ text_.toList = [] := h
  by_cases h1 : op = 3 ∨ op = 17 ∨ op = 19 ∨ op = 20 ∨ op = 21 ∨ op = 22 ∨ op = 23
  · rcases h1 with rfl | rfl | rfl | rfl | rfl | rfl | rfl
    · exact l5TextFits_3 a_ b_ c_ num_ text_ w hsz
    · exact l5TextFits_17 a_ b_ c_ num_ text_ w hsz
    · exact l5TextFits_19 a_ b_ c_ num_ text_ w hsz
    · exact l5TextFits_20 a_ b_ c_ num_ text_ w hsz
    · exact l5TextFits_21 a_ b_ c_ num_ text_ w hsz
    · exact l5TextFits_22 a_ b_ c_ num_ text_ w hsz
    · exact l5TextFits_23 a_ b_ c_ num_ text_ w hsz
  · have hT : Tr.texts op = false := by simp [Tr.texts]; omega
    rw [hT] at h
    have ht : text_.toList = [] := by rcases h with h | h; exact absurd h (by decide); exact h
    have hF : Tr.fits op text_ = true := by unfold Tr.fits; rw [if_neg (by omega), if_neg (by omega), if_neg (by omega)]
    rw [hF]
    exact l5TextFits_none op a_ b_ c_ num_ text_ w (by simp; omega) (by simp; omega) (by simp; omega) (by simp; omega) (by simp; omega) (by simp; omega) (by simp; omega) ht

end Go.Proofs.Ytokcefcjkjhnbaa
