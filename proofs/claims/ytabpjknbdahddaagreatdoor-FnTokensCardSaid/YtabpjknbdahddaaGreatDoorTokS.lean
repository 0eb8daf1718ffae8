/-
  spec.TokenText: it answers what J.tokOut says.
-/
import Derived.Test.YtabpjknbdahddaaGreatDoorTokM
import Derived.Test.YtabpjknbdahddaaGreatDoorNamT
import Derived.Test.YtabpjknbdahddaaGreatDoorDigT
namespace Go.Proofs.YtabpjknbdahddaaGreatDoor
open Go.RowKit
set_option linter.unusedVariables false
set_option linter.unusedSimpArgs false

set_option maxHeartbeats 1000000 in
theorem l1In_tok (a lo hi : Int) (w : World) : Calls Tryz.prog 44 #[.int .i64 a, .int .i64 lo, .int .i64 hi] w fun e w' => e = .returned (.bool (decide (lo ≤ a) && decide (a ≤ hi))) ∧ w' = w := by
  by_cases h1 : lo ≤ a
  · by_cases h2 : a ≤ hi
    · go_enter Tryz.func44, Tryz.ntmps44
      go_wp2
      go_ret
      exact ⟨ret_bool (by first | simp [h1, h2] | (simp; omega)), rfl⟩
    · go_enter Tryz.func44, Tryz.ntmps44
      go_wp2
      go_ret
      exact ⟨ret_bool (by first | simp [h1, h2] | (simp; omega)), rfl⟩
  · go_enter Tryz.func44, Tryz.ntmps44
    go_wp2
    go_ret
    exact ⟨ret_bool (by simp; omega), rfl⟩
theorem in_yes {a lo hi : Int} (h1 : lo ≤ a) (h2 : a ≤ hi) : (decide (lo ≤ a) && decide (a ≤ hi)) = true := by simp [h1, h2]
theorem in_no {a lo hi : Int} (h : a < lo ∨ hi < a) : (decide (lo ≤ a) && decide (a ≤ hi)) = false := by simp; omega
theorem marks_at (w : World) : ∀ k, k < theMarks.length → (w.alloc (.cells (theMarks.map Value.string).toArray 9)).cell? ⟨w.heap.size, k, none⟩ = some (.string (theMarks.getD k ByteArray.empty)) := by
  intro k hk
  have ho : Own (w.alloc (.cells (theMarks.map Value.string).toArray 9)) w.heap.size 9 (theMarks.map Value.string) := ⟨_, heap_alloc_new _ _, by simp⟩
  rw [ho.cell k, List.getElem?_map, List.getElem?_eq_getElem hk, List.getD_eq_getElem?_getD, List.getElem?_eq_getElem hk]
  rfl

set_option maxHeartbeats 1000000 in
theorem l4Fits_1 (a n : Int) (s : ByteArray) (w : World) (hs : s.size ≤ 1048576) : Calls Tryz.prog 45 #[.agg #[.int .i64 1, .int .i64 a, .int .i64 n, .string s]] w fun e w' => e = .returned (.bool (J.tokFits 1 s)) ∧ Below w.heap.size w w' := by
  have B0 : Hid (∀ o, Below w.heap.size w (w.alloc o)) := fun o => (Below.refl _ _).alloc (Nat.le_refl _) o
  go_enter Tryz.func45, Tryz.ntmps45
  go_wp2_with fail
  go_ret
  exact ⟨rfl, B0.out _⟩

set_option maxHeartbeats 1000000 in
theorem l4Fits_2 (a n : Int) (s : ByteArray) (w : World) (hs : s.size ≤ 1048576) : Calls Tryz.prog 45 #[.agg #[.int .i64 2, .int .i64 a, .int .i64 n, .string s]] w fun e w' => e = .returned (.bool (J.tokFits 2 s)) ∧ Below w.heap.size w w' := by
  have B0 : Hid (∀ o, Below w.heap.size w (w.alloc o)) := fun o => (Below.refl _ _).alloc (Nat.le_refl _) o
  have HT := hide (fun w => l1Text_any s w (by omega))
  go_enter Tryz.func45, Tryz.ntmps45
  go_wp2_with fail
  refine ((unhide HT) _).mono ?_
  rintro e w1 ⟨rfl, rfl⟩
  go_wp2_with fail
  go_ret
  exact ⟨rfl, B0.out _⟩
theorem textOk_size2 {s : ByteArray} (h : J.tokFits 2 s = true) : s.size ≤ 60 := by
  have h : M.textOk s = true := h
  unfold M.textOk at h
  simp only [Bool.and_eq_true, decide_eq_true_eq] at h
  exact h.1
theorem marks_two (w : World) (o : Obj) : ∀ k, k < theMarks.length → ((w.alloc o).alloc (.cells (theMarks.map Value.string).toArray 9)).cell? ⟨w.heap.size + 1, k, none⟩ = some (.string (theMarks.getD k ByteArray.empty)) := by
  intro k hk
  rw [show w.heap.size + 1 = (w.alloc o).heap.size by simp]
  exact marks_at (w.alloc o) k hk

set_option maxHeartbeats 1000000 in
theorem l4Fits_6 (a n : Int) (s : ByteArray) (w : World) (hs : s.size ≤ 1048576) : Calls Tryz.prog 45 #[.agg #[.int .i64 6, .int .i64 a, .int .i64 n, .string s]] w fun e w' => e = .returned (.bool (J.tokFits 6 s)) ∧ Below w.heap.size w w' := by
  have B0 : Hid (∀ o, Below w.heap.size w (w.alloc o)) := fun o => (Below.refl _ _).alloc (Nat.le_refl _) o
  have HB : Hid (∀ o, Below w.heap.size w ((w.alloc (.cells #[.int .i64 6, .int .i64 a, .int .i64 n, .string s] 33)).alloc o)) := fun o => (B0.out _).alloc (by simp) o
  go_enter Tryz.func45, Tryz.ntmps45
  go_wp2_with fail
  go_region_with (first | (go_at_call 81; refine (l4Marks_any _).mono ?_; rintro e w1 ⟨rfl, hw1⟩; subst hw1) | (go_at_call 89; refine (l4Among_any _ 25 25 theMarks s _ rfl (by decide) ?_ (Nat.le_refl _)).mono ?_; exact marks_two w _; rintro e w2 ⟨rfl, hw2⟩; subst hw2))
  all_goals
    go_wp2_with fail
    go_ret
    exact ⟨rfl, (HB.out _).drew⟩

set_option maxHeartbeats 1000000 in
theorem l4Fits_3 (a n : Int) (s : ByteArray) (w : World) (hs : s.size ≤ 1048576) : Calls Tryz.prog 45 #[.agg #[.int .i64 3, .int .i64 a, .int .i64 n, .string s]] w fun e w' => e = .returned (.bool (J.tokFits 3 s)) ∧ Below w.heap.size w w' := by
  have B0 : Hid (∀ o, Below w.heap.size w (w.alloc o)) := fun o => (Below.refl _ _).alloc (Nat.le_refl _) o
  have HT := hide (fun w => specIsName_any s w (by omega))
  go_enter Tryz.func45, Tryz.ntmps45
  go_wp2_with fail
  refine ((unhide HT) _).mono ?_
  rintro e w1 ⟨rfl, rfl⟩
  go_wp2_with fail
  go_ret
  exact ⟨rfl, B0.out _⟩

set_option maxHeartbeats 1000000 in
theorem l4Fits_4 (a n : Int) (s : ByteArray) (w : World) (hs : s.size ≤ 1048576) : Calls Tryz.prog 45 #[.agg #[.int .i64 4, .int .i64 a, .int .i64 n, .string s]] w fun e w' => e = .returned (.bool (J.tokFits 4 s)) ∧ Below w.heap.size w w' := by
  have B0 : Hid (∀ o, Below w.heap.size w (w.alloc o)) := fun o => (Below.refl _ _).alloc (Nat.le_refl _) o
  have HT := hide (fun w => specIsName_any s w (by omega))
  go_enter Tryz.func45, Tryz.ntmps45
  go_wp2_with fail
  refine ((unhide HT) _).mono ?_
  rintro e w1 ⟨rfl, rfl⟩
  go_wp2_with fail
  go_ret
  exact ⟨rfl, B0.out _⟩

set_option maxHeartbeats 1000000 in
theorem l4Fits_5 (a n : Int) (s : ByteArray) (w : World) (hs : s.size ≤ 1048576) : Calls Tryz.prog 45 #[.agg #[.int .i64 5, .int .i64 a, .int .i64 n, .string s]] w fun e w' => e = .returned (.bool (J.tokFits 5 s)) ∧ Below w.heap.size w w' := by
  have B0 : Hid (∀ o, Below w.heap.size w (w.alloc o)) := fun o => (Below.refl _ _).alloc (Nat.le_refl _) o
  have HT := hide (fun w => specIsName_any s w (by omega))
  go_enter Tryz.func45, Tryz.ntmps45
  go_wp2_with fail
  refine ((unhide HT) _).mono ?_
  rintro e w1 ⟨rfl, rfl⟩
  go_wp2_with fail
  go_ret
  exact ⟨rfl, B0.out _⟩

set_option maxHeartbeats 1000000 in
theorem l4Text_1 (a n : Int) (s : ByteArray) (w : World) (h0 : 0 ≤ n) (h1 : n ≤ 1000000000000000) : Calls Tryz.prog 46 #[.agg #[.int .i64 1, .int .i64 a, .int .i64 n, .string s]] w fun e w' => e = .returned (.string (J.tokText 1 n s)) ∧ Below w.heap.size w w' := by
  have B0 : Hid (∀ o, Below w.heap.size w (w.alloc o)) := fun o => (Below.refl _ _).alloc (Nat.le_refl _) o
  obtain ⟨u, rfl⟩ : ∃ u : Nat, n = (u : Int) := ⟨n.toNat, by omega⟩
  have HD := hide (l2Digits_any u (by omega))
  go_enter Tryz.func46, Tryz.ntmps46
  go_wp2_with fail
  refine ((unhide HD) _).mono ?_
  rintro e w1 ⟨rfl, hb1⟩
  have B1 := (B0.out (.cells #[.int .i64 1, .int .i64 a, .int .i64 u, .string s] 33)).trans (hb1.mono (by simp))
  clear hb1
  go_wp2_with fail
  go_ret
  exact ⟨ret_string (by unfold J.tokText; rw [if_pos rfl, Int.toNat_natCast]), B1⟩

set_option maxHeartbeats 1000000 in
theorem l4Text_2 (a n : Int) (s : ByteArray) (w : World) (hs : s.size ≤ 60) : Calls Tryz.prog 46 #[.agg #[.int .i64 2, .int .i64 a, .int .i64 n, .string s]] w fun e w' => e = .returned (.string (J.tokText 2 n s)) ∧ Below w.heap.size w w' := by
  have B0 : Hid (∀ o, Below w.heap.size w (w.alloc o)) := fun o => (Below.refl _ _).alloc (Nat.le_refl _) o
  have HD := hide (fun w => l2Quote_any s w hs)
  go_enter Tryz.func46, Tryz.ntmps46
  go_wp2_with fail
  refine ((unhide HD) _).mono ?_
  rintro e w1 ⟨rfl, rfl⟩
  go_wp2_with fail
  go_ret
  exact ⟨rfl, B0.out _⟩

set_option maxHeartbeats 1000000 in
theorem l4Text_3 (a n : Int) (s : ByteArray) (w : World) (hs : s.size ≤ 1048576) : Calls Tryz.prog 46 #[.agg #[.int .i64 3, .int .i64 a, .int .i64 n, .string s]] w fun e w' => e = .returned (.string (J.tokText 3 n s)) ∧ Below w.heap.size w w' := by
  have B0 : Hid (∀ o, Below w.heap.size w (w.alloc o)) := fun o => (Below.refl _ _).alloc (Nat.le_refl _) o
  go_enter Tryz.func46, Tryz.ntmps46
  go_wp2_with fail
  go_ret
  exact ⟨rfl, B0.out _⟩

set_option maxHeartbeats 1000000 in
theorem l4Text_4 (a n : Int) (s : ByteArray) (w : World) (hs : s.size ≤ 1048576) : Calls Tryz.prog 46 #[.agg #[.int .i64 4, .int .i64 a, .int .i64 n, .string s]] w fun e w' => e = .returned (.string (J.tokText 4 n s)) ∧ Below w.heap.size w w' := by
  have B0 : Hid (∀ o, Below w.heap.size w (w.alloc o)) := fun o => (Below.refl _ _).alloc (Nat.le_refl _) o
  go_enter Tryz.func46, Tryz.ntmps46
  go_wp2_with fail
  go_ret
  exact ⟨rfl, B0.out _⟩

set_option maxHeartbeats 1000000 in
theorem l4Text_5 (a n : Int) (s : ByteArray) (w : World) (hs : s.size ≤ 1048576) : Calls Tryz.prog 46 #[.agg #[.int .i64 5, .int .i64 a, .int .i64 n, .string s]] w fun e w' => e = .returned (.string (J.tokText 5 n s)) ∧ Below w.heap.size w w' := by
  have B0 : Hid (∀ o, Below w.heap.size w (w.alloc o)) := fun o => (Below.refl _ _).alloc (Nat.le_refl _) o
  go_enter Tryz.func46, Tryz.ntmps46
  go_wp2_with fail
  go_ret
  exact ⟨rfl, B0.out _⟩

set_option maxHeartbeats 1000000 in
theorem l4Text_6 (a n : Int) (s : ByteArray) (w : World) (hs : s.size ≤ 1048576) : Calls Tryz.prog 46 #[.agg #[.int .i64 6, .int .i64 a, .int .i64 n, .string s]] w fun e w' => e = .returned (.string (J.tokText 6 n s)) ∧ Below w.heap.size w w' := by
  have B0 : Hid (∀ o, Below w.heap.size w (w.alloc o)) := fun o => (Below.refl _ _).alloc (Nat.le_refl _) o
  go_enter Tryz.func46, Tryz.ntmps46
  go_wp2_with fail
  go_ret
  exact ⟨rfl, B0.out _⟩

set_option maxRecDepth 100000 in
set_option maxHeartbeats 1000000 in
theorem specTok_kind (k a n : Int) (s : ByteArray) (w : World) (hs : s.size ≤ 1048576) (h : k < 1 ∨ 6 < k) : Calls Tryz.prog 19 #[.agg #[.int .i64 k, .int .i64 a, .int .i64 n, .string s]] w fun e w' => e = .returned (.agg #[.int .i64 (J.tokOut k n s).1, .string (J.tokOut k n s).2]) ∧ Below w.heap.size w w' := by
  have B0 : Hid (∀ o, Below w.heap.size w (w.alloc o)) := fun o => (Below.refl _ _).alloc (Nat.le_refl _) o
  have fin := hide (J.tokOut_kind n s h)
  have hin := in_no h
  go_enter Tryz.func19, Tryz.ntmps19
  go_wp2_with fail
  refine (l1In_tok _ _ _ _).mono ?_
  rintro e w1 ⟨rfl, hw1⟩
  subst hw1
  rw [hin]
  clear hin h
  go_wp2_with fail
  refine bodyPost_ret (v := .agg #[.int .i64 6, .string ByteArray.empty]) (by simp [results, Tryz.results19, go_sem]; rfl) rfl ⟨by rw [unhide fin], ?_⟩
  exact (B0.out _).alloc (by simp) _

set_option maxRecDepth 100000 in
set_option maxHeartbeats 1000000 in
theorem specTok_num_2 (a n : Int) (s : ByteArray) (w : World) (hs : s.size ≤ 1048576) (hn : n ≠ 0) : Calls Tryz.prog 19 #[.agg #[.int .i64 2, .int .i64 a, .int .i64 n, .string s]] w fun e w' => e = .returned (.agg #[.int .i64 (J.tokOut 2 n s).1, .string (J.tokOut 2 n s).2]) ∧ Below w.heap.size w w' := by
  have B0 : Hid (∀ o, Below w.heap.size w (w.alloc o)) := fun o => (Below.refl _ _).alloc (Nat.le_refl _) o
  have fin := hide (J.tokOut_num (k := 2) s (by omega) (by omega) hn)
  have hin : (decide ((1 : Int) ≤ 2) && decide ((2 : Int) ≤ 6)) = true := by decide
  have hnz : (n != 0) = true := by simpa using hn
  go_enter Tryz.func19, Tryz.ntmps19
  go_wp2_with fail
  refine (l1In_tok _ _ _ _).mono ?_
  rintro e w1 ⟨rfl, hw1⟩
  subst hw1
  rw [hin]
  clear hin hn
  go_wp2_with fail
  refine bodyPost_ret (v := .agg #[.int .i64 1, .string ByteArray.empty]) (by simp [results, Tryz.results19, go_sem]; rfl) rfl ⟨by rw [unhide fin], ?_⟩
  exact (B0.out _).alloc (by simp) _

set_option maxRecDepth 100000 in
set_option maxHeartbeats 1000000 in
theorem specTok_num_3 (a n : Int) (s : ByteArray) (w : World) (hs : s.size ≤ 1048576) (hn : n ≠ 0) : Calls Tryz.prog 19 #[.agg #[.int .i64 3, .int .i64 a, .int .i64 n, .string s]] w fun e w' => e = .returned (.agg #[.int .i64 (J.tokOut 3 n s).1, .string (J.tokOut 3 n s).2]) ∧ Below w.heap.size w w' := by
  have B0 : Hid (∀ o, Below w.heap.size w (w.alloc o)) := fun o => (Below.refl _ _).alloc (Nat.le_refl _) o
  have fin := hide (J.tokOut_num (k := 3) s (by omega) (by omega) hn)
  have hin : (decide ((1 : Int) ≤ 3) && decide ((3 : Int) ≤ 6)) = true := by decide
  have hnz : (n != 0) = true := by simpa using hn
  go_enter Tryz.func19, Tryz.ntmps19
  go_wp2_with fail
  refine (l1In_tok _ _ _ _).mono ?_
  rintro e w1 ⟨rfl, hw1⟩
  subst hw1
  rw [hin]
  clear hin hn
  go_wp2_with fail
  refine bodyPost_ret (v := .agg #[.int .i64 1, .string ByteArray.empty]) (by simp [results, Tryz.results19, go_sem]; rfl) rfl ⟨by rw [unhide fin], ?_⟩
  exact (B0.out _).alloc (by simp) _

set_option maxRecDepth 100000 in
set_option maxHeartbeats 1000000 in
theorem specTok_num_4 (a n : Int) (s : ByteArray) (w : World) (hs : s.size ≤ 1048576) (hn : n ≠ 0) : Calls Tryz.prog 19 #[.agg #[.int .i64 4, .int .i64 a, .int .i64 n, .string s]] w fun e w' => e = .returned (.agg #[.int .i64 (J.tokOut 4 n s).1, .string (J.tokOut 4 n s).2]) ∧ Below w.heap.size w w' := by
  have B0 : Hid (∀ o, Below w.heap.size w (w.alloc o)) := fun o => (Below.refl _ _).alloc (Nat.le_refl _) o
  have fin := hide (J.tokOut_num (k := 4) s (by omega) (by omega) hn)
  have hin : (decide ((1 : Int) ≤ 4) && decide ((4 : Int) ≤ 6)) = true := by decide
  have hnz : (n != 0) = true := by simpa using hn
  go_enter Tryz.func19, Tryz.ntmps19
  go_wp2_with fail
  refine (l1In_tok _ _ _ _).mono ?_
  rintro e w1 ⟨rfl, hw1⟩
  subst hw1
  rw [hin]
  clear hin hn
  go_wp2_with fail
  refine bodyPost_ret (v := .agg #[.int .i64 1, .string ByteArray.empty]) (by simp [results, Tryz.results19, go_sem]; rfl) rfl ⟨by rw [unhide fin], ?_⟩
  exact (B0.out _).alloc (by simp) _

set_option maxRecDepth 100000 in
set_option maxHeartbeats 1000000 in
theorem specTok_num_5 (a n : Int) (s : ByteArray) (w : World) (hs : s.size ≤ 1048576) (hn : n ≠ 0) : Calls Tryz.prog 19 #[.agg #[.int .i64 5, .int .i64 a, .int .i64 n, .string s]] w fun e w' => e = .returned (.agg #[.int .i64 (J.tokOut 5 n s).1, .string (J.tokOut 5 n s).2]) ∧ Below w.heap.size w w' := by
  have B0 : Hid (∀ o, Below w.heap.size w (w.alloc o)) := fun o => (Below.refl _ _).alloc (Nat.le_refl _) o
  have fin := hide (J.tokOut_num (k := 5) s (by omega) (by omega) hn)
  have hin : (decide ((1 : Int) ≤ 5) && decide ((5 : Int) ≤ 6)) = true := by decide
  have hnz : (n != 0) = true := by simpa using hn
  go_enter Tryz.func19, Tryz.ntmps19
  go_wp2_with fail
  refine (l1In_tok _ _ _ _).mono ?_
  rintro e w1 ⟨rfl, hw1⟩
  subst hw1
  rw [hin]
  clear hin hn
  go_wp2_with fail
  refine bodyPost_ret (v := .agg #[.int .i64 1, .string ByteArray.empty]) (by simp [results, Tryz.results19, go_sem]; rfl) rfl ⟨by rw [unhide fin], ?_⟩
  exact (B0.out _).alloc (by simp) _

set_option maxRecDepth 100000 in
set_option maxHeartbeats 1000000 in
theorem specTok_num_6 (a n : Int) (s : ByteArray) (w : World) (hs : s.size ≤ 1048576) (hn : n ≠ 0) : Calls Tryz.prog 19 #[.agg #[.int .i64 6, .int .i64 a, .int .i64 n, .string s]] w fun e w' => e = .returned (.agg #[.int .i64 (J.tokOut 6 n s).1, .string (J.tokOut 6 n s).2]) ∧ Below w.heap.size w w' := by
  have B0 : Hid (∀ o, Below w.heap.size w (w.alloc o)) := fun o => (Below.refl _ _).alloc (Nat.le_refl _) o
  have fin := hide (J.tokOut_num (k := 6) s (by omega) (by omega) hn)
  have hin : (decide ((1 : Int) ≤ 6) && decide ((6 : Int) ≤ 6)) = true := by decide
  have hnz : (n != 0) = true := by simpa using hn
  go_enter Tryz.func19, Tryz.ntmps19
  go_wp2_with fail
  refine (l1In_tok _ _ _ _).mono ?_
  rintro e w1 ⟨rfl, hw1⟩
  subst hw1
  rw [hin]
  clear hin hn
  go_wp2_with fail
  refine bodyPost_ret (v := .agg #[.int .i64 1, .string ByteArray.empty]) (by simp [results, Tryz.results19, go_sem]; rfl) rfl ⟨by rw [unhide fin], ?_⟩
  exact (B0.out _).alloc (by simp) _

set_option maxRecDepth 100000 in
set_option maxHeartbeats 1000000 in
theorem specTok_form_1 (a n : Int) (s : ByteArray) (w : World) (hs : s.size ≤ 1048576) (hf : J.tokFits 1 s = false) : Calls Tryz.prog 19 #[.agg #[.int .i64 1, .int .i64 a, .int .i64 n, .string s]] w fun e w' => e = .returned (.agg #[.int .i64 (J.tokOut 1 n s).1, .string (J.tokOut 1 n s).2]) ∧ Below w.heap.size w w' := by
  have B0 : Hid (∀ o, Below w.heap.size w (w.alloc o)) := fun o => (Below.refl _ _).alloc (Nat.le_refl _) o
  have fin := hide (J.tokOut_form (k := 1) (n := n) (by omega) (by omega) hf)
  have hin : (decide ((1 : Int) ≤ 1) && decide ((1 : Int) ≤ 6)) = true := by decide
  go_enter Tryz.func19, Tryz.ntmps19
  go_wp2_with fail
  refine (l1In_tok _ _ _ _).mono ?_
  rintro e w1 ⟨rfl, hw1⟩
  subst hw1
  rw [hin]
  clear hin
  go_wp2_with fail
  refine (l4Fits_1 _ _ _ _ hs).mono ?_
  rintro e w2 ⟨rfl, hb2⟩
  rw [hf]
  clear hf
  have B2 : Below w.heap.size w w2 := ((B0.out (.cells #[.int .i64 1, .int .i64 a, .int .i64 n, .string s] 33)).alloc (by simp) (.cells #[.int .i64 0, .string ByteArray.empty] 27)).trans (hb2.mono (by simp; omega))
  have hX : Own w2 w.heap.size 33 [.int .i64 1, .int .i64 a, .int .i64 n, .string s] := Own.below (Own.alloc ⟨_, heap_alloc_new _ _, rfl⟩ _) hb2 (by simp; omega)
  have hR : Own w2 (w.heap.size + 1) 27 [.int .i64 0, .string ByteArray.empty] := Own.below (second_own w _ _ _ rfl) hb2 (by simp)
  have r0 := hX.cell 0
  have r1 := hX.cell 1
  have r2 := hX.cell 2
  have r3 := hX.cell 3
  have y0 := hR.cell 0
  have y1 := hR.cell 1
  have z0 := hR.frozen 0
  have z1 := hR.frozen 1
  simp only [List.getElem?_cons_zero, List.getElem?_cons_succ] at r0 r1 r2 r3 y0 y1
  clear hb2 hX
  go_wp2_with fail
  refine bodyPost_ret (v := .agg #[.int .i64 1, .string ByteArray.empty]) (by simp [results, Tryz.results19, go_sem, y0, y1]; rfl) rfl ⟨by rw [unhide fin], ?_⟩
  exact (B2.setCell (Nat.le_succ _) _).setCell (Nat.le_succ _) _

set_option maxRecDepth 100000 in
set_option maxHeartbeats 1000000 in
theorem specTok_form_2 (a n : Int) (s : ByteArray) (w : World) (hs : s.size ≤ 1048576) (hn : n = 0) (hf : J.tokFits 2 s = false) : Calls Tryz.prog 19 #[.agg #[.int .i64 2, .int .i64 a, .int .i64 n, .string s]] w fun e w' => e = .returned (.agg #[.int .i64 (J.tokOut 2 n s).1, .string (J.tokOut 2 n s).2]) ∧ Below w.heap.size w w' := by
  have B0 : Hid (∀ o, Below w.heap.size w (w.alloc o)) := fun o => (Below.refl _ _).alloc (Nat.le_refl _) o
  subst hn
  have fin := hide (J.tokOut_form (k := 2) (n := 0) (by omega) (by omega) hf)
  have hin : (decide ((1 : Int) ≤ 2) && decide ((2 : Int) ≤ 6)) = true := by decide
  go_enter Tryz.func19, Tryz.ntmps19
  go_wp2_with fail
  refine (l1In_tok _ _ _ _).mono ?_
  rintro e w1 ⟨rfl, hw1⟩
  subst hw1
  rw [hin]
  clear hin
  go_wp2_with fail
  refine (l4Fits_2 _ _ _ _ hs).mono ?_
  rintro e w2 ⟨rfl, hb2⟩
  rw [hf]
  clear hf
  have B2 : Below w.heap.size w w2 := ((B0.out (.cells #[.int .i64 2, .int .i64 a, .int .i64 0, .string s] 33)).alloc (by simp) (.cells #[.int .i64 0, .string ByteArray.empty] 27)).trans (hb2.mono (by simp; omega))
  have hX : Own w2 w.heap.size 33 [.int .i64 2, .int .i64 a, .int .i64 0, .string s] := Own.below (Own.alloc ⟨_, heap_alloc_new _ _, rfl⟩ _) hb2 (by simp; omega)
  have hR : Own w2 (w.heap.size + 1) 27 [.int .i64 0, .string ByteArray.empty] := Own.below (second_own w _ _ _ rfl) hb2 (by simp)
  have r0 := hX.cell 0
  have r1 := hX.cell 1
  have r2 := hX.cell 2
  have r3 := hX.cell 3
  have y0 := hR.cell 0
  have y1 := hR.cell 1
  have z0 := hR.frozen 0
  have z1 := hR.frozen 1
  simp only [List.getElem?_cons_zero, List.getElem?_cons_succ] at r0 r1 r2 r3 y0 y1
  clear hb2 hX
  go_wp2_with fail
  refine bodyPost_ret (v := .agg #[.int .i64 1, .string ByteArray.empty]) (by simp [results, Tryz.results19, go_sem, y0, y1]; rfl) rfl ⟨by rw [unhide fin], ?_⟩
  exact (B2.setCell (Nat.le_succ _) _).setCell (Nat.le_succ _) _

set_option maxRecDepth 100000 in
set_option maxHeartbeats 1000000 in
theorem specTok_form_3 (a n : Int) (s : ByteArray) (w : World) (hs : s.size ≤ 1048576) (hn : n = 0) (hf : J.tokFits 3 s = false) : Calls Tryz.prog 19 #[.agg #[.int .i64 3, .int .i64 a, .int .i64 n, .string s]] w fun e w' => e = .returned (.agg #[.int .i64 (J.tokOut 3 n s).1, .string (J.tokOut 3 n s).2]) ∧ Below w.heap.size w w' := by
  have B0 : Hid (∀ o, Below w.heap.size w (w.alloc o)) := fun o => (Below.refl _ _).alloc (Nat.le_refl _) o
  subst hn
  have fin := hide (J.tokOut_form (k := 3) (n := 0) (by omega) (by omega) hf)
  have hin : (decide ((1 : Int) ≤ 3) && decide ((3 : Int) ≤ 6)) = true := by decide
  go_enter Tryz.func19, Tryz.ntmps19
  go_wp2_with fail
  refine (l1In_tok _ _ _ _).mono ?_
  rintro e w1 ⟨rfl, hw1⟩
  subst hw1
  rw [hin]
  clear hin
  go_wp2_with fail
  refine (l4Fits_3 _ _ _ _ hs).mono ?_
  rintro e w2 ⟨rfl, hb2⟩
  rw [hf]
  clear hf
  have B2 : Below w.heap.size w w2 := ((B0.out (.cells #[.int .i64 3, .int .i64 a, .int .i64 0, .string s] 33)).alloc (by simp) (.cells #[.int .i64 0, .string ByteArray.empty] 27)).trans (hb2.mono (by simp; omega))
  have hX : Own w2 w.heap.size 33 [.int .i64 3, .int .i64 a, .int .i64 0, .string s] := Own.below (Own.alloc ⟨_, heap_alloc_new _ _, rfl⟩ _) hb2 (by simp; omega)
  have hR : Own w2 (w.heap.size + 1) 27 [.int .i64 0, .string ByteArray.empty] := Own.below (second_own w _ _ _ rfl) hb2 (by simp)
  have r0 := hX.cell 0
  have r1 := hX.cell 1
  have r2 := hX.cell 2
  have r3 := hX.cell 3
  have y0 := hR.cell 0
  have y1 := hR.cell 1
  have z0 := hR.frozen 0
  have z1 := hR.frozen 1
  simp only [List.getElem?_cons_zero, List.getElem?_cons_succ] at r0 r1 r2 r3 y0 y1
  clear hb2 hX
  go_wp2_with fail
  refine bodyPost_ret (v := .agg #[.int .i64 1, .string ByteArray.empty]) (by simp [results, Tryz.results19, go_sem, y0, y1]; rfl) rfl ⟨by rw [unhide fin], ?_⟩
  exact (B2.setCell (Nat.le_succ _) _).setCell (Nat.le_succ _) _

set_option maxRecDepth 100000 in
set_option maxHeartbeats 1000000 in
theorem specTok_form_4 (a n : Int) (s : ByteArray) (w : World) (hs : s.size ≤ 1048576) (hn : n = 0) (hf : J.tokFits 4 s = false) : Calls Tryz.prog 19 #[.agg #[.int .i64 4, .int .i64 a, .int .i64 n, .string s]] w fun e w' => e = .returned (.agg #[.int .i64 (J.tokOut 4 n s).1, .string (J.tokOut 4 n s).2]) ∧ Below w.heap.size w w' := by
  have B0 : Hid (∀ o, Below w.heap.size w (w.alloc o)) := fun o => (Below.refl _ _).alloc (Nat.le_refl _) o
  subst hn
  have fin := hide (J.tokOut_form (k := 4) (n := 0) (by omega) (by omega) hf)
  have hin : (decide ((1 : Int) ≤ 4) && decide ((4 : Int) ≤ 6)) = true := by decide
  go_enter Tryz.func19, Tryz.ntmps19
  go_wp2_with fail
  refine (l1In_tok _ _ _ _).mono ?_
  rintro e w1 ⟨rfl, hw1⟩
  subst hw1
  rw [hin]
  clear hin
  go_wp2_with fail
  refine (l4Fits_4 _ _ _ _ hs).mono ?_
  rintro e w2 ⟨rfl, hb2⟩
  rw [hf]
  clear hf
  have B2 : Below w.heap.size w w2 := ((B0.out (.cells #[.int .i64 4, .int .i64 a, .int .i64 0, .string s] 33)).alloc (by simp) (.cells #[.int .i64 0, .string ByteArray.empty] 27)).trans (hb2.mono (by simp; omega))
  have hX : Own w2 w.heap.size 33 [.int .i64 4, .int .i64 a, .int .i64 0, .string s] := Own.below (Own.alloc ⟨_, heap_alloc_new _ _, rfl⟩ _) hb2 (by simp; omega)
  have hR : Own w2 (w.heap.size + 1) 27 [.int .i64 0, .string ByteArray.empty] := Own.below (second_own w _ _ _ rfl) hb2 (by simp)
  have r0 := hX.cell 0
  have r1 := hX.cell 1
  have r2 := hX.cell 2
  have r3 := hX.cell 3
  have y0 := hR.cell 0
  have y1 := hR.cell 1
  have z0 := hR.frozen 0
  have z1 := hR.frozen 1
  simp only [List.getElem?_cons_zero, List.getElem?_cons_succ] at r0 r1 r2 r3 y0 y1
  clear hb2 hX
  go_wp2_with fail
  refine bodyPost_ret (v := .agg #[.int .i64 1, .string ByteArray.empty]) (by simp [results, Tryz.results19, go_sem, y0, y1]; rfl) rfl ⟨by rw [unhide fin], ?_⟩
  exact (B2.setCell (Nat.le_succ _) _).setCell (Nat.le_succ _) _

set_option maxRecDepth 100000 in
set_option maxHeartbeats 1000000 in
theorem specTok_form_5 (a n : Int) (s : ByteArray) (w : World) (hs : s.size ≤ 1048576) (hn : n = 0) (hf : J.tokFits 5 s = false) : Calls Tryz.prog 19 #[.agg #[.int .i64 5, .int .i64 a, .int .i64 n, .string s]] w fun e w' => e = .returned (.agg #[.int .i64 (J.tokOut 5 n s).1, .string (J.tokOut 5 n s).2]) ∧ Below w.heap.size w w' := by
  have B0 : Hid (∀ o, Below w.heap.size w (w.alloc o)) := fun o => (Below.refl _ _).alloc (Nat.le_refl _) o
  subst hn
  have fin := hide (J.tokOut_form (k := 5) (n := 0) (by omega) (by omega) hf)
  have hin : (decide ((1 : Int) ≤ 5) && decide ((5 : Int) ≤ 6)) = true := by decide
  go_enter Tryz.func19, Tryz.ntmps19
  go_wp2_with fail
  refine (l1In_tok _ _ _ _).mono ?_
  rintro e w1 ⟨rfl, hw1⟩
  subst hw1
  rw [hin]
  clear hin
  go_wp2_with fail
  refine (l4Fits_5 _ _ _ _ hs).mono ?_
  rintro e w2 ⟨rfl, hb2⟩
  rw [hf]
  clear hf
  have B2 : Below w.heap.size w w2 := ((B0.out (.cells #[.int .i64 5, .int .i64 a, .int .i64 0, .string s] 33)).alloc (by simp) (.cells #[.int .i64 0, .string ByteArray.empty] 27)).trans (hb2.mono (by simp; omega))
  have hX : Own w2 w.heap.size 33 [.int .i64 5, .int .i64 a, .int .i64 0, .string s] := Own.below (Own.alloc ⟨_, heap_alloc_new _ _, rfl⟩ _) hb2 (by simp; omega)
  have hR : Own w2 (w.heap.size + 1) 27 [.int .i64 0, .string ByteArray.empty] := Own.below (second_own w _ _ _ rfl) hb2 (by simp)
  have r0 := hX.cell 0
  have r1 := hX.cell 1
  have r2 := hX.cell 2
  have r3 := hX.cell 3
  have y0 := hR.cell 0
  have y1 := hR.cell 1
  have z0 := hR.frozen 0
  have z1 := hR.frozen 1
  simp only [List.getElem?_cons_zero, List.getElem?_cons_succ] at r0 r1 r2 r3 y0 y1
  clear hb2 hX
  go_wp2_with fail
  refine bodyPost_ret (v := .agg #[.int .i64 1, .string ByteArray.empty]) (by simp [results, Tryz.results19, go_sem, y0, y1]; rfl) rfl ⟨by rw [unhide fin], ?_⟩
  exact (B2.setCell (Nat.le_succ _) _).setCell (Nat.le_succ _) _

set_option maxRecDepth 100000 in
set_option maxHeartbeats 1000000 in
theorem specTok_form_6 (a n : Int) (s : ByteArray) (w : World) (hs : s.size ≤ 1048576) (hn : n = 0) (hf : J.tokFits 6 s = false) : Calls Tryz.prog 19 #[.agg #[.int .i64 6, .int .i64 a, .int .i64 n, .string s]] w fun e w' => e = .returned (.agg #[.int .i64 (J.tokOut 6 n s).1, .string (J.tokOut 6 n s).2]) ∧ Below w.heap.size w w' := by
  have B0 : Hid (∀ o, Below w.heap.size w (w.alloc o)) := fun o => (Below.refl _ _).alloc (Nat.le_refl _) o
  subst hn
  have fin := hide (J.tokOut_form (k := 6) (n := 0) (by omega) (by omega) hf)
  have hin : (decide ((1 : Int) ≤ 6) && decide ((6 : Int) ≤ 6)) = true := by decide
  go_enter Tryz.func19, Tryz.ntmps19
  go_wp2_with fail
  refine (l1In_tok _ _ _ _).mono ?_
  rintro e w1 ⟨rfl, hw1⟩
  subst hw1
  rw [hin]
  clear hin
  go_wp2_with fail
  refine (l4Fits_6 _ _ _ _ hs).mono ?_
  rintro e w2 ⟨rfl, hb2⟩
  rw [hf]
  clear hf
  have B2 : Below w.heap.size w w2 := ((B0.out (.cells #[.int .i64 6, .int .i64 a, .int .i64 0, .string s] 33)).alloc (by simp) (.cells #[.int .i64 0, .string ByteArray.empty] 27)).trans (hb2.mono (by simp; omega))
  have hX : Own w2 w.heap.size 33 [.int .i64 6, .int .i64 a, .int .i64 0, .string s] := Own.below (Own.alloc ⟨_, heap_alloc_new _ _, rfl⟩ _) hb2 (by simp; omega)
  have hR : Own w2 (w.heap.size + 1) 27 [.int .i64 0, .string ByteArray.empty] := Own.below (second_own w _ _ _ rfl) hb2 (by simp)
  have r0 := hX.cell 0
  have r1 := hX.cell 1
  have r2 := hX.cell 2
  have r3 := hX.cell 3
  have y0 := hR.cell 0
  have y1 := hR.cell 1
  have z0 := hR.frozen 0
  have z1 := hR.frozen 1
  simp only [List.getElem?_cons_zero, List.getElem?_cons_succ] at r0 r1 r2 r3 y0 y1
  clear hb2 hX
  go_wp2_with fail
  refine bodyPost_ret (v := .agg #[.int .i64 1, .string ByteArray.empty]) (by simp [results, Tryz.results19, go_sem, y0, y1]; rfl) rfl ⟨by rw [unhide fin], ?_⟩
  exact (B2.setCell (Nat.le_succ _) _).setCell (Nat.le_succ _) _

set_option maxRecDepth 100000 in
set_option maxHeartbeats 1000000 in
theorem specTok_range (a n : Int) (s : ByteArray) (w : World) (hs : s.size ≤ 1048576) (hf : J.tokFits 1 s = true) (h : n < 0 ∨ 1000000000000000 < n) : Calls Tryz.prog 19 #[.agg #[.int .i64 1, .int .i64 a, .int .i64 n, .string s]] w fun e w' => e = .returned (.agg #[.int .i64 (J.tokOut 1 n s).1, .string (J.tokOut 1 n s).2]) ∧ Below w.heap.size w w' := by
  have B0 : Hid (∀ o, Below w.heap.size w (w.alloc o)) := fun o => (Below.refl _ _).alloc (Nat.le_refl _) o
  have fin := hide (J.tokOut_range hf h)
  have hin : (decide ((1 : Int) ≤ 1) && decide ((1 : Int) ≤ 6)) = true := by decide
  have hin2 := hide (in_no h)
  go_enter Tryz.func19, Tryz.ntmps19
  go_wp2_with fail
  refine (l1In_tok _ _ _ _).mono ?_
  rintro e w1 ⟨rfl, hw1⟩
  subst hw1
  rw [hin]
  clear hin h
  go_wp2_with fail
  refine (l4Fits_1 _ _ _ _ hs).mono ?_
  rintro e w2 ⟨rfl, hb2⟩
  rw [hf]
  clear hf
  have B2 : Below w.heap.size w w2 := ((B0.out (.cells #[.int .i64 1, .int .i64 a, .int .i64 n, .string s] 33)).alloc (by simp) (.cells #[.int .i64 0, .string ByteArray.empty] 27)).trans (hb2.mono (by simp; omega))
  have hX : Own w2 w.heap.size 33 [.int .i64 1, .int .i64 a, .int .i64 n, .string s] := Own.below (Own.alloc ⟨_, heap_alloc_new _ _, rfl⟩ _) hb2 (by simp; omega)
  have hR : Own w2 (w.heap.size + 1) 27 [.int .i64 0, .string ByteArray.empty] := Own.below (second_own w _ _ _ rfl) hb2 (by simp)
  have r0 := hX.cell 0
  have r1 := hX.cell 1
  have r2 := hX.cell 2
  have r3 := hX.cell 3
  have y0 := hR.cell 0
  have y1 := hR.cell 1
  have z0 := hR.frozen 0
  have z1 := hR.frozen 1
  simp only [List.getElem?_cons_zero, List.getElem?_cons_succ] at r0 r1 r2 r3 y0 y1
  clear hb2 hX
  go_wp2_with fail
  refine (l1In_tok _ _ _ _).mono ?_
  rintro e w3 ⟨rfl, hw3⟩
  subst hw3
  rw [unhide hin2]
  go_wp2_with fail
  refine bodyPost_ret (v := .agg #[.int .i64 3, .string ByteArray.empty]) (by simp [results, Tryz.results19, go_sem, y0, y1]; rfl) rfl ⟨by rw [unhide fin], ?_⟩
  exact (B2.setCell (Nat.le_succ _) _).setCell (Nat.le_succ _) _

set_option maxRecDepth 100000 in
set_option maxHeartbeats 1000000 in
theorem specTok_ok_1 (a n : Int) (s : ByteArray) (w : World) (hs : s.size ≤ 1048576) (hf : J.tokFits 1 s = true) (h0 : 0 ≤ n) (h1 : n ≤ 1000000000000000) : Calls Tryz.prog 19 #[.agg #[.int .i64 1, .int .i64 a, .int .i64 n, .string s]] w fun e w' => e = .returned (.agg #[.int .i64 (J.tokOut 1 n s).1, .string (J.tokOut 1 n s).2]) ∧ Below w.heap.size w w' := by
  have B0 : Hid (∀ o, Below w.heap.size w (w.alloc o)) := fun o => (Below.refl _ _).alloc (Nat.le_refl _) o
  have fin := hide (J.tokOut_one hf h0 h1)
  have hin : (decide ((1 : Int) ≤ 1) && decide ((1 : Int) ≤ 6)) = true := by decide
  have hin2 := hide (in_yes (a := n) (lo := 0) (hi := 1000000000000000) h0 h1)
  have HT := hide (fun w => l4Text_1 a n s w h0 h1)
  have et : J.tokText 1 n s = ⟨(Lib.decDigits n.toNat).toArray⟩ := rfl
  rw [et] at HT
  clear et h0 h1
  go_enter Tryz.func19, Tryz.ntmps19
  go_wp2_with fail
  refine (l1In_tok _ _ _ _).mono ?_
  rintro e w1 ⟨rfl, hw1⟩
  subst hw1
  rw [hin]
  clear hin
  go_wp2_with fail
  refine (l4Fits_1 _ _ _ _ hs).mono ?_
  rintro e w2 ⟨rfl, hb2⟩
  rw [hf]
  clear hf
  have B2 : Below w.heap.size w w2 := ((B0.out (.cells #[.int .i64 1, .int .i64 a, .int .i64 n, .string s] 33)).alloc (by simp) (.cells #[.int .i64 0, .string ByteArray.empty] 27)).trans (hb2.mono (by simp; omega))
  have hX : Own w2 w.heap.size 33 [.int .i64 1, .int .i64 a, .int .i64 n, .string s] := Own.below (Own.alloc ⟨_, heap_alloc_new _ _, rfl⟩ _) hb2 (by simp; omega)
  have hR : Own w2 (w.heap.size + 1) 27 [.int .i64 0, .string ByteArray.empty] := Own.below (second_own w _ _ _ rfl) hb2 (by simp)
  have r0 := hX.cell 0
  have r1 := hX.cell 1
  have r2 := hX.cell 2
  have r3 := hX.cell 3
  have y0 := hR.cell 0
  have y1 := hR.cell 1
  have z0 := hR.frozen 0
  have z1 := hR.frozen 1
  simp only [List.getElem?_cons_zero, List.getElem?_cons_succ] at r0 r1 r2 r3 y0 y1
  clear hb2 hX
  go_wp2_with fail
  refine (l1In_tok _ _ _ _).mono ?_
  rintro e w3 ⟨rfl, hw3⟩
  subst hw3
  rw [unhide hin2]
  clear hin2
  go_wp2_with fail
  refine ((unhide HT) _).mono ?_
  rintro e w4 ⟨rfl, hb4⟩
  have B4 : Below w.heap.size w w4 := B2.trans (hb4.mono B2.size)
  have hR4 := hR.below hb4 hR.lt
  clear y0 y1 z0 z1
  have y0 := hR4.cell 0
  have y1 := hR4.cell 1
  have z0 := hR4.frozen 0
  have z1 := hR4.frozen 1
  simp only [List.getElem?_cons_zero, List.getElem?_cons_succ] at y0 y1
  clear hb4 hR hR4 r0 r1 r2 r3
  generalize (⟨(Lib.decDigits n.toNat).toArray⟩ : ByteArray) = q at *
  go_wp2_with fail
  refine bodyPost_ret (v := .agg #[.int .i64 0, .string q]) (by simp [results, Tryz.results19, go_sem, y0, y1]) rfl ⟨by rw [unhide fin], ?_⟩
  exact (B4.setCell (Nat.le_succ _) _).setCell (Nat.le_succ _) _

set_option maxRecDepth 100000 in
set_option maxHeartbeats 1000000 in
theorem specTok_ok_2 (a n : Int) (s : ByteArray) (w : World) (hs : s.size ≤ 1048576) (hn : n = 0) (hf : J.tokFits 2 s = true) : Calls Tryz.prog 19 #[.agg #[.int .i64 2, .int .i64 a, .int .i64 n, .string s]] w fun e w' => e = .returned (.agg #[.int .i64 (J.tokOut 2 n s).1, .string (J.tokOut 2 n s).2]) ∧ Below w.heap.size w w' := by
  have B0 : Hid (∀ o, Below w.heap.size w (w.alloc o)) := fun o => (Below.refl _ _).alloc (Nat.le_refl _) o
  subst hn
  have fin := hide (J.tokOut_ok (k := 2) (by omega) (by omega) hf)
  have h60 : s.size ≤ 60 := textOk_size2 hf
  have hin : (decide ((1 : Int) ≤ 2) && decide ((2 : Int) ≤ 6)) = true := by decide
  have hin2 := hide (in_yes (a := 0) (lo := 0) (hi := 1000000000000000) (by omega) (by omega))
  have HT := hide (fun w => l4Text_2 a 0 s w h60)
  go_enter Tryz.func19, Tryz.ntmps19
  go_wp2_with fail
  refine (l1In_tok _ _ _ _).mono ?_
  rintro e w1 ⟨rfl, hw1⟩
  subst hw1
  rw [hin]
  clear hin
  go_wp2_with fail
  refine (l4Fits_2 _ _ _ _ hs).mono ?_
  rintro e w2 ⟨rfl, hb2⟩
  rw [hf]
  clear hf
  have B2 : Below w.heap.size w w2 := ((B0.out (.cells #[.int .i64 2, .int .i64 a, .int .i64 0, .string s] 33)).alloc (by simp) (.cells #[.int .i64 0, .string ByteArray.empty] 27)).trans (hb2.mono (by simp; omega))
  have hX : Own w2 w.heap.size 33 [.int .i64 2, .int .i64 a, .int .i64 0, .string s] := Own.below (Own.alloc ⟨_, heap_alloc_new _ _, rfl⟩ _) hb2 (by simp; omega)
  have hR : Own w2 (w.heap.size + 1) 27 [.int .i64 0, .string ByteArray.empty] := Own.below (second_own w _ _ _ rfl) hb2 (by simp)
  have r0 := hX.cell 0
  have r1 := hX.cell 1
  have r2 := hX.cell 2
  have r3 := hX.cell 3
  have y0 := hR.cell 0
  have y1 := hR.cell 1
  have z0 := hR.frozen 0
  have z1 := hR.frozen 1
  simp only [List.getElem?_cons_zero, List.getElem?_cons_succ] at r0 r1 r2 r3 y0 y1
  clear hb2 hX
  go_wp2_with fail
  refine (l1In_tok _ _ _ _).mono ?_
  rintro e w3 ⟨rfl, hw3⟩
  subst hw3
  rw [unhide hin2]
  clear hin2
  go_wp2_with fail
  refine ((unhide HT) _).mono ?_
  rintro e w4 ⟨rfl, hb4⟩
  have B4 : Below w.heap.size w w4 := B2.trans (hb4.mono B2.size)
  have hR4 := hR.below hb4 hR.lt
  clear y0 y1 z0 z1
  have y0 := hR4.cell 0
  have y1 := hR4.cell 1
  have z0 := hR4.frozen 0
  have z1 := hR4.frozen 1
  simp only [List.getElem?_cons_zero, List.getElem?_cons_succ] at y0 y1
  clear hb4 hR hR4 r0 r1 r2 r3
  generalize J.tokText 2 0 s = q at *
  go_wp2_with fail
  refine bodyPost_ret (v := .agg #[.int .i64 0, .string q]) (by simp [results, Tryz.results19, go_sem, y0, y1]) rfl ⟨by rw [unhide fin], ?_⟩
  exact (B4.setCell (Nat.le_succ _) _).setCell (Nat.le_succ _) _

set_option maxRecDepth 100000 in
set_option maxHeartbeats 1000000 in
theorem specTok_ok_3 (a n : Int) (s : ByteArray) (w : World) (hs : s.size ≤ 1048576) (hn : n = 0) (hf : J.tokFits 3 s = true) : Calls Tryz.prog 19 #[.agg #[.int .i64 3, .int .i64 a, .int .i64 n, .string s]] w fun e w' => e = .returned (.agg #[.int .i64 (J.tokOut 3 n s).1, .string (J.tokOut 3 n s).2]) ∧ Below w.heap.size w w' := by
  have B0 : Hid (∀ o, Below w.heap.size w (w.alloc o)) := fun o => (Below.refl _ _).alloc (Nat.le_refl _) o
  subst hn
  have fin := hide (J.tokOut_ok (k := 3) (by omega) (by omega) hf)
  have hin : (decide ((1 : Int) ≤ 3) && decide ((3 : Int) ≤ 6)) = true := by decide
  have hin2 := hide (in_yes (a := 0) (lo := 0) (hi := 1000000000000000) (by omega) (by omega))
  have HT := hide (fun w => l4Text_3 a 0 s w hs)
  go_enter Tryz.func19, Tryz.ntmps19
  go_wp2_with fail
  refine (l1In_tok _ _ _ _).mono ?_
  rintro e w1 ⟨rfl, hw1⟩
  subst hw1
  rw [hin]
  clear hin
  go_wp2_with fail
  refine (l4Fits_3 _ _ _ _ hs).mono ?_
  rintro e w2 ⟨rfl, hb2⟩
  rw [hf]
  clear hf
  have B2 : Below w.heap.size w w2 := ((B0.out (.cells #[.int .i64 3, .int .i64 a, .int .i64 0, .string s] 33)).alloc (by simp) (.cells #[.int .i64 0, .string ByteArray.empty] 27)).trans (hb2.mono (by simp; omega))
  have hX : Own w2 w.heap.size 33 [.int .i64 3, .int .i64 a, .int .i64 0, .string s] := Own.below (Own.alloc ⟨_, heap_alloc_new _ _, rfl⟩ _) hb2 (by simp; omega)
  have hR : Own w2 (w.heap.size + 1) 27 [.int .i64 0, .string ByteArray.empty] := Own.below (second_own w _ _ _ rfl) hb2 (by simp)
  have r0 := hX.cell 0
  have r1 := hX.cell 1
  have r2 := hX.cell 2
  have r3 := hX.cell 3
  have y0 := hR.cell 0
  have y1 := hR.cell 1
  have z0 := hR.frozen 0
  have z1 := hR.frozen 1
  simp only [List.getElem?_cons_zero, List.getElem?_cons_succ] at r0 r1 r2 r3 y0 y1
  clear hb2 hX
  go_wp2_with fail
  refine (l1In_tok _ _ _ _).mono ?_
  rintro e w3 ⟨rfl, hw3⟩
  subst hw3
  rw [unhide hin2]
  clear hin2
  go_wp2_with fail
  refine ((unhide HT) _).mono ?_
  rintro e w4 ⟨rfl, hb4⟩
  have B4 : Below w.heap.size w w4 := B2.trans (hb4.mono B2.size)
  have hR4 := hR.below hb4 hR.lt
  clear y0 y1 z0 z1
  have y0 := hR4.cell 0
  have y1 := hR4.cell 1
  have z0 := hR4.frozen 0
  have z1 := hR4.frozen 1
  simp only [List.getElem?_cons_zero, List.getElem?_cons_succ] at y0 y1
  clear hb4 hR hR4 r0 r1 r2 r3
  generalize J.tokText 3 0 s = q at *
  go_wp2_with fail
  refine bodyPost_ret (v := .agg #[.int .i64 0, .string q]) (by simp [results, Tryz.results19, go_sem, y0, y1]) rfl ⟨by rw [unhide fin], ?_⟩
  exact (B4.setCell (Nat.le_succ _) _).setCell (Nat.le_succ _) _

set_option maxRecDepth 100000 in
set_option maxHeartbeats 1000000 in
theorem specTok_ok_4 (a n : Int) (s : ByteArray) (w : World) (hs : s.size ≤ 1048576) (hn : n = 0) (hf : J.tokFits 4 s = true) : Calls Tryz.prog 19 #[.agg #[.int .i64 4, .int .i64 a, .int .i64 n, .string s]] w fun e w' => e = .returned (.agg #[.int .i64 (J.tokOut 4 n s).1, .string (J.tokOut 4 n s).2]) ∧ Below w.heap.size w w' := by
  have B0 : Hid (∀ o, Below w.heap.size w (w.alloc o)) := fun o => (Below.refl _ _).alloc (Nat.le_refl _) o
  subst hn
  have fin := hide (J.tokOut_ok (k := 4) (by omega) (by omega) hf)
  have hin : (decide ((1 : Int) ≤ 4) && decide ((4 : Int) ≤ 6)) = true := by decide
  have hin2 := hide (in_yes (a := 0) (lo := 0) (hi := 1000000000000000) (by omega) (by omega))
  have HT := hide (fun w => l4Text_4 a 0 s w hs)
  go_enter Tryz.func19, Tryz.ntmps19
  go_wp2_with fail
  refine (l1In_tok _ _ _ _).mono ?_
  rintro e w1 ⟨rfl, hw1⟩
  subst hw1
  rw [hin]
  clear hin
  go_wp2_with fail
  refine (l4Fits_4 _ _ _ _ hs).mono ?_
  rintro e w2 ⟨rfl, hb2⟩
  rw [hf]
  clear hf
  have B2 : Below w.heap.size w w2 := ((B0.out (.cells #[.int .i64 4, .int .i64 a, .int .i64 0, .string s] 33)).alloc (by simp) (.cells #[.int .i64 0, .string ByteArray.empty] 27)).trans (hb2.mono (by simp; omega))
  have hX : Own w2 w.heap.size 33 [.int .i64 4, .int .i64 a, .int .i64 0, .string s] := Own.below (Own.alloc ⟨_, heap_alloc_new _ _, rfl⟩ _) hb2 (by simp; omega)
  have hR : Own w2 (w.heap.size + 1) 27 [.int .i64 0, .string ByteArray.empty] := Own.below (second_own w _ _ _ rfl) hb2 (by simp)
  have r0 := hX.cell 0
  have r1 := hX.cell 1
  have r2 := hX.cell 2
  have r3 := hX.cell 3
  have y0 := hR.cell 0
  have y1 := hR.cell 1
  have z0 := hR.frozen 0
  have z1 := hR.frozen 1
  simp only [List.getElem?_cons_zero, List.getElem?_cons_succ] at r0 r1 r2 r3 y0 y1
  clear hb2 hX
  go_wp2_with fail
  refine (l1In_tok _ _ _ _).mono ?_
  rintro e w3 ⟨rfl, hw3⟩
  subst hw3
  rw [unhide hin2]
  clear hin2
  go_wp2_with fail
  refine ((unhide HT) _).mono ?_
  rintro e w4 ⟨rfl, hb4⟩
  have B4 : Below w.heap.size w w4 := B2.trans (hb4.mono B2.size)
  have hR4 := hR.below hb4 hR.lt
  clear y0 y1 z0 z1
  have y0 := hR4.cell 0
  have y1 := hR4.cell 1
  have z0 := hR4.frozen 0
  have z1 := hR4.frozen 1
  simp only [List.getElem?_cons_zero, List.getElem?_cons_succ] at y0 y1
  clear hb4 hR hR4 r0 r1 r2 r3
  generalize J.tokText 4 0 s = q at *
  go_wp2_with fail
  refine bodyPost_ret (v := .agg #[.int .i64 0, .string q]) (by simp [results, Tryz.results19, go_sem, y0, y1]) rfl ⟨by rw [unhide fin], ?_⟩
  exact (B4.setCell (Nat.le_succ _) _).setCell (Nat.le_succ _) _

set_option maxRecDepth 100000 in
set_option maxHeartbeats 1000000 in
theorem specTok_ok_5 (a n : Int) (s : ByteArray) (w : World) (hs : s.size ≤ 1048576) (hn : n = 0) (hf : J.tokFits 5 s = true) : Calls Tryz.prog 19 #[.agg #[.int .i64 5, .int .i64 a, .int .i64 n, .string s]] w fun e w' => e = .returned (.agg #[.int .i64 (J.tokOut 5 n s).1, .string (J.tokOut 5 n s).2]) ∧ Below w.heap.size w w' := by
  have B0 : Hid (∀ o, Below w.heap.size w (w.alloc o)) := fun o => (Below.refl _ _).alloc (Nat.le_refl _) o
  subst hn
  have fin := hide (J.tokOut_ok (k := 5) (by omega) (by omega) hf)
  have hin : (decide ((1 : Int) ≤ 5) && decide ((5 : Int) ≤ 6)) = true := by decide
  have hin2 := hide (in_yes (a := 0) (lo := 0) (hi := 1000000000000000) (by omega) (by omega))
  have HT := hide (fun w => l4Text_5 a 0 s w hs)
  go_enter Tryz.func19, Tryz.ntmps19
  go_wp2_with fail
  refine (l1In_tok _ _ _ _).mono ?_
  rintro e w1 ⟨rfl, hw1⟩
  subst hw1
  rw [hin]
  clear hin
  go_wp2_with fail
  refine (l4Fits_5 _ _ _ _ hs).mono ?_
  rintro e w2 ⟨rfl, hb2⟩
  rw [hf]
  clear hf
  have B2 : Below w.heap.size w w2 := ((B0.out (.cells #[.int .i64 5, .int .i64 a, .int .i64 0, .string s] 33)).alloc (by simp) (.cells #[.int .i64 0, .string ByteArray.empty] 27)).trans (hb2.mono (by simp; omega))
  have hX : Own w2 w.heap.size 33 [.int .i64 5, .int .i64 a, .int .i64 0, .string s] := Own.below (Own.alloc ⟨_, heap_alloc_new _ _, rfl⟩ _) hb2 (by simp; omega)
  have hR : Own w2 (w.heap.size + 1) 27 [.int .i64 0, .string ByteArray.empty] := Own.below (second_own w _ _ _ rfl) hb2 (by simp)
  have r0 := hX.cell 0
  have r1 := hX.cell 1
  have r2 := hX.cell 2
  have r3 := hX.cell 3
  have y0 := hR.cell 0
  have y1 := hR.cell 1
  have z0 := hR.frozen 0
  have z1 := hR.frozen 1
  simp only [List.getElem?_cons_zero, List.getElem?_cons_succ] at r0 r1 r2 r3 y0 y1
  clear hb2 hX
  go_wp2_with fail
  refine (l1In_tok _ _ _ _).mono ?_
  rintro e w3 ⟨rfl, hw3⟩
  subst hw3
  rw [unhide hin2]
  clear hin2
  go_wp2_with fail
  refine ((unhide HT) _).mono ?_
  rintro e w4 ⟨rfl, hb4⟩
  have B4 : Below w.heap.size w w4 := B2.trans (hb4.mono B2.size)
  have hR4 := hR.below hb4 hR.lt
  clear y0 y1 z0 z1
  have y0 := hR4.cell 0
  have y1 := hR4.cell 1
  have z0 := hR4.frozen 0
  have z1 := hR4.frozen 1
  simp only [List.getElem?_cons_zero, List.getElem?_cons_succ] at y0 y1
  clear hb4 hR hR4 r0 r1 r2 r3
  generalize J.tokText 5 0 s = q at *
  go_wp2_with fail
  refine bodyPost_ret (v := .agg #[.int .i64 0, .string q]) (by simp [results, Tryz.results19, go_sem, y0, y1]) rfl ⟨by rw [unhide fin], ?_⟩
  exact (B4.setCell (Nat.le_succ _) _).setCell (Nat.le_succ _) _

set_option maxRecDepth 100000 in
set_option maxHeartbeats 1000000 in
theorem specTok_ok_6 (a n : Int) (s : ByteArray) (w : World) (hs : s.size ≤ 1048576) (hn : n = 0) (hf : J.tokFits 6 s = true) : Calls Tryz.prog 19 #[.agg #[.int .i64 6, .int .i64 a, .int .i64 n, .string s]] w fun e w' => e = .returned (.agg #[.int .i64 (J.tokOut 6 n s).1, .string (J.tokOut 6 n s).2]) ∧ Below w.heap.size w w' := by
  have B0 : Hid (∀ o, Below w.heap.size w (w.alloc o)) := fun o => (Below.refl _ _).alloc (Nat.le_refl _) o
  subst hn
  have fin := hide (J.tokOut_ok (k := 6) (by omega) (by omega) hf)
  have hin : (decide ((1 : Int) ≤ 6) && decide ((6 : Int) ≤ 6)) = true := by decide
  have hin2 := hide (in_yes (a := 0) (lo := 0) (hi := 1000000000000000) (by omega) (by omega))
  have HT := hide (fun w => l4Text_6 a 0 s w hs)
  go_enter Tryz.func19, Tryz.ntmps19
  go_wp2_with fail
  refine (l1In_tok _ _ _ _).mono ?_
  rintro e w1 ⟨rfl, hw1⟩
  subst hw1
  rw [hin]
  clear hin
  go_wp2_with fail
  refine (l4Fits_6 _ _ _ _ hs).mono ?_
  rintro e w2 ⟨rfl, hb2⟩
  rw [hf]
  clear hf
  have B2 : Below w.heap.size w w2 := ((B0.out (.cells #[.int .i64 6, .int .i64 a, .int .i64 0, .string s] 33)).alloc (by simp) (.cells #[.int .i64 0, .string ByteArray.empty] 27)).trans (hb2.mono (by simp; omega))
  have hX : Own w2 w.heap.size 33 [.int .i64 6, .int .i64 a, .int .i64 0, .string s] := Own.below (Own.alloc ⟨_, heap_alloc_new _ _, rfl⟩ _) hb2 (by simp; omega)
  have hR : Own w2 (w.heap.size + 1) 27 [.int .i64 0, .string ByteArray.empty] := Own.below (second_own w _ _ _ rfl) hb2 (by simp)
  have r0 := hX.cell 0
  have r1 := hX.cell 1
  have r2 := hX.cell 2
  have r3 := hX.cell 3
  have y0 := hR.cell 0
  have y1 := hR.cell 1
  have z0 := hR.frozen 0
  have z1 := hR.frozen 1
  simp only [List.getElem?_cons_zero, List.getElem?_cons_succ] at r0 r1 r2 r3 y0 y1
  clear hb2 hX
  go_wp2_with fail
  refine (l1In_tok _ _ _ _).mono ?_
  rintro e w3 ⟨rfl, hw3⟩
  subst hw3
  rw [unhide hin2]
  clear hin2
  go_wp2_with fail
  refine ((unhide HT) _).mono ?_
  rintro e w4 ⟨rfl, hb4⟩
  have B4 : Below w.heap.size w w4 := B2.trans (hb4.mono B2.size)
  have hR4 := hR.below hb4 hR.lt
  clear y0 y1 z0 z1
  have y0 := hR4.cell 0
  have y1 := hR4.cell 1
  have z0 := hR4.frozen 0
  have z1 := hR4.frozen 1
  simp only [List.getElem?_cons_zero, List.getElem?_cons_succ] at y0 y1
  clear hb4 hR hR4 r0 r1 r2 r3
  generalize J.tokText 6 0 s = q at *
  go_wp2_with fail
  refine bodyPost_ret (v := .agg #[.int .i64 0, .string q]) (by simp [results, Tryz.results19, go_sem, y0, y1]) rfl ⟨by rw [unhide fin], ?_⟩
  exact (B4.setCell (Nat.le_succ _) _).setCell (Nat.le_succ _) _

theorem specTok_any (k a n : Int) (s : ByteArray) (w : World) (hs : s.size ≤ 1048576) : Calls Tryz.prog 19 #[.agg #[.int .i64 k, .int .i64 a, .int .i64 n, .string s]] w fun e w' => e = .returned (.agg #[.int .i64 (J.tokOut k n s).1, .string (J.tokOut k n s).2]) ∧ Below w.heap.size w w' := by
  by_cases h : k < 1 ∨ 6 < k
  · exact specTok_kind k a n s w hs h
  by_cases e1 : k = 1
  · subst e1
    cases hf : J.tokFits 1 s with
    | false => exact specTok_form_1 a n s w hs hf
    | true =>
      by_cases hr : n < 0 ∨ 1000000000000000 < n
      · exact specTok_range a n s w hs hf hr
      · exact specTok_ok_1 a n s w hs hf (by omega) (by omega)
  by_cases e2 : k = 2
  · subst e2
    by_cases hn : n = 0
    · cases hf : J.tokFits 2 s with
      | false => exact specTok_form_2 a n s w hs hn hf
      | true => exact specTok_ok_2 a n s w hs hn hf
    · exact specTok_num_2 a n s w hs hn
  by_cases e3 : k = 3
  · subst e3
    by_cases hn : n = 0
    · cases hf : J.tokFits 3 s with
      | false => exact specTok_form_3 a n s w hs hn hf
      | true => exact specTok_ok_3 a n s w hs hn hf
    · exact specTok_num_3 a n s w hs hn
  by_cases e4 : k = 4
  · subst e4
    by_cases hn : n = 0
    · cases hf : J.tokFits 4 s with
      | false => exact specTok_form_4 a n s w hs hn hf
      | true => exact specTok_ok_4 a n s w hs hn hf
    · exact specTok_num_4 a n s w hs hn
  by_cases e5 : k = 5
  · subst e5
    by_cases hn : n = 0
    · cases hf : J.tokFits 5 s with
      | false => exact specTok_form_5 a n s w hs hn hf
      | true => exact specTok_ok_5 a n s w hs hn hf
    · exact specTok_num_5 a n s w hs hn
  by_cases e6 : k = 6
  · subst e6
    by_cases hn : n = 0
    · cases hf : J.tokFits 6 s with
      | false => exact specTok_form_6 a n s w hs hn hf
      | true => exact specTok_ok_6 a n s w hs hn hf
    · exact specTok_num_6 a n s w hs hn
  omega

end Go.Proofs.YtabpjknbdahddaaGreatDoor
