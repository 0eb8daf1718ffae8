/-
  impl.TokenText: it answers what J.tokOut says.
-/
import Derived.Test.YtabpjknbdahddaaGreatDoorTokM
import Derived.Test.YtabpjknbdahddaaGreatDoorNamT
import Derived.Test.YtabpjknbdahddaaGreatDoorEncT
import Derived.Test.YtabpjknbdahddaaGreatDoorShelfF
import Derived.Lib.AppendIntMem
import Derived.Sort.Grow
import Derived.Deep.RegionWith
namespace Go.Proofs.YtabpjknbdahddaaGreatDoor
open Go.RowKit Go.WideMaps Go.WideElems Go.Maps
set_option linter.unusedVariables false
set_option linter.unusedSimpArgs false

theorem empty_append (s : ByteArray) : ByteArray.empty ++ s = s := by
  have e : (ByteArray.empty ++ s).data = s.data := by rw [ByteArray.data_append]; simp
  cases h : (ByteArray.empty ++ s)
  rw [h] at e
  cases s
  simp only at e
  rw [e]
theorem below_grown_tok (w : World) (q : Nat) (os : Array Obj) : Below w.heap.size w (Sort.grow (w.drewN q) os) :=
  ⟨rfl, rfl, rfl, by first | (simp [Sort.grow]; done) | (simp [Sort.grow]; omega), fun i hi => by
    show ((w.drewN q).heap ++ os)[i]? = _
    rw [Array.getElem?_append_left (by show i < w.heap.size; omega)]
    rfl⟩
theorem mark_look2 (s : ByteArray) (hs : s.size ≤ maxLen) {w w1 : World} {o : Obj} (h : w1.ownsMap Tryz.prog 9 (plainElem (H := Unit) Tryz.prog 2) (w.alloc o).drew.heap.size 25 (mapD 25)) :
    ∃ c : Int, (Instr.lookup 49 (.map (some (w.heap.size + 1))) (.string s) false).run Tryz.prog w1 = .ok (.int .i64 c) w1 ∧ (c != 0) = oneOf theMarks s := by
  have e : (w.alloc o).drew.heap.size = w.heap.size + 1 := by show (w.alloc o).heap.size = _; simp
  rw [e] at h
  exact mark_look s hs _ w1 h
theorem kept_tok {w w1 : World} {v0 v1 v2 : Value} {s : ByteArray} {t : TypeId} (hb : Below (w.alloc (.cells #[v0, v1, v2, .string s] t)).drew.heap.size (w.alloc (.cells #[v0, v1, v2, .string s] t)).drew w1) : w1.cell? ⟨w.heap.size, 3, none⟩ = some (.string s) := by
  have ho : Own (w.alloc (.cells #[v0, v1, v2, .string s] t)) w.heap.size t [v0, v1, v2, .string s] := ⟨_, heap_alloc_new _ _, rfl⟩
  exact (hb.cell (p := ⟨w.heap.size, 3, none⟩) (by show w.heap.size < (w.alloc _).heap.size; simp)).trans (ho.cell 3)

set_option maxRecDepth 100000 in
set_option maxHeartbeats 1000000 in
theorem fieldsFit_1 (a n : Int) (s : ByteArray) (w : World) (hs : s.size ≤ 1048576) : Calls Tryz.prog 37 #[.agg #[.int .i64 1, .int .i64 a, .int .i64 n, .string s]] w fun e w' => e = .returned (.bool (J.tokFits 1 s)) ∧ Below w.heap.size w w' := by
  have B0 : Hid (∀ o, Below w.heap.size w (w.alloc o)) := fun o => (Below.refl _ _).alloc (Nat.le_refl _) o
  go_enter Tryz.func37, Tryz.ntmps37
  go_wp2_with fail
  go_ret
  exact ⟨rfl, B0.out _⟩

set_option maxRecDepth 100000 in
set_option maxHeartbeats 1000000 in
theorem fieldsFit_no_2 (a n : Int) (s : ByteArray) (w : World) (hs : s.size ≤ 1048576) (hn : n ≠ 0) : Calls Tryz.prog 37 #[.agg #[.int .i64 2, .int .i64 a, .int .i64 n, .string s]] w fun e w' => e = .returned (.bool false) ∧ Below w.heap.size w w' := by
  have B0 : Hid (∀ o, Below w.heap.size w (w.alloc o)) := fun o => (Below.refl _ _).alloc (Nat.le_refl _) o
  have hnz : (n != 0) = true := by simpa using hn
  clear hn
  go_enter Tryz.func37, Tryz.ntmps37
  go_wp2_with fail
  go_ret
  exact ⟨rfl, B0.out _⟩

set_option maxRecDepth 100000 in
set_option maxHeartbeats 1000000 in
theorem fieldsFit_no_3 (a n : Int) (s : ByteArray) (w : World) (hs : s.size ≤ 1048576) (hn : n ≠ 0) : Calls Tryz.prog 37 #[.agg #[.int .i64 3, .int .i64 a, .int .i64 n, .string s]] w fun e w' => e = .returned (.bool false) ∧ Below w.heap.size w w' := by
  have B0 : Hid (∀ o, Below w.heap.size w (w.alloc o)) := fun o => (Below.refl _ _).alloc (Nat.le_refl _) o
  have hnz : (n != 0) = true := by simpa using hn
  clear hn
  go_enter Tryz.func37, Tryz.ntmps37
  go_wp2_with fail
  go_ret
  exact ⟨rfl, B0.out _⟩

set_option maxRecDepth 100000 in
set_option maxHeartbeats 1000000 in
theorem fieldsFit_no_4 (a n : Int) (s : ByteArray) (w : World) (hs : s.size ≤ 1048576) (hn : n ≠ 0) : Calls Tryz.prog 37 #[.agg #[.int .i64 4, .int .i64 a, .int .i64 n, .string s]] w fun e w' => e = .returned (.bool false) ∧ Below w.heap.size w w' := by
  have B0 : Hid (∀ o, Below w.heap.size w (w.alloc o)) := fun o => (Below.refl _ _).alloc (Nat.le_refl _) o
  have hnz : (n != 0) = true := by simpa using hn
  clear hn
  go_enter Tryz.func37, Tryz.ntmps37
  go_wp2_with fail
  go_ret
  exact ⟨rfl, B0.out _⟩

set_option maxRecDepth 100000 in
set_option maxHeartbeats 1000000 in
theorem fieldsFit_no_5 (a n : Int) (s : ByteArray) (w : World) (hs : s.size ≤ 1048576) (hn : n ≠ 0) : Calls Tryz.prog 37 #[.agg #[.int .i64 5, .int .i64 a, .int .i64 n, .string s]] w fun e w' => e = .returned (.bool false) ∧ Below w.heap.size w w' := by
  have B0 : Hid (∀ o, Below w.heap.size w (w.alloc o)) := fun o => (Below.refl _ _).alloc (Nat.le_refl _) o
  have hnz : (n != 0) = true := by simpa using hn
  clear hn
  go_enter Tryz.func37, Tryz.ntmps37
  go_wp2_with fail
  go_ret
  exact ⟨rfl, B0.out _⟩

set_option maxRecDepth 100000 in
set_option maxHeartbeats 1000000 in
theorem fieldsFit_no_6 (a n : Int) (s : ByteArray) (w : World) (hs : s.size ≤ 1048576) (hn : n ≠ 0) : Calls Tryz.prog 37 #[.agg #[.int .i64 6, .int .i64 a, .int .i64 n, .string s]] w fun e w' => e = .returned (.bool false) ∧ Below w.heap.size w w' := by
  have B0 : Hid (∀ o, Below w.heap.size w (w.alloc o)) := fun o => (Below.refl _ _).alloc (Nat.le_refl _) o
  have hnz : (n != 0) = true := by simpa using hn
  clear hn
  go_enter Tryz.func37, Tryz.ntmps37
  go_wp2_with fail
  go_ret
  exact ⟨rfl, B0.out _⟩

set_option maxRecDepth 100000 in
set_option maxHeartbeats 1000000 in
theorem fieldsFit_2 (a n : Int) (s : ByteArray) (w : World) (hs : s.size ≤ 1048576) (hn : n = 0) : Calls Tryz.prog 37 #[.agg #[.int .i64 2, .int .i64 a, .int .i64 n, .string s]] w fun e w' => e = .returned (.bool (J.tokFits 2 s)) ∧ Below w.heap.size w w' := by
  have B0 : Hid (∀ o, Below w.heap.size w (w.alloc o)) := fun o => (Below.refl _ _).alloc (Nat.le_refl _) o
  subst hn
  have HT := hide (fun w => textFits_any s w (by omega))
  go_enter Tryz.func37, Tryz.ntmps37
  go_wp2_with fail
  refine ((unhide HT) _).mono ?_
  rintro e w1 ⟨rfl, hw1⟩
  subst hw1
  go_wp2_with fail
  go_ret
  exact ⟨rfl, B0.out _⟩

set_option maxRecDepth 100000 in
set_option maxHeartbeats 1000000 in
theorem fieldsFit_3 (a n : Int) (s : ByteArray) (w : World) (hs : s.size ≤ 1048576) (hn : n = 0) : Calls Tryz.prog 37 #[.agg #[.int .i64 3, .int .i64 a, .int .i64 n, .string s]] w fun e w' => e = .returned (.bool (J.tokFits 3 s)) ∧ Below w.heap.size w w' := by
  have B0 : Hid (∀ o, Below w.heap.size w (w.alloc o)) := fun o => (Below.refl _ _).alloc (Nat.le_refl _) o
  subst hn
  have HT := hide (fun w => implIsName_any s w (by omega))
  go_enter Tryz.func37, Tryz.ntmps37
  go_wp2_with fail
  refine ((unhide HT) _).mono ?_
  rintro e w1 ⟨rfl, hb1⟩
  have B1 : Below w.heap.size w w1 := (B0.out (.cells #[.int .i64 3, .int .i64 a, .int .i64 0, .string s] 33)).trans (hb1.mono (by simp))
  clear hb1
  go_wp2_with fail
  go_ret
  exact ⟨rfl, B1⟩

set_option maxRecDepth 100000 in
set_option maxHeartbeats 1000000 in
theorem fieldsFit_4 (a n : Int) (s : ByteArray) (w : World) (hs : s.size ≤ 1048576) (hn : n = 0) : Calls Tryz.prog 37 #[.agg #[.int .i64 4, .int .i64 a, .int .i64 n, .string s]] w fun e w' => e = .returned (.bool (J.tokFits 4 s)) ∧ Below w.heap.size w w' := by
  have B0 : Hid (∀ o, Below w.heap.size w (w.alloc o)) := fun o => (Below.refl _ _).alloc (Nat.le_refl _) o
  subst hn
  have HT := hide (fun w => implIsName_any s w (by omega))
  go_enter Tryz.func37, Tryz.ntmps37
  go_wp2_with fail
  refine ((unhide HT) _).mono ?_
  rintro e w1 ⟨rfl, hb1⟩
  have B1 : Below w.heap.size w w1 := (B0.out (.cells #[.int .i64 4, .int .i64 a, .int .i64 0, .string s] 33)).trans (hb1.mono (by simp))
  clear hb1
  go_wp2_with fail
  go_ret
  exact ⟨rfl, B1⟩

set_option maxRecDepth 100000 in
set_option maxHeartbeats 1000000 in
theorem fieldsFit_5 (a n : Int) (s : ByteArray) (w : World) (hs : s.size ≤ 1048576) (hn : n = 0) : Calls Tryz.prog 37 #[.agg #[.int .i64 5, .int .i64 a, .int .i64 n, .string s]] w fun e w' => e = .returned (.bool (J.tokFits 5 s)) ∧ Below w.heap.size w w' := by
  have B0 : Hid (∀ o, Below w.heap.size w (w.alloc o)) := fun o => (Below.refl _ _).alloc (Nat.le_refl _) o
  subst hn
  have HT := hide (fun w => implIsName_any s w (by omega))
  go_enter Tryz.func37, Tryz.ntmps37
  go_wp2_with fail
  refine ((unhide HT) _).mono ?_
  rintro e w1 ⟨rfl, hb1⟩
  have B1 : Below w.heap.size w w1 := (B0.out (.cells #[.int .i64 5, .int .i64 a, .int .i64 0, .string s] 33)).trans (hb1.mono (by simp))
  clear hb1
  go_wp2_with fail
  go_ret
  exact ⟨rfl, B1⟩

set_option maxRecDepth 100000 in
set_option maxHeartbeats 1000000 in
theorem fieldsFit_6 (a n : Int) (s : ByteArray) (w : World) (hs : s.size ≤ 1048576) (hn : n = 0) : Calls Tryz.prog 37 #[.agg #[.int .i64 6, .int .i64 a, .int .i64 n, .string s]] w fun e w' => e = .returned (.bool (J.tokFits 6 s)) ∧ Below w.heap.size w w' := by
  have B0 : Hid (∀ o, Below w.heap.size w (w.alloc o)) := fun o => (Below.refl _ _).alloc (Nat.le_refl _) o
  subst hn
  have hml : s.size ≤ maxLen := by unfold maxLen; omega
  go_enter Tryz.func37, Tryz.ntmps37
  go_wp2_with fail
  go_region_with (go_at_call 20; refine (markNumbers_any _).mono ?_; rintro e w1 ⟨rfl, hm1, hb1⟩; obtain ⟨c, hrun, hc⟩ := mark_look2 s hml hm1; have f3 := kept_tok hb1)
  all_goals
    have B1 : Below w.heap.size w w1 := ((B0.out (.cells #[.int .i64 6, .int .i64 a, .int .i64 0, .string s] 33)).drew).trans (hb1.mono (by show w.heap.size ≤ (w.alloc _).heap.size; simp))
    have HC := hide hc
    clear hm1 hb1 hc
    go_wp2_with fail
    go_ret
    exact ⟨ret_bool (show oneOf theMarks s = J.tokFits 6 s from rfl), B1⟩

set_option maxHeartbeats 1000000 in
theorem nameSign_3 (w : World) : Calls Tryz.prog 40 #[.int .i64 3] w fun e w' => e = .returned (.string ByteArray.empty) ∧ w' = w := by
  go_enter Tryz.func40, Tryz.ntmps40
  go_wp2_with fail
  go_ret
  exact ⟨rfl, rfl⟩

set_option maxHeartbeats 1000000 in
theorem nameSign_4 (w : World) : Calls Tryz.prog 40 #[.int .i64 4] w fun e w' => e = .returned (.string ⟨#[46]⟩) ∧ w' = w := by
  go_enter Tryz.func40, Tryz.ntmps40
  go_wp2_with fail
  go_ret
  exact ⟨rfl, rfl⟩

set_option maxHeartbeats 1000000 in
theorem nameSign_5 (w : World) : Calls Tryz.prog 40 #[.int .i64 5] w fun e w' => e = .returned (.string ⟨#[36]⟩) ∧ w' = w := by
  go_enter Tryz.func40, Tryz.ntmps40
  go_wp2_with fail
  go_ret
  exact ⟨rfl, rfl⟩

set_option maxHeartbeats 1000000 in
theorem nameSign_6 (w : World) : Calls Tryz.prog 40 #[.int .i64 6] w fun e w' => e = .returned (.string ByteArray.empty) ∧ w' = w := by
  go_enter Tryz.func40, Tryz.ntmps40
  go_wp2_with fail
  go_ret
  exact ⟨rfl, rfl⟩

set_option maxRecDepth 100000 in
set_option maxHeartbeats 1000000 in
theorem implTok_kind_lo (k a n : Int) (s : ByteArray) (w : World) (hs : s.size ≤ 1048576) (h : k < 1) : Calls Tryz.prog 17 #[.agg #[.int .i64 k, .int .i64 a, .int .i64 n, .string s]] w fun e w' => e = .returned (.agg #[.int .i64 (J.tokOut k n s).1, .string (J.tokOut k n s).2]) ∧ Below w.heap.size w w' := by
  have B0 : Hid (∀ o, Below w.heap.size w (w.alloc o)) := fun o => (Below.refl _ _).alloc (Nat.le_refl _) o
  have fin := hide (J.tokOut_kind n s (.inl h))
  go_enter Tryz.func17, Tryz.ntmps17
  go_wp2_with fail
  refine bodyPost_ret (v := .agg #[.int .i64 6, .string ByteArray.empty]) (by simp [results, Tryz.results17, go_sem]; rfl) rfl ⟨by rw [unhide fin], ?_⟩
  exact (B0.out _).alloc (by simp) _

set_option maxRecDepth 100000 in
set_option maxHeartbeats 1000000 in
theorem implTok_kind_hi (k a n : Int) (s : ByteArray) (w : World) (hs : s.size ≤ 1048576) (h : 6 < k) : Calls Tryz.prog 17 #[.agg #[.int .i64 k, .int .i64 a, .int .i64 n, .string s]] w fun e w' => e = .returned (.agg #[.int .i64 (J.tokOut k n s).1, .string (J.tokOut k n s).2]) ∧ Below w.heap.size w w' := by
  have B0 : Hid (∀ o, Below w.heap.size w (w.alloc o)) := fun o => (Below.refl _ _).alloc (Nat.le_refl _) o
  have fin := hide (J.tokOut_kind n s (.inr h))
  have h1 : ¬ k < 1 := by omega
  go_enter Tryz.func17, Tryz.ntmps17
  go_wp2_with fail
  refine bodyPost_ret (v := .agg #[.int .i64 6, .string ByteArray.empty]) (by simp [results, Tryz.results17, go_sem]; rfl) rfl ⟨by rw [unhide fin], ?_⟩
  exact (B0.out _).alloc (by simp) _

set_option maxRecDepth 100000 in
set_option maxHeartbeats 1000000 in
theorem implTok_num_2 (a n : Int) (s : ByteArray) (w : World) (hs : s.size ≤ 1048576) (hn : n ≠ 0) : Calls Tryz.prog 17 #[.agg #[.int .i64 2, .int .i64 a, .int .i64 n, .string s]] w fun e w' => e = .returned (.agg #[.int .i64 (J.tokOut 2 n s).1, .string (J.tokOut 2 n s).2]) ∧ Below w.heap.size w w' := by
  have B0 : Hid (∀ o, Below w.heap.size w (w.alloc o)) := fun o => (Below.refl _ _).alloc (Nat.le_refl _) o
  have fin := hide (J.tokOut_num (k := 2) s (by omega) (by omega) hn)
  have HF := hide (fun w => fieldsFit_no_2 a n s w hs hn)
  clear hn
  go_enter Tryz.func17, Tryz.ntmps17
  go_wp2_with fail
  refine ((unhide HF) _).mono ?_
  rintro e w2 ⟨rfl, hb2⟩
  have B2 : Below w.heap.size w w2 := ((B0.out (.cells #[.int .i64 2, .int .i64 a, .int .i64 n, .string s] 33)).alloc (by simp) (.cells #[.int .i64 0, .string ByteArray.empty] 27)).trans (hb2.mono (by simp; omega))
  have hX : Own w2 w.heap.size 33 [.int .i64 2, .int .i64 a, .int .i64 n, .string s] := Own.below (Own.alloc ⟨_, heap_alloc_new _ _, rfl⟩ _) hb2 (by simp; omega)
  have hR : Own w2 (w.heap.size + 1) 27 [.int .i64 0, .string ByteArray.empty] := Own.below (second_own w _ _ _ rfl) hb2 (by simp)
  have r0 := hX.cell 0
  have r1 := hX.cell 1
  have r2 := hX.cell 2
  have r3 := hX.cell 3
  have y0 := hR.cell 0
  have y1 := hR.cell 1
  have z0 := hR.frozen 0
  have z1 := hR.frozen 1
  simp only [List.getElem?_cons_zero, List.getElem?_cons_succ] at r0 r1 r2 r3 y0 y1
  clear hb2 hX
  go_wp2_with fail
  refine bodyPost_ret (v := .agg #[.int .i64 1, .string ByteArray.empty]) (by simp [results, Tryz.results17, go_sem, y0, y1]; rfl) rfl ⟨by rw [unhide fin], ?_⟩
  exact (B2.setCell (Nat.le_succ _) _).setCell (Nat.le_succ _) _

set_option maxRecDepth 100000 in
set_option maxHeartbeats 1000000 in
theorem implTok_num_3 (a n : Int) (s : ByteArray) (w : World) (hs : s.size ≤ 1048576) (hn : n ≠ 0) : Calls Tryz.prog 17 #[.agg #[.int .i64 3, .int .i64 a, .int .i64 n, .string s]] w fun e w' => e = .returned (.agg #[.int .i64 (J.tokOut 3 n s).1, .string (J.tokOut 3 n s).2]) ∧ Below w.heap.size w w' := by
  have B0 : Hid (∀ o, Below w.heap.size w (w.alloc o)) := fun o => (Below.refl _ _).alloc (Nat.le_refl _) o
  have fin := hide (J.tokOut_num (k := 3) s (by omega) (by omega) hn)
  have HF := hide (fun w => fieldsFit_no_3 a n s w hs hn)
  clear hn
  go_enter Tryz.func17, Tryz.ntmps17
  go_wp2_with fail
  refine ((unhide HF) _).mono ?_
  rintro e w2 ⟨rfl, hb2⟩
  have B2 : Below w.heap.size w w2 := ((B0.out (.cells #[.int .i64 3, .int .i64 a, .int .i64 n, .string s] 33)).alloc (by simp) (.cells #[.int .i64 0, .string ByteArray.empty] 27)).trans (hb2.mono (by simp; omega))
  have hX : Own w2 w.heap.size 33 [.int .i64 3, .int .i64 a, .int .i64 n, .string s] := Own.below (Own.alloc ⟨_, heap_alloc_new _ _, rfl⟩ _) hb2 (by simp; omega)
  have hR : Own w2 (w.heap.size + 1) 27 [.int .i64 0, .string ByteArray.empty] := Own.below (second_own w _ _ _ rfl) hb2 (by simp)
  have r0 := hX.cell 0
  have r1 := hX.cell 1
  have r2 := hX.cell 2
  have r3 := hX.cell 3
  have y0 := hR.cell 0
  have y1 := hR.cell 1
  have z0 := hR.frozen 0
  have z1 := hR.frozen 1
  simp only [List.getElem?_cons_zero, List.getElem?_cons_succ] at r0 r1 r2 r3 y0 y1
  clear hb2 hX
  go_wp2_with fail
  refine bodyPost_ret (v := .agg #[.int .i64 1, .string ByteArray.empty]) (by simp [results, Tryz.results17, go_sem, y0, y1]; rfl) rfl ⟨by rw [unhide fin], ?_⟩
  exact (B2.setCell (Nat.le_succ _) _).setCell (Nat.le_succ _) _

set_option maxRecDepth 100000 in
set_option maxHeartbeats 1000000 in
theorem implTok_num_4 (a n : Int) (s : ByteArray) (w : World) (hs : s.size ≤ 1048576) (hn : n ≠ 0) : Calls Tryz.prog 17 #[.agg #[.int .i64 4, .int .i64 a, .int .i64 n, .string s]] w fun e w' => e = .returned (.agg #[.int .i64 (J.tokOut 4 n s).1, .string (J.tokOut 4 n s).2]) ∧ Below w.heap.size w w' := by
  have B0 : Hid (∀ o, Below w.heap.size w (w.alloc o)) := fun o => (Below.refl _ _).alloc (Nat.le_refl _) o
  have fin := hide (J.tokOut_num (k := 4) s (by omega) (by omega) hn)
  have HF := hide (fun w => fieldsFit_no_4 a n s w hs hn)
  clear hn
  go_enter Tryz.func17, Tryz.ntmps17
  go_wp2_with fail
  refine ((unhide HF) _).mono ?_
  rintro e w2 ⟨rfl, hb2⟩
  have B2 : Below w.heap.size w w2 := ((B0.out (.cells #[.int .i64 4, .int .i64 a, .int .i64 n, .string s] 33)).alloc (by simp) (.cells #[.int .i64 0, .string ByteArray.empty] 27)).trans (hb2.mono (by simp; omega))
  have hX : Own w2 w.heap.size 33 [.int .i64 4, .int .i64 a, .int .i64 n, .string s] := Own.below (Own.alloc ⟨_, heap_alloc_new _ _, rfl⟩ _) hb2 (by simp; omega)
  have hR : Own w2 (w.heap.size + 1) 27 [.int .i64 0, .string ByteArray.empty] := Own.below (second_own w _ _ _ rfl) hb2 (by simp)
  have r0 := hX.cell 0
  have r1 := hX.cell 1
  have r2 := hX.cell 2
  have r3 := hX.cell 3
  have y0 := hR.cell 0
  have y1 := hR.cell 1
  have z0 := hR.frozen 0
  have z1 := hR.frozen 1
  simp only [List.getElem?_cons_zero, List.getElem?_cons_succ] at r0 r1 r2 r3 y0 y1
  clear hb2 hX
  go_wp2_with fail
  refine bodyPost_ret (v := .agg #[.int .i64 1, .string ByteArray.empty]) (by simp [results, Tryz.results17, go_sem, y0, y1]; rfl) rfl ⟨by rw [unhide fin], ?_⟩
  exact (B2.setCell (Nat.le_succ _) _).setCell (Nat.le_succ _) _

set_option maxRecDepth 100000 in
set_option maxHeartbeats 1000000 in
theorem implTok_num_5 (a n : Int) (s : ByteArray) (w : World) (hs : s.size ≤ 1048576) (hn : n ≠ 0) : Calls Tryz.prog 17 #[.agg #[.int .i64 5, .int .i64 a, .int .i64 n, .string s]] w fun e w' => e = .returned (.agg #[.int .i64 (J.tokOut 5 n s).1, .string (J.tokOut 5 n s).2]) ∧ Below w.heap.size w w' := by
  have B0 : Hid (∀ o, Below w.heap.size w (w.alloc o)) := fun o => (Below.refl _ _).alloc (Nat.le_refl _) o
  have fin := hide (J.tokOut_num (k := 5) s (by omega) (by omega) hn)
  have HF := hide (fun w => fieldsFit_no_5 a n s w hs hn)
  clear hn
  go_enter Tryz.func17, Tryz.ntmps17
  go_wp2_with fail
  refine ((unhide HF) _).mono ?_
  rintro e w2 ⟨rfl, hb2⟩
  have B2 : Below w.heap.size w w2 := ((B0.out (.cells #[.int .i64 5, .int .i64 a, .int .i64 n, .string s] 33)).alloc (by simp) (.cells #[.int .i64 0, .string ByteArray.empty] 27)).trans (hb2.mono (by simp; omega))
  have hX : Own w2 w.heap.size 33 [.int .i64 5, .int .i64 a, .int .i64 n, .string s] := Own.below (Own.alloc ⟨_, heap_alloc_new _ _, rfl⟩ _) hb2 (by simp; omega)
  have hR : Own w2 (w.heap.size + 1) 27 [.int .i64 0, .string ByteArray.empty] := Own.below (second_own w _ _ _ rfl) hb2 (by simp)
  have r0 := hX.cell 0
  have r1 := hX.cell 1
  have r2 := hX.cell 2
  have r3 := hX.cell 3
  have y0 := hR.cell 0
  have y1 := hR.cell 1
  have z0 := hR.frozen 0
  have z1 := hR.frozen 1
  simp only [List.getElem?_cons_zero, List.getElem?_cons_succ] at r0 r1 r2 r3 y0 y1
  clear hb2 hX
  go_wp2_with fail
  refine bodyPost_ret (v := .agg #[.int .i64 1, .string ByteArray.empty]) (by simp [results, Tryz.results17, go_sem, y0, y1]; rfl) rfl ⟨by rw [unhide fin], ?_⟩
  exact (B2.setCell (Nat.le_succ _) _).setCell (Nat.le_succ _) _

set_option maxRecDepth 100000 in
set_option maxHeartbeats 1000000 in
theorem implTok_num_6 (a n : Int) (s : ByteArray) (w : World) (hs : s.size ≤ 1048576) (hn : n ≠ 0) : Calls Tryz.prog 17 #[.agg #[.int .i64 6, .int .i64 a, .int .i64 n, .string s]] w fun e w' => e = .returned (.agg #[.int .i64 (J.tokOut 6 n s).1, .string (J.tokOut 6 n s).2]) ∧ Below w.heap.size w w' := by
  have B0 : Hid (∀ o, Below w.heap.size w (w.alloc o)) := fun o => (Below.refl _ _).alloc (Nat.le_refl _) o
  have fin := hide (J.tokOut_num (k := 6) s (by omega) (by omega) hn)
  have HF := hide (fun w => fieldsFit_no_6 a n s w hs hn)
  clear hn
  go_enter Tryz.func17, Tryz.ntmps17
  go_wp2_with fail
  refine ((unhide HF) _).mono ?_
  rintro e w2 ⟨rfl, hb2⟩
  have B2 : Below w.heap.size w w2 := ((B0.out (.cells #[.int .i64 6, .int .i64 a, .int .i64 n, .string s] 33)).alloc (by simp) (.cells #[.int .i64 0, .string ByteArray.empty] 27)).trans (hb2.mono (by simp; omega))
  have hX : Own w2 w.heap.size 33 [.int .i64 6, .int .i64 a, .int .i64 n, .string s] := Own.below (Own.alloc ⟨_, heap_alloc_new _ _, rfl⟩ _) hb2 (by simp; omega)
  have hR : Own w2 (w.heap.size + 1) 27 [.int .i64 0, .string ByteArray.empty] := Own.below (second_own w _ _ _ rfl) hb2 (by simp)
  have r0 := hX.cell 0
  have r1 := hX.cell 1
  have r2 := hX.cell 2
  have r3 := hX.cell 3
  have y0 := hR.cell 0
  have y1 := hR.cell 1
  have z0 := hR.frozen 0
  have z1 := hR.frozen 1
  simp only [List.getElem?_cons_zero, List.getElem?_cons_succ] at r0 r1 r2 r3 y0 y1
  clear hb2 hX
  go_wp2_with fail
  refine bodyPost_ret (v := .agg #[.int .i64 1, .string ByteArray.empty]) (by simp [results, Tryz.results17, go_sem, y0, y1]; rfl) rfl ⟨by rw [unhide fin], ?_⟩
  exact (B2.setCell (Nat.le_succ _) _).setCell (Nat.le_succ _) _

set_option maxRecDepth 100000 in
set_option maxHeartbeats 1000000 in
theorem implTok_form_1 (a n : Int) (s : ByteArray) (w : World) (hs : s.size ≤ 1048576) (hf : J.tokFits 1 s = false) : Calls Tryz.prog 17 #[.agg #[.int .i64 1, .int .i64 a, .int .i64 n, .string s]] w fun e w' => e = .returned (.agg #[.int .i64 (J.tokOut 1 n s).1, .string (J.tokOut 1 n s).2]) ∧ Below w.heap.size w w' := by
  have B0 : Hid (∀ o, Below w.heap.size w (w.alloc o)) := fun o => (Below.refl _ _).alloc (Nat.le_refl _) o
  have fin := hide (J.tokOut_form (k := 1) (n := n) (by omega) (by omega) hf)
  have HF := hide (fun w => fieldsFit_1 a n s w hs)
  rw [hf] at HF
  clear hf
  go_enter Tryz.func17, Tryz.ntmps17
  go_wp2_with fail
  refine ((unhide HF) _).mono ?_
  rintro e w2 ⟨rfl, hb2⟩
  have B2 : Below w.heap.size w w2 := ((B0.out (.cells #[.int .i64 1, .int .i64 a, .int .i64 n, .string s] 33)).alloc (by simp) (.cells #[.int .i64 0, .string ByteArray.empty] 27)).trans (hb2.mono (by simp; omega))
  have hX : Own w2 w.heap.size 33 [.int .i64 1, .int .i64 a, .int .i64 n, .string s] := Own.below (Own.alloc ⟨_, heap_alloc_new _ _, rfl⟩ _) hb2 (by simp; omega)
  have hR : Own w2 (w.heap.size + 1) 27 [.int .i64 0, .string ByteArray.empty] := Own.below (second_own w _ _ _ rfl) hb2 (by simp)
  have r0 := hX.cell 0
  have r1 := hX.cell 1
  have r2 := hX.cell 2
  have r3 := hX.cell 3
  have y0 := hR.cell 0
  have y1 := hR.cell 1
  have z0 := hR.frozen 0
  have z1 := hR.frozen 1
  simp only [List.getElem?_cons_zero, List.getElem?_cons_succ] at r0 r1 r2 r3 y0 y1
  clear hb2 hX
  go_wp2_with fail
  refine bodyPost_ret (v := .agg #[.int .i64 1, .string ByteArray.empty]) (by simp [results, Tryz.results17, go_sem, y0, y1]; rfl) rfl ⟨by rw [unhide fin], ?_⟩
  exact (B2.setCell (Nat.le_succ _) _).setCell (Nat.le_succ _) _

set_option maxRecDepth 100000 in
set_option maxHeartbeats 1000000 in
theorem implTok_form_2 (a n : Int) (s : ByteArray) (w : World) (hs : s.size ≤ 1048576) (hn : n = 0) (hf : J.tokFits 2 s = false) : Calls Tryz.prog 17 #[.agg #[.int .i64 2, .int .i64 a, .int .i64 n, .string s]] w fun e w' => e = .returned (.agg #[.int .i64 (J.tokOut 2 n s).1, .string (J.tokOut 2 n s).2]) ∧ Below w.heap.size w w' := by
  have B0 : Hid (∀ o, Below w.heap.size w (w.alloc o)) := fun o => (Below.refl _ _).alloc (Nat.le_refl _) o
  subst hn
  have fin := hide (J.tokOut_form (k := 2) (n := 0) (by omega) (by omega) hf)
  have HF := hide (fun w => fieldsFit_2 a 0 s w hs rfl)
  rw [hf] at HF
  clear hf
  go_enter Tryz.func17, Tryz.ntmps17
  go_wp2_with fail
  refine ((unhide HF) _).mono ?_
  rintro e w2 ⟨rfl, hb2⟩
  have B2 : Below w.heap.size w w2 := ((B0.out (.cells #[.int .i64 2, .int .i64 a, .int .i64 0, .string s] 33)).alloc (by simp) (.cells #[.int .i64 0, .string ByteArray.empty] 27)).trans (hb2.mono (by simp; omega))
  have hX : Own w2 w.heap.size 33 [.int .i64 2, .int .i64 a, .int .i64 0, .string s] := Own.below (Own.alloc ⟨_, heap_alloc_new _ _, rfl⟩ _) hb2 (by simp; omega)
  have hR : Own w2 (w.heap.size + 1) 27 [.int .i64 0, .string ByteArray.empty] := Own.below (second_own w _ _ _ rfl) hb2 (by simp)
  have r0 := hX.cell 0
  have r1 := hX.cell 1
  have r2 := hX.cell 2
  have r3 := hX.cell 3
  have y0 := hR.cell 0
  have y1 := hR.cell 1
  have z0 := hR.frozen 0
  have z1 := hR.frozen 1
  simp only [List.getElem?_cons_zero, List.getElem?_cons_succ] at r0 r1 r2 r3 y0 y1
  clear hb2 hX
  go_wp2_with fail
  refine bodyPost_ret (v := .agg #[.int .i64 1, .string ByteArray.empty]) (by simp [results, Tryz.results17, go_sem, y0, y1]; rfl) rfl ⟨by rw [unhide fin], ?_⟩
  exact (B2.setCell (Nat.le_succ _) _).setCell (Nat.le_succ _) _

set_option maxRecDepth 100000 in
set_option maxHeartbeats 1000000 in
theorem implTok_form_3 (a n : Int) (s : ByteArray) (w : World) (hs : s.size ≤ 1048576) (hn : n = 0) (hf : J.tokFits 3 s = false) : Calls Tryz.prog 17 #[.agg #[.int .i64 3, .int .i64 a, .int .i64 n, .string s]] w fun e w' => e = .returned (.agg #[.int .i64 (J.tokOut 3 n s).1, .string (J.tokOut 3 n s).2]) ∧ Below w.heap.size w w' := by
  have B0 : Hid (∀ o, Below w.heap.size w (w.alloc o)) := fun o => (Below.refl _ _).alloc (Nat.le_refl _) o
  subst hn
  have fin := hide (J.tokOut_form (k := 3) (n := 0) (by omega) (by omega) hf)
  have HF := hide (fun w => fieldsFit_3 a 0 s w hs rfl)
  rw [hf] at HF
  clear hf
  go_enter Tryz.func17, Tryz.ntmps17
  go_wp2_with fail
  refine ((unhide HF) _).mono ?_
  rintro e w2 ⟨rfl, hb2⟩
  have B2 : Below w.heap.size w w2 := ((B0.out (.cells #[.int .i64 3, .int .i64 a, .int .i64 0, .string s] 33)).alloc (by simp) (.cells #[.int .i64 0, .string ByteArray.empty] 27)).trans (hb2.mono (by simp; omega))
  have hX : Own w2 w.heap.size 33 [.int .i64 3, .int .i64 a, .int .i64 0, .string s] := Own.below (Own.alloc ⟨_, heap_alloc_new _ _, rfl⟩ _) hb2 (by simp; omega)
  have hR : Own w2 (w.heap.size + 1) 27 [.int .i64 0, .string ByteArray.empty] := Own.below (second_own w _ _ _ rfl) hb2 (by simp)
  have r0 := hX.cell 0
  have r1 := hX.cell 1
  have r2 := hX.cell 2
  have r3 := hX.cell 3
  have y0 := hR.cell 0
  have y1 := hR.cell 1
  have z0 := hR.frozen 0
  have z1 := hR.frozen 1
  simp only [List.getElem?_cons_zero, List.getElem?_cons_succ] at r0 r1 r2 r3 y0 y1
  clear hb2 hX
  go_wp2_with fail
  refine bodyPost_ret (v := .agg #[.int .i64 1, .string ByteArray.empty]) (by simp [results, Tryz.results17, go_sem, y0, y1]; rfl) rfl ⟨by rw [unhide fin], ?_⟩
  exact (B2.setCell (Nat.le_succ _) _).setCell (Nat.le_succ _) _

set_option maxRecDepth 100000 in
set_option maxHeartbeats 1000000 in
theorem implTok_form_4 (a n : Int) (s : ByteArray) (w : World) (hs : s.size ≤ 1048576) (hn : n = 0) (hf : J.tokFits 4 s = false) : Calls Tryz.prog 17 #[.agg #[.int .i64 4, .int .i64 a, .int .i64 n, .string s]] w fun e w' => e = .returned (.agg #[.int .i64 (J.tokOut 4 n s).1, .string (J.tokOut 4 n s).2]) ∧ Below w.heap.size w w' := by
  have B0 : Hid (∀ o, Below w.heap.size w (w.alloc o)) := fun o => (Below.refl _ _).alloc (Nat.le_refl _) o
  subst hn
  have fin := hide (J.tokOut_form (k := 4) (n := 0) (by omega) (by omega) hf)
  have HF := hide (fun w => fieldsFit_4 a 0 s w hs rfl)
  rw [hf] at HF
  clear hf
  go_enter Tryz.func17, Tryz.ntmps17
  go_wp2_with fail
  refine ((unhide HF) _).mono ?_
  rintro e w2 ⟨rfl, hb2⟩
  have B2 : Below w.heap.size w w2 := ((B0.out (.cells #[.int .i64 4, .int .i64 a, .int .i64 0, .string s] 33)).alloc (by simp) (.cells #[.int .i64 0, .string ByteArray.empty] 27)).trans (hb2.mono (by simp; omega))
  have hX : Own w2 w.heap.size 33 [.int .i64 4, .int .i64 a, .int .i64 0, .string s] := Own.below (Own.alloc ⟨_, heap_alloc_new _ _, rfl⟩ _) hb2 (by simp; omega)
  have hR : Own w2 (w.heap.size + 1) 27 [.int .i64 0, .string ByteArray.empty] := Own.below (second_own w _ _ _ rfl) hb2 (by simp)
  have r0 := hX.cell 0
  have r1 := hX.cell 1
  have r2 := hX.cell 2
  have r3 := hX.cell 3
  have y0 := hR.cell 0
  have y1 := hR.cell 1
  have z0 := hR.frozen 0
  have z1 := hR.frozen 1
  simp only [List.getElem?_cons_zero, List.getElem?_cons_succ] at r0 r1 r2 r3 y0 y1
  clear hb2 hX
  go_wp2_with fail
  refine bodyPost_ret (v := .agg #[.int .i64 1, .string ByteArray.empty]) (by simp [results, Tryz.results17, go_sem, y0, y1]; rfl) rfl ⟨by rw [unhide fin], ?_⟩
  exact (B2.setCell (Nat.le_succ _) _).setCell (Nat.le_succ _) _

set_option maxRecDepth 100000 in
set_option maxHeartbeats 1000000 in
theorem implTok_form_5 (a n : Int) (s : ByteArray) (w : World) (hs : s.size ≤ 1048576) (hn : n = 0) (hf : J.tokFits 5 s = false) : Calls Tryz.prog 17 #[.agg #[.int .i64 5, .int .i64 a, .int .i64 n, .string s]] w fun e w' => e = .returned (.agg #[.int .i64 (J.tokOut 5 n s).1, .string (J.tokOut 5 n s).2]) ∧ Below w.heap.size w w' := by
  have B0 : Hid (∀ o, Below w.heap.size w (w.alloc o)) := fun o => (Below.refl _ _).alloc (Nat.le_refl _) o
  subst hn
  have fin := hide (J.tokOut_form (k := 5) (n := 0) (by omega) (by omega) hf)
  have HF := hide (fun w => fieldsFit_5 a 0 s w hs rfl)
  rw [hf] at HF
  clear hf
  go_enter Tryz.func17, Tryz.ntmps17
  go_wp2_with fail
  refine ((unhide HF) _).mono ?_
  rintro e w2 ⟨rfl, hb2⟩
  have B2 : Below w.heap.size w w2 := ((B0.out (.cells #[.int .i64 5, .int .i64 a, .int .i64 0, .string s] 33)).alloc (by simp) (.cells #[.int .i64 0, .string ByteArray.empty] 27)).trans (hb2.mono (by simp; omega))
  have hX : Own w2 w.heap.size 33 [.int .i64 5, .int .i64 a, .int .i64 0, .string s] := Own.below (Own.alloc ⟨_, heap_alloc_new _ _, rfl⟩ _) hb2 (by simp; omega)
  have hR : Own w2 (w.heap.size + 1) 27 [.int .i64 0, .string ByteArray.empty] := Own.below (second_own w _ _ _ rfl) hb2 (by simp)
  have r0 := hX.cell 0
  have r1 := hX.cell 1
  have r2 := hX.cell 2
  have r3 := hX.cell 3
  have y0 := hR.cell 0
  have y1 := hR.cell 1
  have z0 := hR.frozen 0
  have z1 := hR.frozen 1
  simp only [List.getElem?_cons_zero, List.getElem?_cons_succ] at r0 r1 r2 r3 y0 y1
  clear hb2 hX
  go_wp2_with fail
  refine bodyPost_ret (v := .agg #[.int .i64 1, .string ByteArray.empty]) (by simp [results, Tryz.results17, go_sem, y0, y1]; rfl) rfl ⟨by rw [unhide fin], ?_⟩
  exact (B2.setCell (Nat.le_succ _) _).setCell (Nat.le_succ _) _

set_option maxRecDepth 100000 in
set_option maxHeartbeats 1000000 in
theorem implTok_form_6 (a n : Int) (s : ByteArray) (w : World) (hs : s.size ≤ 1048576) (hn : n = 0) (hf : J.tokFits 6 s = false) : Calls Tryz.prog 17 #[.agg #[.int .i64 6, .int .i64 a, .int .i64 n, .string s]] w fun e w' => e = .returned (.agg #[.int .i64 (J.tokOut 6 n s).1, .string (J.tokOut 6 n s).2]) ∧ Below w.heap.size w w' := by
  have B0 : Hid (∀ o, Below w.heap.size w (w.alloc o)) := fun o => (Below.refl _ _).alloc (Nat.le_refl _) o
  subst hn
  have fin := hide (J.tokOut_form (k := 6) (n := 0) (by omega) (by omega) hf)
  have HF := hide (fun w => fieldsFit_6 a 0 s w hs rfl)
  rw [hf] at HF
  clear hf
  go_enter Tryz.func17, Tryz.ntmps17
  go_wp2_with fail
  refine ((unhide HF) _).mono ?_
  rintro e w2 ⟨rfl, hb2⟩
  have B2 : Below w.heap.size w w2 := ((B0.out (.cells #[.int .i64 6, .int .i64 a, .int .i64 0, .string s] 33)).alloc (by simp) (.cells #[.int .i64 0, .string ByteArray.empty] 27)).trans (hb2.mono (by simp; omega))
  have hX : Own w2 w.heap.size 33 [.int .i64 6, .int .i64 a, .int .i64 0, .string s] := Own.below (Own.alloc ⟨_, heap_alloc_new _ _, rfl⟩ _) hb2 (by simp; omega)
  have hR : Own w2 (w.heap.size + 1) 27 [.int .i64 0, .string ByteArray.empty] := Own.below (second_own w _ _ _ rfl) hb2 (by simp)
  have r0 := hX.cell 0
  have r1 := hX.cell 1
  have r2 := hX.cell 2
  have r3 := hX.cell 3
  have y0 := hR.cell 0
  have y1 := hR.cell 1
  have z0 := hR.frozen 0
  have z1 := hR.frozen 1
  simp only [List.getElem?_cons_zero, List.getElem?_cons_succ] at r0 r1 r2 r3 y0 y1
  clear hb2 hX
  go_wp2_with fail
  refine bodyPost_ret (v := .agg #[.int .i64 1, .string ByteArray.empty]) (by simp [results, Tryz.results17, go_sem, y0, y1]; rfl) rfl ⟨by rw [unhide fin], ?_⟩
  exact (B2.setCell (Nat.le_succ _) _).setCell (Nat.le_succ _) _

set_option maxRecDepth 100000 in
set_option maxHeartbeats 1000000 in
theorem implTok_range_lo (a n : Int) (s : ByteArray) (w : World) (hs : s.size ≤ 1048576) (hf : J.tokFits 1 s = true) (h : n < 0) : Calls Tryz.prog 17 #[.agg #[.int .i64 1, .int .i64 a, .int .i64 n, .string s]] w fun e w' => e = .returned (.agg #[.int .i64 (J.tokOut 1 n s).1, .string (J.tokOut 1 n s).2]) ∧ Below w.heap.size w w' := by
  have B0 : Hid (∀ o, Below w.heap.size w (w.alloc o)) := fun o => (Below.refl _ _).alloc (Nat.le_refl _) o
  have fin := hide (J.tokOut_range hf (.inl h))
  have HF := hide (fun w => fieldsFit_1 a n s w hs)
  rw [hf] at HF
  clear hf
  go_enter Tryz.func17, Tryz.ntmps17
  go_wp2_with fail
  refine ((unhide HF) _).mono ?_
  rintro e w2 ⟨rfl, hb2⟩
  have B2 : Below w.heap.size w w2 := ((B0.out (.cells #[.int .i64 1, .int .i64 a, .int .i64 n, .string s] 33)).alloc (by simp) (.cells #[.int .i64 0, .string ByteArray.empty] 27)).trans (hb2.mono (by simp; omega))
  have hX : Own w2 w.heap.size 33 [.int .i64 1, .int .i64 a, .int .i64 n, .string s] := Own.below (Own.alloc ⟨_, heap_alloc_new _ _, rfl⟩ _) hb2 (by simp; omega)
  have hR : Own w2 (w.heap.size + 1) 27 [.int .i64 0, .string ByteArray.empty] := Own.below (second_own w _ _ _ rfl) hb2 (by simp)
  have r0 := hX.cell 0
  have r1 := hX.cell 1
  have r2 := hX.cell 2
  have r3 := hX.cell 3
  have y0 := hR.cell 0
  have y1 := hR.cell 1
  have z0 := hR.frozen 0
  have z1 := hR.frozen 1
  simp only [List.getElem?_cons_zero, List.getElem?_cons_succ] at r0 r1 r2 r3 y0 y1
  clear hb2 hX
  go_wp2_with fail
  refine bodyPost_ret (v := .agg #[.int .i64 3, .string ByteArray.empty]) (by simp [results, Tryz.results17, go_sem, y0, y1]; rfl) rfl ⟨by rw [unhide fin], ?_⟩
  exact (B2.setCell (Nat.le_succ _) _).setCell (Nat.le_succ _) _

set_option maxRecDepth 100000 in
set_option maxHeartbeats 1000000 in
theorem implTok_range_hi (a n : Int) (s : ByteArray) (w : World) (hs : s.size ≤ 1048576) (hf : J.tokFits 1 s = true) (h : 1000000000000000 < n) : Calls Tryz.prog 17 #[.agg #[.int .i64 1, .int .i64 a, .int .i64 n, .string s]] w fun e w' => e = .returned (.agg #[.int .i64 (J.tokOut 1 n s).1, .string (J.tokOut 1 n s).2]) ∧ Below w.heap.size w w' := by
  have B0 : Hid (∀ o, Below w.heap.size w (w.alloc o)) := fun o => (Below.refl _ _).alloc (Nat.le_refl _) o
  have fin := hide (J.tokOut_range hf (.inr h))
  have HF := hide (fun w => fieldsFit_1 a n s w hs)
  rw [hf] at HF
  clear hf
  have h1 : ¬ n < 0 := by omega
  go_enter Tryz.func17, Tryz.ntmps17
  go_wp2_with fail
  refine ((unhide HF) _).mono ?_
  rintro e w2 ⟨rfl, hb2⟩
  have B2 : Below w.heap.size w w2 := ((B0.out (.cells #[.int .i64 1, .int .i64 a, .int .i64 n, .string s] 33)).alloc (by simp) (.cells #[.int .i64 0, .string ByteArray.empty] 27)).trans (hb2.mono (by simp; omega))
  have hX : Own w2 w.heap.size 33 [.int .i64 1, .int .i64 a, .int .i64 n, .string s] := Own.below (Own.alloc ⟨_, heap_alloc_new _ _, rfl⟩ _) hb2 (by simp; omega)
  have hR : Own w2 (w.heap.size + 1) 27 [.int .i64 0, .string ByteArray.empty] := Own.below (second_own w _ _ _ rfl) hb2 (by simp)
  have r0 := hX.cell 0
  have r1 := hX.cell 1
  have r2 := hX.cell 2
  have r3 := hX.cell 3
  have y0 := hR.cell 0
  have y1 := hR.cell 1
  have z0 := hR.frozen 0
  have z1 := hR.frozen 1
  simp only [List.getElem?_cons_zero, List.getElem?_cons_succ] at r0 r1 r2 r3 y0 y1
  clear hb2 hX
  go_wp2_with fail
  refine bodyPost_ret (v := .agg #[.int .i64 3, .string ByteArray.empty]) (by simp [results, Tryz.results17, go_sem, y0, y1]; rfl) rfl ⟨by rw [unhide fin], ?_⟩
  exact (B2.setCell (Nat.le_succ _) _).setCell (Nat.le_succ _) _

set_option maxRecDepth 100000 in
set_option maxHeartbeats 1000000 in
theorem implTok_ok_1 (a n : Int) (s : ByteArray) (w : World) (hs : s.size ≤ 1048576) (hf : J.tokFits 1 s = true) (h0 : 0 ≤ n) (h1 : n ≤ 1000000000000000) (htab : Lib.TabBelow Tryz.prog w.heap.size w "internal/strconv.uint64pow10" .u64 Lib.pow10Tab) : Calls Tryz.prog 17 #[.agg #[.int .i64 1, .int .i64 a, .int .i64 n, .string s]] w fun e w' => e = .returned (.agg #[.int .i64 (J.tokOut 1 n s).1, .string (J.tokOut 1 n s).2]) ∧ Below w.heap.size w w' := by
  have B0 : Hid (∀ o, Below w.heap.size w (w.alloc o)) := fun o => (Below.refl _ _).alloc (Nat.le_refl _) o
  have fin := hide (J.tokOut_one hf h0 h1)
  have HF := hide (fun w => fieldsFit_1 a n s w hs)
  rw [hf] at HF
  clear hf
  have e : Lib.itoa n = Lib.decDigits n.toNat := by unfold Lib.itoa; rw [if_neg (by omega)]
  have HI := hide (fun (wq : World) (hb : Below w.heap.size w wq) => Tryz.strconv_FormatInt_10 n (by omega) (by omega) wq (htab wq hb))
  rw [e] at HI
  clear e htab
  have g0 : ¬ n < 0 := by omega
  have g1 : ¬ 1000000000000000 < n := by omega
  go_enter Tryz.func17, Tryz.ntmps17
  go_wp2_with fail
  refine ((unhide HF) _).mono ?_
  rintro e w2 ⟨rfl, hb2⟩
  have B2 : Below w.heap.size w w2 := ((B0.out (.cells #[.int .i64 1, .int .i64 a, .int .i64 n, .string s] 33)).alloc (by simp) (.cells #[.int .i64 0, .string ByteArray.empty] 27)).trans (hb2.mono (by simp; omega))
  have hX : Own w2 w.heap.size 33 [.int .i64 1, .int .i64 a, .int .i64 n, .string s] := Own.below (Own.alloc ⟨_, heap_alloc_new _ _, rfl⟩ _) hb2 (by simp; omega)
  have hR : Own w2 (w.heap.size + 1) 27 [.int .i64 0, .string ByteArray.empty] := Own.below (second_own w _ _ _ rfl) hb2 (by simp)
  have r0 := hX.cell 0
  have r1 := hX.cell 1
  have r2 := hX.cell 2
  have r3 := hX.cell 3
  have y0 := hR.cell 0
  have y1 := hR.cell 1
  have z0 := hR.frozen 0
  have z1 := hR.frozen 1
  simp only [List.getElem?_cons_zero, List.getElem?_cons_succ] at r0 r1 r2 r3 y0 y1
  clear hb2 hX
  go_wp2_with fail
  refine ((unhide HI) _ B2).mono ?_
  rintro e w4 ⟨rfl, kk, os, hw4⟩
  have hb4 : Below w2.heap.size w2 w4 := by rw [hw4]; exact below_grown_tok _ _ _
  have B4 : Below w.heap.size w w4 := B2.trans (hb4.mono B2.size)
  clear hw4
  have hR4 := hR.below hb4 hR.lt
  clear y0 y1 z0 z1
  have y0 := hR4.cell 0
  have y1 := hR4.cell 1
  have z0 := hR4.frozen 0
  have z1 := hR4.frozen 1
  simp only [List.getElem?_cons_zero, List.getElem?_cons_succ] at y0 y1
  clear hb4 hR hR4 r0 r1 r2 r3
  generalize (⟨(Lib.decDigits n.toNat).toArray⟩ : ByteArray) = q at *
  go_wp2_with fail
  refine bodyPost_ret (v := .agg #[.int .i64 0, .string q]) (by simp [results, Tryz.results17, go_sem, y0, y1]) rfl ⟨by rw [unhide fin], ?_⟩
  exact (B4.setCell (Nat.le_succ _) _).setCell (Nat.le_succ _) _

set_option maxRecDepth 100000 in
set_option maxHeartbeats 1000000 in
theorem implTok_ok_2 (a n : Int) (s : ByteArray) (w : World) (hs : s.size ≤ 1048576) (hn : n = 0) (hf : J.tokFits 2 s = true) : Calls Tryz.prog 17 #[.agg #[.int .i64 2, .int .i64 a, .int .i64 n, .string s]] w fun e w' => e = .returned (.agg #[.int .i64 (J.tokOut 2 n s).1, .string (J.tokOut 2 n s).2]) ∧ Below w.heap.size w w' := by
  have B0 : Hid (∀ o, Below w.heap.size w (w.alloc o)) := fun o => (Below.refl _ _).alloc (Nat.le_refl _) o
  subst hn
  have fin := hide (J.tokOut_ok (k := 2) (by omega) (by omega) hf)
  have hE := encS_ok (show M.textOk s = true from hf)
  have HF := hide (fun w => fieldsFit_2 a 0 s w hs rfl)
  rw [hf] at HF
  clear hf
  have HI := hide (fun (wq : World) => impl_EncodeString s wq (by unfold maxLen; omega))
  rw [hE] at HI
  clear hE
  go_enter Tryz.func17, Tryz.ntmps17
  go_wp2_with fail
  refine ((unhide HF) _).mono ?_
  rintro e w2 ⟨rfl, hb2⟩
  have B2 : Below w.heap.size w w2 := ((B0.out (.cells #[.int .i64 2, .int .i64 a, .int .i64 0, .string s] 33)).alloc (by simp) (.cells #[.int .i64 0, .string ByteArray.empty] 27)).trans (hb2.mono (by simp; omega))
  have hX : Own w2 w.heap.size 33 [.int .i64 2, .int .i64 a, .int .i64 0, .string s] := Own.below (Own.alloc ⟨_, heap_alloc_new _ _, rfl⟩ _) hb2 (by simp; omega)
  have hR : Own w2 (w.heap.size + 1) 27 [.int .i64 0, .string ByteArray.empty] := Own.below (second_own w _ _ _ rfl) hb2 (by simp)
  have r0 := hX.cell 0
  have r1 := hX.cell 1
  have r2 := hX.cell 2
  have r3 := hX.cell 3
  have y0 := hR.cell 0
  have y1 := hR.cell 1
  have z0 := hR.frozen 0
  have z1 := hR.frozen 1
  simp only [List.getElem?_cons_zero, List.getElem?_cons_succ] at r0 r1 r2 r3 y0 y1
  clear hb2 hX
  go_wp2_with fail
  refine ((unhide HI) _).mono ?_
  rintro e w4 ⟨rfl, hb4⟩
  have B4 : Below w.heap.size w w4 := B2.trans (hb4.mono B2.size)
  have hR4 := hR.below hb4 hR.lt
  clear y0 y1 z0 z1
  have y0 := hR4.cell 0
  have y1 := hR4.cell 1
  have z0 := hR4.frozen 0
  have z1 := hR4.frozen 1
  simp only [List.getElem?_cons_zero, List.getElem?_cons_succ] at y0 y1
  clear hb4 hR hR4 r0 r1 r2 r3
  have et : J.tokText 2 0 s = J.bytes (J.quote s) := rfl
  rw [et] at fin
  clear et
  simp only
  generalize J.bytes (J.quote s) = q at *
  go_wp2_with fail
  refine bodyPost_ret (v := .agg #[.int .i64 0, .string q]) (by simp [results, Tryz.results17, go_sem, y0, y1]) rfl ⟨by rw [unhide fin], ?_⟩
  exact (B4.setCell (Nat.le_succ _) _).setCell (Nat.le_succ _) _

set_option maxRecDepth 100000 in
set_option maxHeartbeats 1000000 in
theorem implTok_ok_3 (a n : Int) (s : ByteArray) (w : World) (hs : s.size ≤ 1048576) (hn : n = 0) (hf : J.tokFits 3 s = true) : Calls Tryz.prog 17 #[.agg #[.int .i64 3, .int .i64 a, .int .i64 n, .string s]] w fun e w' => e = .returned (.agg #[.int .i64 (J.tokOut 3 n s).1, .string (J.tokOut 3 n s).2]) ∧ Below w.heap.size w w' := by
  have B0 : Hid (∀ o, Below w.heap.size w (w.alloc o)) := fun o => (Below.refl _ _).alloc (Nat.le_refl _) o
  subst hn
  have fin := hide (J.tokOut_ok (k := 3) (by omega) (by omega) hf)
  have HF := hide (fun w => fieldsFit_3 a 0 s w hs rfl)
  rw [hf] at HF
  clear hf
  have HQ : Hid ((ByteArray.empty : ByteArray) ++ s = J.tokText 3 0 s) := by
    show _ = _
    exact empty_append s
  go_enter Tryz.func17, Tryz.ntmps17
  go_wp2_with fail
  refine ((unhide HF) _).mono ?_
  rintro e w2 ⟨rfl, hb2⟩
  have B2 : Below w.heap.size w w2 := ((B0.out (.cells #[.int .i64 3, .int .i64 a, .int .i64 0, .string s] 33)).alloc (by simp) (.cells #[.int .i64 0, .string ByteArray.empty] 27)).trans (hb2.mono (by simp; omega))
  have hX : Own w2 w.heap.size 33 [.int .i64 3, .int .i64 a, .int .i64 0, .string s] := Own.below (Own.alloc ⟨_, heap_alloc_new _ _, rfl⟩ _) hb2 (by simp; omega)
  have hR : Own w2 (w.heap.size + 1) 27 [.int .i64 0, .string ByteArray.empty] := Own.below (second_own w _ _ _ rfl) hb2 (by simp)
  have r0 := hX.cell 0
  have r1 := hX.cell 1
  have r2 := hX.cell 2
  have r3 := hX.cell 3
  have y0 := hR.cell 0
  have y1 := hR.cell 1
  have z0 := hR.frozen 0
  have z1 := hR.frozen 1
  simp only [List.getElem?_cons_zero, List.getElem?_cons_succ] at r0 r1 r2 r3 y0 y1
  clear hb2 hX
  go_wp2_with fail
  go_region_with (go_at_call 40; refine (nameSign_3 _).mono ?_; rintro e w5 ⟨rfl, hw5⟩; subst hw5)
  all_goals
    go_wp2_with fail
    refine bodyPost_ret (v := .agg #[.int .i64 0, .string (ByteArray.empty ++ s)]) (by simp [results, Tryz.results17, go_sem, y0, y1]) rfl ⟨by rw [unhide fin, ← unhide HQ], ?_⟩
    exact ((B2.setCell (Nat.le_succ _) _).setCell (Nat.le_succ _) _).drew

set_option maxRecDepth 100000 in
set_option maxHeartbeats 1000000 in
theorem implTok_ok_4 (a n : Int) (s : ByteArray) (w : World) (hs : s.size ≤ 1048576) (hn : n = 0) (hf : J.tokFits 4 s = true) : Calls Tryz.prog 17 #[.agg #[.int .i64 4, .int .i64 a, .int .i64 n, .string s]] w fun e w' => e = .returned (.agg #[.int .i64 (J.tokOut 4 n s).1, .string (J.tokOut 4 n s).2]) ∧ Below w.heap.size w w' := by
  have B0 : Hid (∀ o, Below w.heap.size w (w.alloc o)) := fun o => (Below.refl _ _).alloc (Nat.le_refl _) o
  subst hn
  have fin := hide (J.tokOut_ok (k := 4) (by omega) (by omega) hf)
  have HF := hide (fun w => fieldsFit_4 a 0 s w hs rfl)
  rw [hf] at HF
  clear hf
  have HQ : Hid ((⟨#[46]⟩ : ByteArray) ++ s = J.tokText 4 0 s) := by
    show _ = _
    rfl
  go_enter Tryz.func17, Tryz.ntmps17
  go_wp2_with fail
  refine ((unhide HF) _).mono ?_
  rintro e w2 ⟨rfl, hb2⟩
  have B2 : Below w.heap.size w w2 := ((B0.out (.cells #[.int .i64 4, .int .i64 a, .int .i64 0, .string s] 33)).alloc (by simp) (.cells #[.int .i64 0, .string ByteArray.empty] 27)).trans (hb2.mono (by simp; omega))
  have hX : Own w2 w.heap.size 33 [.int .i64 4, .int .i64 a, .int .i64 0, .string s] := Own.below (Own.alloc ⟨_, heap_alloc_new _ _, rfl⟩ _) hb2 (by simp; omega)
  have hR : Own w2 (w.heap.size + 1) 27 [.int .i64 0, .string ByteArray.empty] := Own.below (second_own w _ _ _ rfl) hb2 (by simp)
  have r0 := hX.cell 0
  have r1 := hX.cell 1
  have r2 := hX.cell 2
  have r3 := hX.cell 3
  have y0 := hR.cell 0
  have y1 := hR.cell 1
  have z0 := hR.frozen 0
  have z1 := hR.frozen 1
  simp only [List.getElem?_cons_zero, List.getElem?_cons_succ] at r0 r1 r2 r3 y0 y1
  clear hb2 hX
  go_wp2_with fail
  go_region_with (go_at_call 40; refine (nameSign_4 _).mono ?_; rintro e w5 ⟨rfl, hw5⟩; subst hw5)
  all_goals
    go_wp2_with fail
    refine bodyPost_ret (v := .agg #[.int .i64 0, .string (⟨#[46]⟩ ++ s)]) (by simp [results, Tryz.results17, go_sem, y0, y1]) rfl ⟨by rw [unhide fin, ← unhide HQ], ?_⟩
    exact ((B2.setCell (Nat.le_succ _) _).setCell (Nat.le_succ _) _).drew

set_option maxRecDepth 100000 in
set_option maxHeartbeats 1000000 in
theorem implTok_ok_5 (a n : Int) (s : ByteArray) (w : World) (hs : s.size ≤ 1048576) (hn : n = 0) (hf : J.tokFits 5 s = true) : Calls Tryz.prog 17 #[.agg #[.int .i64 5, .int .i64 a, .int .i64 n, .string s]] w fun e w' => e = .returned (.agg #[.int .i64 (J.tokOut 5 n s).1, .string (J.tokOut 5 n s).2]) ∧ Below w.heap.size w w' := by
  have B0 : Hid (∀ o, Below w.heap.size w (w.alloc o)) := fun o => (Below.refl _ _).alloc (Nat.le_refl _) o
  subst hn
  have fin := hide (J.tokOut_ok (k := 5) (by omega) (by omega) hf)
  have HF := hide (fun w => fieldsFit_5 a 0 s w hs rfl)
  rw [hf] at HF
  clear hf
  have HQ : Hid ((⟨#[36]⟩ : ByteArray) ++ s = J.tokText 5 0 s) := by
    show _ = _
    rfl
  go_enter Tryz.func17, Tryz.ntmps17
  go_wp2_with fail
  refine ((unhide HF) _).mono ?_
  rintro e w2 ⟨rfl, hb2⟩
  have B2 : Below w.heap.size w w2 := ((B0.out (.cells #[.int .i64 5, .int .i64 a, .int .i64 0, .string s] 33)).alloc (by simp) (.cells #[.int .i64 0, .string ByteArray.empty] 27)).trans (hb2.mono (by simp; omega))
  have hX : Own w2 w.heap.size 33 [.int .i64 5, .int .i64 a, .int .i64 0, .string s] := Own.below (Own.alloc ⟨_, heap_alloc_new _ _, rfl⟩ _) hb2 (by simp; omega)
  have hR : Own w2 (w.heap.size + 1) 27 [.int .i64 0, .string ByteArray.empty] := Own.below (second_own w _ _ _ rfl) hb2 (by simp)
  have r0 := hX.cell 0
  have r1 := hX.cell 1
  have r2 := hX.cell 2
  have r3 := hX.cell 3
  have y0 := hR.cell 0
  have y1 := hR.cell 1
  have z0 := hR.frozen 0
  have z1 := hR.frozen 1
  simp only [List.getElem?_cons_zero, List.getElem?_cons_succ] at r0 r1 r2 r3 y0 y1
  clear hb2 hX
  go_wp2_with fail
  go_region_with (go_at_call 40; refine (nameSign_5 _).mono ?_; rintro e w5 ⟨rfl, hw5⟩; subst hw5)
  all_goals
    go_wp2_with fail
    refine bodyPost_ret (v := .agg #[.int .i64 0, .string (⟨#[36]⟩ ++ s)]) (by simp [results, Tryz.results17, go_sem, y0, y1]) rfl ⟨by rw [unhide fin, ← unhide HQ], ?_⟩
    exact ((B2.setCell (Nat.le_succ _) _).setCell (Nat.le_succ _) _).drew

set_option maxRecDepth 100000 in
set_option maxHeartbeats 1000000 in
theorem implTok_ok_6 (a n : Int) (s : ByteArray) (w : World) (hs : s.size ≤ 1048576) (hn : n = 0) (hf : J.tokFits 6 s = true) : Calls Tryz.prog 17 #[.agg #[.int .i64 6, .int .i64 a, .int .i64 n, .string s]] w fun e w' => e = .returned (.agg #[.int .i64 (J.tokOut 6 n s).1, .string (J.tokOut 6 n s).2]) ∧ Below w.heap.size w w' := by
  have B0 : Hid (∀ o, Below w.heap.size w (w.alloc o)) := fun o => (Below.refl _ _).alloc (Nat.le_refl _) o
  subst hn
  have fin := hide (J.tokOut_ok (k := 6) (by omega) (by omega) hf)
  have HF := hide (fun w => fieldsFit_6 a 0 s w hs rfl)
  rw [hf] at HF
  clear hf
  have HQ : Hid ((ByteArray.empty : ByteArray) ++ s = J.tokText 6 0 s) := by
    show _ = _
    exact empty_append s
  go_enter Tryz.func17, Tryz.ntmps17
  go_wp2_with fail
  refine ((unhide HF) _).mono ?_
  rintro e w2 ⟨rfl, hb2⟩
  have B2 : Below w.heap.size w w2 := ((B0.out (.cells #[.int .i64 6, .int .i64 a, .int .i64 0, .string s] 33)).alloc (by simp) (.cells #[.int .i64 0, .string ByteArray.empty] 27)).trans (hb2.mono (by simp; omega))
  have hX : Own w2 w.heap.size 33 [.int .i64 6, .int .i64 a, .int .i64 0, .string s] := Own.below (Own.alloc ⟨_, heap_alloc_new _ _, rfl⟩ _) hb2 (by simp; omega)
  have hR : Own w2 (w.heap.size + 1) 27 [.int .i64 0, .string ByteArray.empty] := Own.below (second_own w _ _ _ rfl) hb2 (by simp)
  have r0 := hX.cell 0
  have r1 := hX.cell 1
  have r2 := hX.cell 2
  have r3 := hX.cell 3
  have y0 := hR.cell 0
  have y1 := hR.cell 1
  have z0 := hR.frozen 0
  have z1 := hR.frozen 1
  simp only [List.getElem?_cons_zero, List.getElem?_cons_succ] at r0 r1 r2 r3 y0 y1
  clear hb2 hX
  go_wp2_with fail
  go_region_with (go_at_call 40; refine (nameSign_6 _).mono ?_; rintro e w5 ⟨rfl, hw5⟩; subst hw5)
  all_goals
    go_wp2_with fail
    refine bodyPost_ret (v := .agg #[.int .i64 0, .string (ByteArray.empty ++ s)]) (by simp [results, Tryz.results17, go_sem, y0, y1]) rfl ⟨by rw [unhide fin, ← unhide HQ], ?_⟩
    exact ((B2.setCell (Nat.le_succ _) _).setCell (Nat.le_succ _) _).drew

theorem implTok_any (k a n : Int) (s : ByteArray) (w : World) (hs : s.size ≤ 1048576) (htab : Lib.TabBelow Tryz.prog w.heap.size w "internal/strconv.uint64pow10" .u64 Lib.pow10Tab) : Calls Tryz.prog 17 #[.agg #[.int .i64 k, .int .i64 a, .int .i64 n, .string s]] w fun e w' => e = .returned (.agg #[.int .i64 (J.tokOut k n s).1, .string (J.tokOut k n s).2]) ∧ Below w.heap.size w w' := by
  by_cases h : k < 1
  · exact implTok_kind_lo k a n s w hs h
  by_cases h6 : 6 < k
  · exact implTok_kind_hi k a n s w hs h6
  by_cases e1 : k = 1
  · subst e1
    cases hf : J.tokFits 1 s with
    | false => exact implTok_form_1 a n s w hs hf
    | true =>
      by_cases hr : n < 0
      · exact implTok_range_lo a n s w hs hf hr
      by_cases hr2 : 1000000000000000 < n
      · exact implTok_range_hi a n s w hs hf hr2
      · exact implTok_ok_1 a n s w hs hf (by omega) (by omega) htab
  by_cases e2 : k = 2
  · subst e2
    by_cases hn : n = 0
    · cases hf : J.tokFits 2 s with
      | false => exact implTok_form_2 a n s w hs hn hf
      | true => exact implTok_ok_2 a n s w hs hn hf
    · exact implTok_num_2 a n s w hs hn
  by_cases e3 : k = 3
  · subst e3
    by_cases hn : n = 0
    · cases hf : J.tokFits 3 s with
      | false => exact implTok_form_3 a n s w hs hn hf
      | true => exact implTok_ok_3 a n s w hs hn hf
    · exact implTok_num_3 a n s w hs hn
  by_cases e4 : k = 4
  · subst e4
    by_cases hn : n = 0
    · cases hf : J.tokFits 4 s with
      | false => exact implTok_form_4 a n s w hs hn hf
      | true => exact implTok_ok_4 a n s w hs hn hf
    · exact implTok_num_4 a n s w hs hn
  by_cases e5 : k = 5
  · subst e5
    by_cases hn : n = 0
    · cases hf : J.tokFits 5 s with
      | false => exact implTok_form_5 a n s w hs hn hf
      | true => exact implTok_ok_5 a n s w hs hn hf
    · exact implTok_num_5 a n s w hs hn
  by_cases e6 : k = 6
  · subst e6
    by_cases hn : n = 0
    · cases hf : J.tokFits 6 s with
      | false => exact implTok_form_6 a n s w hs hn hf
      | true => exact implTok_ok_6 a n s w hs hn hf
    · exact implTok_num_6 a n s w hs hn
  omega

end Go.Proofs.YtabpjknbdahddaaGreatDoor
