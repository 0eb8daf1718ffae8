/-
  spec.l2One at a list.
-/
import Derived.Test.YtepfdlbnnkojbaaGreatDoorDecW
import Derived.Test.YtepfdlbnnkojbaaGreatDoorDecE
namespace Go.Proofs.YtepfdlbnnkojbaaGreatDoor
open Go.RowKit
set_option linter.unusedVariables false
set_option linter.unusedSimpArgs false


set_option maxRecDepth 100000 in
set_option maxHeartbeats 8000000 in
theorem l2One_arr (f d : Nat) (s : ByteArray) (k : Nat) (w : World) (hk : k ≤ s.size) (hs : s.size ≤ 4000) (hd : d ≤ 20) (hlt : k < s.size) (hd2 : d < 20) (hx : J.peek s k = 91) (hrec : ∀ j w, j ≤ s.size → Calls Tryz.prog 15 #[.string s, .int .i64 (j : Int), .int .i64 ((d : Int) + 1)] w fun e w' => RvSaid (J.oneR f (d + 1) s j) w.heap.size e w' ∧ Below w.heap.size w w') :
    Calls Tryz.prog 15 #[.string s, .int .i64 k, .int .i64 d] w fun e w' => RvSaid (J.oneR (f + 1) d s k) w.heap.size e w' ∧ Below w.heap.size w w' := by
  have hs' : s.size ≤ 1048576 := by omega
  obtain ⟨w0, hw0⟩ : ∃ w0, w0 = w.alloc (.cells #[.slice none 0 0, .string ByteArray.empty, .int .i64 0, .int .i64 0, .int .i64 0] 36) := ⟨_, rfl⟩
  have B0 : Below w.heap.size w w0 := by rw [hw0]; exact (Below.refl _ _).alloc (Nat.le_refl _) _
  have O0 : Own w0 w.heap.size 36 [.slice none 0 0, .string ByteArray.empty, .int .i64 0, .int .i64 0, .int .i64 0] := by rw [hw0]; exact ⟨_, heap_alloc_new _ _, rfl⟩
  have HREC := hide hrec
  clear hrec
  have hez : ¬ (s.size : Int) ≤ (k : Int) := by omega
  have hltz : (k : Int) < (s.size : Int) := by omega
  have hdz : ¬ (20 : Int) ≤ (d : Int) := by omega
  have HB := hide (J.oneR_bare (f := f) (d := d) hlt hd2)
  generalize J.oneR (f + 1) d s k = RR at *
  have HR := hide ((unhide HB).trans (show J.bareR (J.oneR f (d + 1) s) s k = J.manyR (J.oneR f (d + 1) s) s false (J.skip s (k + 1)) by unfold J.bareR; rw [if_neg (by rw [hx]; decide), if_neg (by rw [hx]; decide), if_neg (by rw [hx]; decide), if_pos hx]))
  have y110 : ((s[k].toNat : Int) == 110) = false := by rw [← J.peek_in s k hlt, hx]; rfl
  have y102 : ((s[k].toNat : Int) == 102) = false := by rw [← J.peek_in s k hlt, hx]; rfl
  have y116 : ((s[k].toNat : Int) == 116) = false := by rw [← J.peek_in s k hlt, hx]; rfl
  have y91 : ((s[k].toNat : Int) == 91) = true := by rw [← J.peek_in s k hlt, hx]; rfl
  have HC := hide (fun w => l2Arr_any (J.oneR f (d + 1) s) s k d w hx hs hd (unhide HREC) (fun j hj => J.oneR_fit s f (d + 1) j hj) (fun j v e h => J.one_bare s f (d + 1) j v e h))
  clear hx HB HREC
  go_enter Tryz.func15, Tryz.ntmps15
  go_wp2_with fail
  try (rw [show (w.alloc (.cells #[.slice none 0 0, .string { data := #[] }, .int .i64 0, .int .i64 0, .int .i64 0] 36)) = w0 from hw0.symm])
  clear hw0
  refine ((unhide HC) _).mono ?_
  rintro e wB ⟨hS, hbB⟩
  have BB : Below w.heap.size w wB := B0.trans (hbB.mono B0.size)
  have OB := O0.below hbB O0.lt
  have hleB := BB.size
  rcases hS with ⟨l, m, sv, tx, hq, rfl, hr⟩ | ⟨c, m, hq, rfl⟩
  · have fin := hide ((unhide HR).trans hq)
    have FR := hide (fun x0 x1 x2 x3 x4 => (hr.sets5 O0.lt x0 x1 x2 x3 x4).mono (Nat.le_of_lt O0.lt))
    obtain ⟨a, n, cp, rfl⟩ := hr.shape
    clear hr hq
    have c0 := OB.cell 0
    have c1 := OB.cell 1
    have c2 := OB.cell 2
    have c3 := OB.cell 3
    have c4 := OB.cell 4
    simp only [List.getElem?_cons_zero, List.getElem?_cons_succ] at c0 c1 c2 c3 c4
    have z0 := OB.frozen 0
    have z1 := OB.frozen 1
    have z2 := OB.frozen 2
    have z3 := OB.frozen 3
    have z4 := OB.frozen 4
    go_wp2_with fail
    refine bodyPost_ret (v := .agg #[.slice a n cp, .string tx, .int .i64 (m : Int), .int .i64 0, .int .i64 0]) (by simp [results, Tryz.results15, go_sem, c0, c1, c2, c3, c4]; try rfl) rfl ⟨.inl ⟨_, _, _, _, unhide fin, rfl, (unhide FR) _ _ _ _ _⟩, ?_⟩
    repeat (first | exact BB | refine Below.setCell ?_ (by simp <;> omega) _ | refine Below.alloc ?_ (by first | exact hleB | (simp <;> omega)) _)
  · have fin := hide ((unhide HR).trans hq)
    clear hq
    have c0 := OB.cell 0
    have c1 := OB.cell 1
    have c2 := OB.cell 2
    have c3 := OB.cell 3
    have c4 := OB.cell 4
    simp only [List.getElem?_cons_zero, List.getElem?_cons_succ] at c0 c1 c2 c3 c4
    have z0 := OB.frozen 0
    have z1 := OB.frozen 1
    have z2 := OB.frozen 2
    have z3 := OB.frozen 3
    have z4 := OB.frozen 4
    go_wp2_with fail
    refine bodyPost_ret (v := .agg #[.slice none 0 0, .string ByteArray.empty, .int .i64 0, .int .i64 c, .int .i64 (m : Int)]) (by simp [results, Tryz.results15, go_sem, c0, c1, c2, c3, c4]; try rfl) rfl ⟨.inr ⟨c, m, unhide fin, rfl⟩, ?_⟩
    repeat (first | exact BB | refine Below.setCell ?_ (by simp <;> omega) _ | refine Below.alloc ?_ (by first | exact hleB | (simp <;> omega)) _)

set_option maxRecDepth 100000 in
set_option maxHeartbeats 8000000 in
theorem l2One_obj (f d : Nat) (s : ByteArray) (k : Nat) (w : World) (hk : k ≤ s.size) (hs : s.size ≤ 4000) (hd : d ≤ 20) (hlt : k < s.size) (hd2 : d < 20) (hx : J.peek s k = 123) (hrec : ∀ j w, j ≤ s.size → Calls Tryz.prog 15 #[.string s, .int .i64 (j : Int), .int .i64 ((d : Int) + 1)] w fun e w' => RvSaid (J.oneR f (d + 1) s j) w.heap.size e w' ∧ Below w.heap.size w w') :
    Calls Tryz.prog 15 #[.string s, .int .i64 k, .int .i64 d] w fun e w' => RvSaid (J.oneR (f + 1) d s k) w.heap.size e w' ∧ Below w.heap.size w w' := by
  have hs' : s.size ≤ 1048576 := by omega
  obtain ⟨w0, hw0⟩ : ∃ w0, w0 = w.alloc (.cells #[.slice none 0 0, .string ByteArray.empty, .int .i64 0, .int .i64 0, .int .i64 0] 36) := ⟨_, rfl⟩
  have B0 : Below w.heap.size w w0 := by rw [hw0]; exact (Below.refl _ _).alloc (Nat.le_refl _) _
  have O0 : Own w0 w.heap.size 36 [.slice none 0 0, .string ByteArray.empty, .int .i64 0, .int .i64 0, .int .i64 0] := by rw [hw0]; exact ⟨_, heap_alloc_new _ _, rfl⟩
  have HREC := hide hrec
  clear hrec
  have hez : ¬ (s.size : Int) ≤ (k : Int) := by omega
  have hltz : (k : Int) < (s.size : Int) := by omega
  have hdz : ¬ (20 : Int) ≤ (d : Int) := by omega
  have HB := hide (J.oneR_bare (f := f) (d := d) hlt hd2)
  generalize J.oneR (f + 1) d s k = RR at *
  have HR := hide ((unhide HB).trans (show J.bareR (J.oneR f (d + 1) s) s k = J.manyR (J.oneR f (d + 1) s) s true (J.skip s (k + 1)) by unfold J.bareR; rw [if_neg (by rw [hx]; decide), if_neg (by rw [hx]; decide), if_neg (by rw [hx]; decide), if_neg (by rw [hx]; decide), if_pos hx]))
  have y110 : ((s[k].toNat : Int) == 110) = false := by rw [← J.peek_in s k hlt, hx]; rfl
  have y102 : ((s[k].toNat : Int) == 102) = false := by rw [← J.peek_in s k hlt, hx]; rfl
  have y116 : ((s[k].toNat : Int) == 116) = false := by rw [← J.peek_in s k hlt, hx]; rfl
  have y91 : ((s[k].toNat : Int) == 91) = false := by rw [← J.peek_in s k hlt, hx]; rfl
  have y123 : ((s[k].toNat : Int) == 123) = true := by rw [← J.peek_in s k hlt, hx]; rfl
  have HC := hide (fun w => l2Object_any (J.oneR f (d + 1) s) s k d w hx hs hd (unhide HREC) (fun j hj => J.oneR_fit s f (d + 1) j hj) (fun j v e h => J.one_bare s f (d + 1) j v e h))
  clear hx HB HREC
  go_enter Tryz.func15, Tryz.ntmps15
  go_wp2_with fail
  try (rw [show (w.alloc (.cells #[.slice none 0 0, .string { data := #[] }, .int .i64 0, .int .i64 0, .int .i64 0] 36)) = w0 from hw0.symm])
  clear hw0
  refine ((unhide HC) _).mono ?_
  rintro e wB ⟨hS, hbB⟩
  have BB : Below w.heap.size w wB := B0.trans (hbB.mono B0.size)
  have OB := O0.below hbB O0.lt
  have hleB := BB.size
  rcases hS with ⟨l, m, sv, tx, hq, rfl, hr⟩ | ⟨c, m, hq, rfl⟩
  · have fin := hide ((unhide HR).trans hq)
    have FR := hide (fun x0 x1 x2 x3 x4 => (hr.sets5 O0.lt x0 x1 x2 x3 x4).mono (Nat.le_of_lt O0.lt))
    obtain ⟨a, n, cp, rfl⟩ := hr.shape
    clear hr hq
    have c0 := OB.cell 0
    have c1 := OB.cell 1
    have c2 := OB.cell 2
    have c3 := OB.cell 3
    have c4 := OB.cell 4
    simp only [List.getElem?_cons_zero, List.getElem?_cons_succ] at c0 c1 c2 c3 c4
    have z0 := OB.frozen 0
    have z1 := OB.frozen 1
    have z2 := OB.frozen 2
    have z3 := OB.frozen 3
    have z4 := OB.frozen 4
    go_wp2_with fail
    refine bodyPost_ret (v := .agg #[.slice a n cp, .string tx, .int .i64 (m : Int), .int .i64 0, .int .i64 0]) (by simp [results, Tryz.results15, go_sem, c0, c1, c2, c3, c4]; try rfl) rfl ⟨.inl ⟨_, _, _, _, unhide fin, rfl, (unhide FR) _ _ _ _ _⟩, ?_⟩
    repeat (first | exact BB | refine Below.setCell ?_ (by simp <;> omega) _ | refine Below.alloc ?_ (by first | exact hleB | (simp <;> omega)) _)
  · have fin := hide ((unhide HR).trans hq)
    clear hq
    have c0 := OB.cell 0
    have c1 := OB.cell 1
    have c2 := OB.cell 2
    have c3 := OB.cell 3
    have c4 := OB.cell 4
    simp only [List.getElem?_cons_zero, List.getElem?_cons_succ] at c0 c1 c2 c3 c4
    have z0 := OB.frozen 0
    have z1 := OB.frozen 1
    have z2 := OB.frozen 2
    have z3 := OB.frozen 3
    have z4 := OB.frozen 4
    go_wp2_with fail
    refine bodyPost_ret (v := .agg #[.slice none 0 0, .string ByteArray.empty, .int .i64 0, .int .i64 c, .int .i64 (m : Int)]) (by simp [results, Tryz.results15, go_sem, c0, c1, c2, c3, c4]; try rfl) rfl ⟨.inr ⟨c, m, unhide fin, rfl⟩, ?_⟩
    repeat (first | exact BB | refine Below.setCell ?_ (by simp <;> omega) _ | refine Below.alloc ?_ (by first | exact hleB | (simp <;> omega)) _)

end Go.Proofs.YtepfdlbnnkojbaaGreatDoor
