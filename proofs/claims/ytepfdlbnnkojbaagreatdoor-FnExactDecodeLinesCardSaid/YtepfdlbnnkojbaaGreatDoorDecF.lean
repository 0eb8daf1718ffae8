/-
  spec.l2One at a string, at a number.
-/
import Derived.Test.YtepfdlbnnkojbaaGreatDoorDecU
import Derived.Test.YtepfdlbnnkojbaaGreatDoorDecE
namespace Go.Proofs.YtepfdlbnnkojbaaGreatDoor
open Go.RowKit
set_option linter.unusedVariables false
set_option linter.unusedSimpArgs false


set_option maxRecDepth 100000 in
set_option maxHeartbeats 8000000 in
theorem l2One_str (f d : Nat) (s : ByteArray) (k : Nat) (w : World) (hk : k ≤ s.size) (hs : s.size ≤ 4000) (hd : d ≤ 20) (hlt : k < s.size) (hd2 : d < 20) (hx : J.peek s k = 34) :
    Calls Tryz.prog 15 #[.string s, .int .i64 k, .int .i64 d] w fun e w' => RvSaid (J.oneR (f + 1) d s k) w.heap.size e w' ∧ Below w.heap.size w w' := by
  have hs' : s.size ≤ 1048576 := by omega
  obtain ⟨w0, hw0⟩ : ∃ w0, w0 = w.alloc (.cells #[.slice none 0 0, .string ByteArray.empty, .int .i64 0, .int .i64 0, .int .i64 0] 36) := ⟨_, rfl⟩
  have B0 : Below w.heap.size w w0 := by rw [hw0]; exact (Below.refl _ _).alloc (Nat.le_refl _) _
  have O0 : Own w0 w.heap.size 36 [.slice none 0 0, .string ByteArray.empty, .int .i64 0, .int .i64 0, .int .i64 0] := by rw [hw0]; exact ⟨_, heap_alloc_new _ _, rfl⟩
  have hez : ¬ (s.size : Int) ≤ (k : Int) := by omega
  have hltz : (k : Int) < (s.size : Int) := by omega
  have hdz : ¬ (20 : Int) ≤ (d : Int) := by omega
  have HB := hide (J.oneR_bare (f := f) (d := d) hlt hd2)
  generalize J.oneR (f + 1) d s k = RR at *
  have HR := hide ((unhide HB).trans (show J.bareR (J.oneR f (d + 1) s) s k = J.strV s k by unfold J.bareR; rw [if_neg (by rw [hx]; decide), if_neg (by rw [hx]; decide), if_neg (by rw [hx]; decide), if_neg (by rw [hx]; decide), if_neg (by rw [hx]; decide), if_pos hx]))
  have y110 : ((s[k].toNat : Int) == 110) = false := by rw [← J.peek_in s k hlt, hx]; rfl
  have y102 : ((s[k].toNat : Int) == 102) = false := by rw [← J.peek_in s k hlt, hx]; rfl
  have y116 : ((s[k].toNat : Int) == 116) = false := by rw [← J.peek_in s k hlt, hx]; rfl
  have y91 : ((s[k].toNat : Int) == 91) = false := by rw [← J.peek_in s k hlt, hx]; rfl
  have y123 : ((s[k].toNat : Int) == 123) = false := by rw [← J.peek_in s k hlt, hx]; rfl
  have y34 : ((s[k].toNat : Int) == 34) = true := by rw [← J.peek_in s k hlt, hx]; rfl
  have HC := hide (fun w => l2String_any s k w hs' hx)
  have HQF := hide (J.quotR_fit s k hk)
  clear hx HB
  go_enter Tryz.func15, Tryz.ntmps15
  go_wp2_with fail
  try (rw [show (w.alloc (.cells #[.slice none 0 0, .string { data := #[] }, .int .i64 0, .int .i64 0, .int .i64 0] 36)) = w0 from hw0.symm])
  clear hw0
  refine ((unhide HC) _).mono ?_
  rintro e wS ⟨hS, hbS⟩
  have BS : Below w.heap.size w wS := B0.trans (hbS.mono B0.size)
  have OS := O0.below hbS O0.lt
  rcases hS with ⟨l, m, hq, rfl⟩ | ⟨c, m, hq, rfl⟩
  · have fin := hide ((unhide HR).trans (show J.strV s k = .inr ([⟨4, 0, J.bytes l, ByteArray.empty, 0⟩], m) by unfold J.strV; rw [hq]; rfl))
    have OA : Own (wS.alloc (.cells #[.slice none 0 0, .string (J.bytes l), .int .i64 (m : Int), .int .i64 0, .int .i64 0] 36)) wS.heap.size 36 [.slice none 0 0, .string (J.bytes l), .int .i64 (m : Int), .int .i64 0, .int .i64 0] := ⟨_, heap_alloc_new _ _, rfl⟩
    have OZ : Own (wS.alloc (.cells #[.slice none 0 0, .string (J.bytes l), .int .i64 (m : Int), .int .i64 0, .int .i64 0] 36)) w.heap.size 36 [.slice none 0 0, .string ByteArray.empty, .int .i64 0, .int .i64 0, .int .i64 0] := OS.alloc _
    have BA : Below w.heap.size w (wS.alloc (.cells #[.slice none 0 0, .string (J.bytes l), .int .i64 (m : Int), .int .i64 0, .int .i64 0] 36)) := BS.alloc BS.size _
    have HL := hide (fun w => l1String_any (J.bytes l) w)
    have hwS := OS.lt
    clear hq hbS OS HC HQF
    go_wp2_with fail
    refine ((unhide HL) _).mono ?_
    rintro e wB ⟨sv, rfl, hr, hbB⟩
    have BB : Below w.heap.size w wB := BA.trans (hbB.mono BA.size)
    have OB := OZ.below hbB OZ.lt
    have OR := OA.below hbB OA.lt
    have hleB := BB.size
    have hbS2 : wS.heap.size < (wS.alloc (.cells #[.slice none 0 0, .string (J.bytes l), .int .i64 (m : Int), .int .i64 0, .int .i64 0] 36)).heap.size := by rw [World.size_alloc]; omega
    have hrb : Res wB w.heap.size sv _ := hr.mono BA.size
    have FR := hide (fun y x0 x1 x2 x3 x4 => ((hr.setOther ⟨wS.heap.size, 0, none⟩ y (fun g hg e => by have := hr.base g hg; simp only at e; omega)).sets5 OZ.lt x0 x1 x2 x3 x4).mono BA.size)
    obtain ⟨a, n, cp, rfl⟩ := hr.shape
    have OR2 := OR.set 0 (.slice a n cp)
    have OB2 : Own (wB.setCell ⟨wS.heap.size, 0, none⟩ (.slice a n cp)) w.heap.size 36 [.slice none 0 0, .string ByteArray.empty, .int .i64 0, .int .i64 0, .int .i64 0] := OB.setOther _ _ (by show w.heap.size ≠ wS.heap.size; omega)
    have BB2 : Below w.heap.size w (wB.setCell ⟨wS.heap.size, 0, none⟩ (.slice a n cp)) := BB.setCell (Nat.le_of_lt hwS) _
    have r0 := OR2.cell 0
    have r1 := OR2.cell 1
    have r2 := OR2.cell 2
    have r3 := OR2.cell 3
    have r4 := OR2.cell 4
    have rz0 := OR.frozen 0
    have rc0 := OR.cell 0
    simp only [List.getElem?_cons_zero, List.getElem?_cons_succ, List.set_cons_zero] at r0 r1 r2 r3 r4 rc0
    clear hr HL OA OZ BA OR hrb
    have c0 := OB2.cell 0
    have c1 := OB2.cell 1
    have c2 := OB2.cell 2
    have c3 := OB2.cell 3
    have c4 := OB2.cell 4
    simp only [List.getElem?_cons_zero, List.getElem?_cons_succ] at c0 c1 c2 c3 c4
    have z0 := OB2.frozen 0
    have z1 := OB2.frozen 1
    have z2 := OB2.frozen 2
    have z3 := OB2.frozen 3
    have z4 := OB2.frozen 4
    go_wp2_with fail
    refine bodyPost_ret (v := .agg #[.slice a n cp, .string (J.bytes l), .int .i64 (m : Int), .int .i64 0, .int .i64 0]) (by simp [results, Tryz.results15, go_sem, c0, c1, c2, c3, c4]; try rfl) rfl ⟨.inl ⟨_, _, _, _, unhide fin, rfl, (unhide FR) _ _ _ _ _ _⟩, ?_⟩
    repeat (first | exact BB2 | refine Below.setCell ?_ (by simp <;> omega) _ | refine Below.alloc ?_ (by first | exact hleB | (simp <;> omega)) _)
  · have fin := hide ((unhide HR).trans (show J.strV s k = .inl (c, m) by unfold J.strV; rw [hq]))
    have hc0 : (c == 0) = false := by have := unhide HQF; rw [hq] at this; simpa using this.1
    have OA := OS.below ((Below.refl _ _).alloc (Nat.le_refl _) (.cells #[.slice none 0 0, .string ByteArray.empty, .int .i64 0, .int .i64 c, .int .i64 (m : Int)] 36)) OS.lt
    have hleB := BS.size
    clear hq
    have c0 := OA.cell 0
    have c1 := OA.cell 1
    have c2 := OA.cell 2
    have c3 := OA.cell 3
    have c4 := OA.cell 4
    simp only [List.getElem?_cons_zero, List.getElem?_cons_succ] at c0 c1 c2 c3 c4
    have z0 := OA.frozen 0
    have z1 := OA.frozen 1
    have z2 := OA.frozen 2
    have z3 := OA.frozen 3
    have z4 := OA.frozen 4
    go_wp2_with fail
    refine bodyPost_ret (v := .agg #[.slice none 0 0, .string ByteArray.empty, .int .i64 0, .int .i64 c, .int .i64 (m : Int)]) (by simp [results, Tryz.results15, go_sem, c0, c1, c2, c3, c4]; try rfl) rfl ⟨.inr ⟨c, m, unhide fin, rfl⟩, ?_⟩
    repeat (first | exact BS | refine Below.setCell ?_ (by simp <;> omega) _ | refine Below.alloc ?_ (by first | exact hleB | (simp <;> omega)) _)

set_option maxRecDepth 100000 in
set_option maxHeartbeats 8000000 in
theorem l2One_num (f d : Nat) (s : ByteArray) (k : Nat) (w : World) (hk : k ≤ s.size) (hs : s.size ≤ 4000) (hd : d ≤ 20) (hlt : k < s.size) (hd2 : d < 20) (x1 : J.peek s k ≠ 110) (x2 : J.peek s k ≠ 102) (x3 : J.peek s k ≠ 116) (x4 : J.peek s k ≠ 91) (x5 : J.peek s k ≠ 123) (hx : J.peek s k ≠ 34) :
    Calls Tryz.prog 15 #[.string s, .int .i64 k, .int .i64 d] w fun e w' => RvSaid (J.oneR (f + 1) d s k) w.heap.size e w' ∧ Below w.heap.size w w' := by
  have hs' : s.size ≤ 1048576 := by omega
  obtain ⟨w0, hw0⟩ : ∃ w0, w0 = w.alloc (.cells #[.slice none 0 0, .string ByteArray.empty, .int .i64 0, .int .i64 0, .int .i64 0] 36) := ⟨_, rfl⟩
  have B0 : Below w.heap.size w w0 := by rw [hw0]; exact (Below.refl _ _).alloc (Nat.le_refl _) _
  have O0 : Own w0 w.heap.size 36 [.slice none 0 0, .string ByteArray.empty, .int .i64 0, .int .i64 0, .int .i64 0] := by rw [hw0]; exact ⟨_, heap_alloc_new _ _, rfl⟩
  have hez : ¬ (s.size : Int) ≤ (k : Int) := by omega
  have hltz : (k : Int) < (s.size : Int) := by omega
  have hdz : ¬ (20 : Int) ≤ (d : Int) := by omega
  have HB := hide (J.oneR_bare (f := f) (d := d) hlt hd2)
  generalize J.oneR (f + 1) d s k = RR at *
  have HR := hide ((unhide HB).trans (show J.bareR (J.oneR f (d + 1) s) s k = J.numV s k by unfold J.bareR; rw [if_neg x1, if_neg x2, if_neg x3, if_neg x4, if_neg x5, if_neg hx]))
  rw [J.peek_in s k hlt] at x1 x2 x3 x4 x5 hx
  have y110 : ((s[k].toNat : Int) == 110) = false := beq_eq_false_iff_ne.2 x1
  have y102 : ((s[k].toNat : Int) == 102) = false := beq_eq_false_iff_ne.2 x2
  have y116 : ((s[k].toNat : Int) == 116) = false := beq_eq_false_iff_ne.2 x3
  have y91 : ((s[k].toNat : Int) == 91) = false := beq_eq_false_iff_ne.2 x4
  have y123 : ((s[k].toNat : Int) == 123) = false := beq_eq_false_iff_ne.2 x5
  have y34 : ((s[k].toNat : Int) == 34) = false := beq_eq_false_iff_ne.2 hx
  have HC := hide (fun w => l2Whole_any s k w hk hs')
  clear x1 x2 x3 x4 x5 hx HB
  go_enter Tryz.func15, Tryz.ntmps15
  go_wp2_with fail
  try (rw [show (w.alloc (.cells #[.slice none 0 0, .string { data := #[] }, .int .i64 0, .int .i64 0, .int .i64 0] 36)) = w0 from hw0.symm])
  clear hw0
  refine ((unhide HC) _).mono ?_
  rintro e wB ⟨hS, hbB⟩
  have BB : Below w.heap.size w wB := B0.trans (hbB.mono B0.size)
  have OB := O0.below hbB O0.lt
  have hleB := BB.size
  rcases hS with ⟨l, m, sv, tx, hq, rfl, hr⟩ | ⟨c, m, hq, rfl⟩
  · have fin := hide ((unhide HR).trans hq)
    have FR := hide (fun x0 x1 x2 x3 x4 => (hr.sets5 O0.lt x0 x1 x2 x3 x4).mono (Nat.le_of_lt O0.lt))
    obtain ⟨a, n, cp, rfl⟩ := hr.shape
    clear hr hq
    have c0 := OB.cell 0
    have c1 := OB.cell 1
    have c2 := OB.cell 2
    have c3 := OB.cell 3
    have c4 := OB.cell 4
    simp only [List.getElem?_cons_zero, List.getElem?_cons_succ] at c0 c1 c2 c3 c4
    have z0 := OB.frozen 0
    have z1 := OB.frozen 1
    have z2 := OB.frozen 2
    have z3 := OB.frozen 3
    have z4 := OB.frozen 4
    go_wp2_with fail
    refine bodyPost_ret (v := .agg #[.slice a n cp, .string tx, .int .i64 (m : Int), .int .i64 0, .int .i64 0]) (by simp [results, Tryz.results15, go_sem, c0, c1, c2, c3, c4]; try rfl) rfl ⟨.inl ⟨_, _, _, _, unhide fin, rfl, (unhide FR) _ _ _ _ _⟩, ?_⟩
    repeat (first | exact BB | refine Below.setCell ?_ (by simp <;> omega) _ | refine Below.alloc ?_ (by first | exact hleB | (simp <;> omega)) _)
  · have fin := hide ((unhide HR).trans hq)
    clear hq
    have c0 := OB.cell 0
    have c1 := OB.cell 1
    have c2 := OB.cell 2
    have c3 := OB.cell 3
    have c4 := OB.cell 4
    simp only [List.getElem?_cons_zero, List.getElem?_cons_succ] at c0 c1 c2 c3 c4
    have z0 := OB.frozen 0
    have z1 := OB.frozen 1
    have z2 := OB.frozen 2
    have z3 := OB.frozen 3
    have z4 := OB.frozen 4
    go_wp2_with fail
    refine bodyPost_ret (v := .agg #[.slice none 0 0, .string ByteArray.empty, .int .i64 0, .int .i64 c, .int .i64 (m : Int)]) (by simp [results, Tryz.results15, go_sem, c0, c1, c2, c3, c4]; try rfl) rfl ⟨.inr ⟨c, m, unhide fin, rfl⟩, ?_⟩
    repeat (first | exact BB | refine Below.setCell ?_ (by simp <;> omega) _ | refine Below.alloc ?_ (by first | exact hleB | (simp <;> omega)) _)

end Go.Proofs.YtepfdlbnnkojbaaGreatDoor
