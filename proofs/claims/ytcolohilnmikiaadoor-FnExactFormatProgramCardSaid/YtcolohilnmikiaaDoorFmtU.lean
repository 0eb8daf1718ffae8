/-
  l5Text of a node with an op's mark.
-/
import Derived.Test.YtcolohilnmikiaaDoorFmtS
namespace Go.Proofs.YtcolohilnmikiaaDoor
open Go.RowKit
set_option linter.unusedVariables false
set_option linter.unusedSimpArgs false


set_option maxRecDepth 100000 in
set_option maxHeartbeats 2000000 in
theorem l5Text_10 (b i len : Nat) (x : Nat) (y : Nat) (m : Nat) (c_ : Int) (text_ : ByteArray) (T : Nat → ByteArray) (w : World) (hiI : (i : Int) < (len : Int)) (hlen : len ≤ 200) (f0 : w.cell? ⟨b, i * 6, none⟩ = some (.int .i64 10)) (f1 : w.cell? ⟨b, i * 6 + 1, none⟩ = some (.int .i64 x)) (f2 : w.cell? ⟨b, i * 6 + 2, none⟩ = some (.int .i64 y)) (f3 : w.cell? ⟨b, i * 6 + 3, none⟩ = some (.int .i64 c_)) (f4 : w.cell? ⟨b, i * 6 + 4, none⟩ = some (.int .i64 m)) (f5 : w.cell? ⟨b, i * 6 + 5, none⟩ = some (.string text_)) (ht : text_.size ≤ 60) (HIH : Hid (∀ (x : Nat) (W : World), x < i → Below w.heap.size w W → Calls Tryd.prog 18 #[.slice (some ⟨b, 0, none⟩) len len, .int .i64 x] W fun e w' => e = .returned (.string (T x)) ∧ Below W.heap.size W w')) (ha : x < i) (sa : (T x).size ≤ 100000) (hb : y < i) (sb : (T y).size ≤ 100000) (hm : m < 12) (sm : (Tr.marksT.getD m ByteArray.empty).size ≤ 3) : Calls Tryd.prog 18 #[.slice (some ⟨b, 0, none⟩) len len, .int .i64 i] w fun e w' => e = .returned (.string (((((((⟨#[40]⟩ : ByteArray) ++ T x) ++ (⟨#[32]⟩ : ByteArray)) ++ (Tr.marksT.getD m ByteArray.empty)) ++ (⟨#[32]⟩ : ByteArray)) ++ T y) ++ (⟨#[41]⟩ : ByteArray))) ∧ Below w.heap.size w w' := by
  obtain ⟨w0, hw0⟩ : ∃ w0, w0 = w.alloc (.cells #[.int .i64 10, .int .i64 x, .int .i64 y, .int .i64 c_, .int .i64 m, .string text_] 44) := ⟨_, rfl⟩
  have B0 : Below w.heap.size w w0 := by rw [hw0]; exact (Below.refl _ _).alloc (Nat.le_refl _) _
  have N0 : Own w0 w.heap.size 44 [.int .i64 10, .int .i64 x, .int .i64 y, .int .i64 c_, .int .i64 m, .string text_] := by rw [hw0]; exact ⟨_, heap_alloc_new _ _, rfl⟩
  go_enter Tryd.func18, Tryd.ntmps18
  go_wp2_with fail
  rw [← hw0]
  clear hw0 f0 f1 f2 f3 f4 f5
  refine (HIH.out x _ ha B0).mono ?_
  rintro e w1 ⟨rfl, hb1⟩
  have B1 : Below w.heap.size w w1 := B0.trans (hb1.mono B0.size)
  have N1 := N0.below hb1 N0.lt
  obtain ⟨a, ha2⟩ : ∃ a, a = T x := ⟨_, rfl⟩
  rw [← ha2] at sa ⊢
  have HA := hide ha2
  clear ha2
  have c0 := N1.cell 0
  have c1 := N1.cell 1
  have c2 := N1.cell 2
  have c3 := N1.cell 3
  have c4 := N1.cell 4
  have c5 := N1.cell 5
  simp only [List.getElem?_cons_zero, List.getElem?_cons_succ] at c0 c1 c2 c3 c4 c5
  go_wp2_with fail
  refine (HIH.out y _ hb B1).mono ?_
  rintro e w2 ⟨rfl, hb2⟩
  have B2 : Below w.heap.size w w2 := B1.trans (hb2.mono B1.size)
  have N2 := N1.below hb2 N1.lt
  obtain ⟨bb, hb2e⟩ : ∃ bb, bb = T y := ⟨_, rfl⟩
  rw [← hb2e] at sb ⊢
  have HBB := hide hb2e
  clear hb2e
  clear c0 c1 c2 c3 c4 c5
  have c0 := N2.cell 0
  have c1 := N2.cell 1
  have c2 := N2.cell 2
  have c3 := N2.cell 3
  have c4 := N2.cell 4
  have c5 := N2.cell 5
  simp only [List.getElem?_cons_zero, List.getElem?_cons_succ] at c0 c1 c2 c3 c4 c5
  obtain ⟨s, hs⟩ : ∃ s, s = Tr.marksT.getD m ByteArray.empty := ⟨_, rfl⟩
  rw [← hs] at sm
  have hmI : (m : Int) < 12 := by omega
  have hm0 : (0 : Int) ≤ (m : Int) := by omega
  have HS := hide hs
  have HM := hide (fun (W : World) (q : Nat) (h : Own W q 9 (Tr.marksT.map Value.string)) => show W.cell? ⟨q, m, none⟩ = some (.string s) from (h.cell m).trans ((Tr.marks_get m hm).trans (by rw [hs])))
  clear hs
  have z0 : (((⟨#[40]⟩ : ByteArray) ++ a) : ByteArray).size ≤ 500000 := by simp only [ByteArray.size_append, Tr.sz_mk]; first | omega | (simp; omega)
  have z1 : ((((⟨#[40]⟩ : ByteArray) ++ a) ++ (⟨#[32]⟩ : ByteArray)) : ByteArray).size ≤ 500000 := by simp only [ByteArray.size_append, Tr.sz_mk]; first | omega | (simp; omega)
  have z2 : (((((⟨#[40]⟩ : ByteArray) ++ a) ++ (⟨#[32]⟩ : ByteArray)) ++ s) : ByteArray).size ≤ 500000 := by simp only [ByteArray.size_append, Tr.sz_mk]; first | omega | (simp; omega)
  have z3 : ((((((⟨#[40]⟩ : ByteArray) ++ a) ++ (⟨#[32]⟩ : ByteArray)) ++ s) ++ (⟨#[32]⟩ : ByteArray)) : ByteArray).size ≤ 500000 := by simp only [ByteArray.size_append, Tr.sz_mk]; first | omega | (simp; omega)
  have z4 : (((((((⟨#[40]⟩ : ByteArray) ++ a) ++ (⟨#[32]⟩ : ByteArray)) ++ s) ++ (⟨#[32]⟩ : ByteArray)) ++ bb) : ByteArray).size ≤ 500000 := by simp only [ByteArray.size_append, Tr.sz_mk]; first | omega | (simp; omega)
  have hwl : w.heap.size < w2.heap.size := N2.lt
  go_wp2_with fail
  go_region_with (go_at_call 38; refine (l5Marks_any _).mono ?_; rintro e w7 ⟨rfl, hO7, hb7⟩; have e0 : w7.cell? ⟨w2.heap.size, m, none⟩ = some (.string s) := (unhide HM) _ _ hO7; have e4 := (hb7.cell (by exact hwl)).trans c4; have hB7 : Below w.heap.size w w7 := B2.trans (((Below.refl w2.heap.size w2).drew.trans hb7).mono B2.size))
  all_goals (go_wp2_with fail; go_ret; exact ⟨ret_string (by rw [← unhide HS, ← unhide HA, ← unhide HBB]), hB7⟩)

end Go.Proofs.YtcolohilnmikiaaDoor
