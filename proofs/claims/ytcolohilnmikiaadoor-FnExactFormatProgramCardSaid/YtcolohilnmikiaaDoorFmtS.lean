/-
  The text of a node, the model's side: l5Text and l5Pairs.
-/
import Derived.Test.YtcolohilnmikiaaDoorFmtM
import Derived.Test.YtcolohilnmikiaaDoorDigT
import Derived.Test.YtcolohilnmikiaaDoorTreD
import Derived.Test.YtcolohilnmikiaaDoorTreI
import Derived.Deep.RegionWith
import Derived.Deep.RegionHeld3
namespace Go.Proofs.YtcolohilnmikiaaDoor
open Go.RowKit
set_option linter.unusedVariables false
set_option linter.unusedSimpArgs false


set_option maxRecDepth 100000 in
set_option maxHeartbeats 1000000 in
theorem l5Text_1 (b i len : Nat) (a_ b_ c_ num_ : Int) (text_ : ByteArray) (w : World) (hiI : (i : Int) < (len : Int)) (hlen : len ≤ 200) (f0 : w.cell? ⟨b, i * 6, none⟩ = some (.int .i64 1)) (f1 : w.cell? ⟨b, i * 6 + 1, none⟩ = some (.int .i64 a_)) (f2 : w.cell? ⟨b, i * 6 + 2, none⟩ = some (.int .i64 b_)) (f3 : w.cell? ⟨b, i * 6 + 3, none⟩ = some (.int .i64 c_)) (f4 : w.cell? ⟨b, i * 6 + 4, none⟩ = some (.int .i64 num_)) (f5 : w.cell? ⟨b, i * 6 + 5, none⟩ = some (.string text_)) (ht : text_.size ≤ 60) : Calls Tryd.prog 18 #[.slice (some ⟨b, 0, none⟩) len len, .int .i64 i] w fun e w' => e = .returned (.string ⟨#[46]⟩) ∧ Below w.heap.size w w' := by
  have HB : Hid (∀ o, Below w.heap.size w (w.alloc o)) := fun o => (Below.refl _ _).alloc (Nat.le_refl _) o
  go_enter Tryd.func18, Tryd.ntmps18
  go_wp2_with fail
  go_ret
  exact ⟨rfl, HB.out _⟩

set_option maxRecDepth 100000 in
set_option maxHeartbeats 1000000 in
theorem l5Text_24 (b i len : Nat) (a_ b_ c_ num_ : Int) (text_ : ByteArray) (w : World) (hiI : (i : Int) < (len : Int)) (hlen : len ≤ 200) (f0 : w.cell? ⟨b, i * 6, none⟩ = some (.int .i64 24)) (f1 : w.cell? ⟨b, i * 6 + 1, none⟩ = some (.int .i64 a_)) (f2 : w.cell? ⟨b, i * 6 + 2, none⟩ = some (.int .i64 b_)) (f3 : w.cell? ⟨b, i * 6 + 3, none⟩ = some (.int .i64 c_)) (f4 : w.cell? ⟨b, i * 6 + 4, none⟩ = some (.int .i64 num_)) (f5 : w.cell? ⟨b, i * 6 + 5, none⟩ = some (.string text_)) (ht : text_.size ≤ 60) : Calls Tryd.prog 18 #[.slice (some ⟨b, 0, none⟩) len len, .int .i64 i] w fun e w' => e = .returned (.string ⟨#[46, 46]⟩) ∧ Below w.heap.size w w' := by
  have HB : Hid (∀ o, Below w.heap.size w (w.alloc o)) := fun o => (Below.refl _ _).alloc (Nat.le_refl _) o
  go_enter Tryd.func18, Tryd.ntmps18
  go_wp2_with fail
  go_ret
  exact ⟨rfl, HB.out _⟩

set_option maxRecDepth 100000 in
set_option maxHeartbeats 1000000 in
theorem l5Text_15 (b i len : Nat) (a_ b_ c_ num_ : Int) (text_ : ByteArray) (w : World) (hiI : (i : Int) < (len : Int)) (hlen : len ≤ 200) (f0 : w.cell? ⟨b, i * 6, none⟩ = some (.int .i64 15)) (f1 : w.cell? ⟨b, i * 6 + 1, none⟩ = some (.int .i64 a_)) (f2 : w.cell? ⟨b, i * 6 + 2, none⟩ = some (.int .i64 b_)) (f3 : w.cell? ⟨b, i * 6 + 3, none⟩ = some (.int .i64 c_)) (f4 : w.cell? ⟨b, i * 6 + 4, none⟩ = some (.int .i64 num_)) (f5 : w.cell? ⟨b, i * 6 + 5, none⟩ = some (.string text_)) (ht : text_.size ≤ 60) : Calls Tryd.prog 18 #[.slice (some ⟨b, 0, none⟩) len len, .int .i64 i] w fun e w' => e = .returned (.string ⟨#[91, 93]⟩) ∧ Below w.heap.size w w' := by
  have HB : Hid (∀ o, Below w.heap.size w (w.alloc o)) := fun o => (Below.refl _ _).alloc (Nat.le_refl _) o
  go_enter Tryd.func18, Tryd.ntmps18
  go_wp2_with fail
  go_ret
  exact ⟨rfl, HB.out _⟩

set_option maxRecDepth 100000 in
set_option maxHeartbeats 1000000 in
theorem l5Text_16 (b i len : Nat) (a_ b_ c_ num_ : Int) (text_ : ByteArray) (w : World) (hiI : (i : Int) < (len : Int)) (hlen : len ≤ 200) (f0 : w.cell? ⟨b, i * 6, none⟩ = some (.int .i64 16)) (f1 : w.cell? ⟨b, i * 6 + 1, none⟩ = some (.int .i64 a_)) (f2 : w.cell? ⟨b, i * 6 + 2, none⟩ = some (.int .i64 b_)) (f3 : w.cell? ⟨b, i * 6 + 3, none⟩ = some (.int .i64 c_)) (f4 : w.cell? ⟨b, i * 6 + 4, none⟩ = some (.int .i64 num_)) (f5 : w.cell? ⟨b, i * 6 + 5, none⟩ = some (.string text_)) (ht : text_.size ≤ 60) : Calls Tryd.prog 18 #[.slice (some ⟨b, 0, none⟩) len len, .int .i64 i] w fun e w' => e = .returned (.string ⟨#[123, 125]⟩) ∧ Below w.heap.size w w' := by
  have HB : Hid (∀ o, Below w.heap.size w (w.alloc o)) := fun o => (Below.refl _ _).alloc (Nat.le_refl _) o
  go_enter Tryd.func18, Tryd.ntmps18
  go_wp2_with fail
  go_ret
  exact ⟨rfl, HB.out _⟩

set_option maxRecDepth 100000 in
set_option maxHeartbeats 1000000 in
theorem l5Text_21 (b i len : Nat) (a_ b_ c_ num_ : Int) (text_ : ByteArray) (w : World) (hiI : (i : Int) < (len : Int)) (hlen : len ≤ 200) (f0 : w.cell? ⟨b, i * 6, none⟩ = some (.int .i64 21)) (f1 : w.cell? ⟨b, i * 6 + 1, none⟩ = some (.int .i64 a_)) (f2 : w.cell? ⟨b, i * 6 + 2, none⟩ = some (.int .i64 b_)) (f3 : w.cell? ⟨b, i * 6 + 3, none⟩ = some (.int .i64 c_)) (f4 : w.cell? ⟨b, i * 6 + 4, none⟩ = some (.int .i64 num_)) (f5 : w.cell? ⟨b, i * 6 + 5, none⟩ = some (.string text_)) (ht : text_.size ≤ 60) : Calls Tryd.prog 18 #[.slice (some ⟨b, 0, none⟩) len len, .int .i64 i] w fun e w' => e = .returned (.string (⟨#[36]⟩ ++ text_)) ∧ Below w.heap.size w w' := by
  have HB : Hid (∀ o, Below w.heap.size w (w.alloc o)) := fun o => (Below.refl _ _).alloc (Nat.le_refl _) o
  go_enter Tryd.func18, Tryd.ntmps18
  go_wp2_with fail
  go_ret
  exact ⟨rfl, HB.out _⟩

set_option maxRecDepth 100000 in
set_option maxHeartbeats 1000000 in
theorem l5Text_22 (b i len : Nat) (a_ b_ c_ num_ : Int) (text_ : ByteArray) (w : World) (hiI : (i : Int) < (len : Int)) (hlen : len ≤ 200) (f0 : w.cell? ⟨b, i * 6, none⟩ = some (.int .i64 22)) (f1 : w.cell? ⟨b, i * 6 + 1, none⟩ = some (.int .i64 a_)) (f2 : w.cell? ⟨b, i * 6 + 2, none⟩ = some (.int .i64 b_)) (f3 : w.cell? ⟨b, i * 6 + 3, none⟩ = some (.int .i64 c_)) (f4 : w.cell? ⟨b, i * 6 + 4, none⟩ = some (.int .i64 num_)) (f5 : w.cell? ⟨b, i * 6 + 5, none⟩ = some (.string text_)) (ht : text_.size ≤ 60) : Calls Tryd.prog 18 #[.slice (some ⟨b, 0, none⟩) len len, .int .i64 i] w fun e w' => e = .returned (.string text_) ∧ Below w.heap.size w w' := by
  have HB : Hid (∀ o, Below w.heap.size w (w.alloc o)) := fun o => (Below.refl _ _).alloc (Nat.le_refl _) o
  go_enter Tryd.func18, Tryd.ntmps18
  go_wp2_with fail
  go_ret
  exact ⟨rfl, HB.out _⟩

set_option maxRecDepth 100000 in
set_option maxHeartbeats 1000000 in
theorem l5Text_2 (b i len : Nat) (a_ b_ c_ num_ : Int) (text_ : ByteArray) (w : World) (hiI : (i : Int) < (len : Int)) (hlen : len ≤ 200) (f0 : w.cell? ⟨b, i * 6, none⟩ = some (.int .i64 2)) (f1 : w.cell? ⟨b, i * 6 + 1, none⟩ = some (.int .i64 a_)) (f2 : w.cell? ⟨b, i * 6 + 2, none⟩ = some (.int .i64 b_)) (f3 : w.cell? ⟨b, i * 6 + 3, none⟩ = some (.int .i64 c_)) (f4 : w.cell? ⟨b, i * 6 + 4, none⟩ = some (.int .i64 num_)) (f5 : w.cell? ⟨b, i * 6 + 5, none⟩ = some (.string text_)) (ht : text_.size ≤ 60) (h0 : 0 ≤ num_) (h1 : num_ ≤ 1000000000000000) : Calls Tryd.prog 18 #[.slice (some ⟨b, 0, none⟩) len len, .int .i64 i] w fun e w' => e = .returned (.string ⟨(Lib.decDigits num_.toNat).toArray⟩) ∧ Below w.heap.size w w' := by
  have HB : Hid (∀ o, Below w.heap.size w (w.alloc o)) := fun o => (Below.refl _ _).alloc (Nat.le_refl _) o
  go_enter Tryd.func18, Tryd.ntmps18
  go_wp2_with fail
  obtain ⟨u, hu⟩ : ∃ u : Nat, num_ = u := ⟨num_.toNat, by omega⟩
  rw [hu]
  refine (l2Digits_any u (by omega) _).mono ?_
  rintro e w1 ⟨rfl, hb1⟩
  have B1 : Below w.heap.size w w1 := (HB.out _).trans (hb1.mono (HB.out _).size)
  go_wp2_with fail
  go_ret
  exact ⟨ret_string (by rw [hu, Int.toNat_natCast]), B1⟩

set_option maxRecDepth 100000 in
set_option maxHeartbeats 1000000 in
theorem l5Text_3 (b i len : Nat) (a_ b_ c_ num_ : Int) (text_ : ByteArray) (w : World) (hiI : (i : Int) < (len : Int)) (hlen : len ≤ 200) (f0 : w.cell? ⟨b, i * 6, none⟩ = some (.int .i64 3)) (f1 : w.cell? ⟨b, i * 6 + 1, none⟩ = some (.int .i64 a_)) (f2 : w.cell? ⟨b, i * 6 + 2, none⟩ = some (.int .i64 b_)) (f3 : w.cell? ⟨b, i * 6 + 3, none⟩ = some (.int .i64 c_)) (f4 : w.cell? ⟨b, i * 6 + 4, none⟩ = some (.int .i64 num_)) (f5 : w.cell? ⟨b, i * 6 + 5, none⟩ = some (.string text_)) (ht : text_.size ≤ 60) : Calls Tryd.prog 18 #[.slice (some ⟨b, 0, none⟩) len len, .int .i64 i] w fun e w' => e = .returned (.string (Tr.qt text_)) ∧ Below w.heap.size w w' := by
  have HB : Hid (∀ o, Below w.heap.size w (w.alloc o)) := fun o => (Below.refl _ _).alloc (Nat.le_refl _) o
  go_enter Tryd.func18, Tryd.ntmps18
  go_wp2_with fail
  refine (l2Quote_any text_ _ ht).mono ?_
  rintro e w1 ⟨rfl, hw1⟩
  subst w1
  go_wp2_with fail
  go_ret
  exact ⟨rfl, HB.out _⟩

set_option maxRecDepth 100000 in
set_option maxHeartbeats 1000000 in
theorem l5Text_4_0 (b i len : Nat) (a_ b_ c_ : Int) (text_ : ByteArray) (w : World) (hiI : (i : Int) < (len : Int)) (hlen : len ≤ 200) (f0 : w.cell? ⟨b, i * 6, none⟩ = some (.int .i64 4)) (f1 : w.cell? ⟨b, i * 6 + 1, none⟩ = some (.int .i64 a_)) (f2 : w.cell? ⟨b, i * 6 + 2, none⟩ = some (.int .i64 b_)) (f3 : w.cell? ⟨b, i * 6 + 3, none⟩ = some (.int .i64 c_)) (f4 : w.cell? ⟨b, i * 6 + 4, none⟩ = some (.int .i64 0)) (f5 : w.cell? ⟨b, i * 6 + 5, none⟩ = some (.string text_)) (ht : text_.size ≤ 60) : Calls Tryd.prog 18 #[.slice (some ⟨b, 0, none⟩) len len, .int .i64 i] w fun e w' => e = .returned (.string (Tr.word3 0)) ∧ Below w.heap.size w w' := by
  have HB : Hid (∀ o, Below w.heap.size w (w.alloc o)) := fun o => (Below.refl _ _).alloc (Nat.le_refl _) o
  go_enter Tryd.func18, Tryd.ntmps18
  go_wp2_with fail
  go_ret
  exact ⟨rfl, by first | exact HB.out _ | exact ((HB.out _).alloc (HB.out _).size _)⟩

set_option maxRecDepth 100000 in
set_option maxHeartbeats 1000000 in
theorem l5Text_4_1 (b i len : Nat) (a_ b_ c_ : Int) (text_ : ByteArray) (w : World) (hiI : (i : Int) < (len : Int)) (hlen : len ≤ 200) (f0 : w.cell? ⟨b, i * 6, none⟩ = some (.int .i64 4)) (f1 : w.cell? ⟨b, i * 6 + 1, none⟩ = some (.int .i64 a_)) (f2 : w.cell? ⟨b, i * 6 + 2, none⟩ = some (.int .i64 b_)) (f3 : w.cell? ⟨b, i * 6 + 3, none⟩ = some (.int .i64 c_)) (f4 : w.cell? ⟨b, i * 6 + 4, none⟩ = some (.int .i64 1)) (f5 : w.cell? ⟨b, i * 6 + 5, none⟩ = some (.string text_)) (ht : text_.size ≤ 60) : Calls Tryd.prog 18 #[.slice (some ⟨b, 0, none⟩) len len, .int .i64 i] w fun e w' => e = .returned (.string (Tr.word3 1)) ∧ Below w.heap.size w w' := by
  have HB : Hid (∀ o, Below w.heap.size w (w.alloc o)) := fun o => (Below.refl _ _).alloc (Nat.le_refl _) o
  go_enter Tryd.func18, Tryd.ntmps18
  go_wp2_with fail
  go_ret
  exact ⟨rfl, by first | exact HB.out _ | exact ((HB.out _).alloc (HB.out _).size _)⟩

set_option maxRecDepth 100000 in
set_option maxHeartbeats 1000000 in
theorem l5Text_4_2 (b i len : Nat) (a_ b_ c_ : Int) (text_ : ByteArray) (w : World) (hiI : (i : Int) < (len : Int)) (hlen : len ≤ 200) (f0 : w.cell? ⟨b, i * 6, none⟩ = some (.int .i64 4)) (f1 : w.cell? ⟨b, i * 6 + 1, none⟩ = some (.int .i64 a_)) (f2 : w.cell? ⟨b, i * 6 + 2, none⟩ = some (.int .i64 b_)) (f3 : w.cell? ⟨b, i * 6 + 3, none⟩ = some (.int .i64 c_)) (f4 : w.cell? ⟨b, i * 6 + 4, none⟩ = some (.int .i64 2)) (f5 : w.cell? ⟨b, i * 6 + 5, none⟩ = some (.string text_)) (ht : text_.size ≤ 60) : Calls Tryd.prog 18 #[.slice (some ⟨b, 0, none⟩) len len, .int .i64 i] w fun e w' => e = .returned (.string (Tr.word3 2)) ∧ Below w.heap.size w w' := by
  have HB : Hid (∀ o, Below w.heap.size w (w.alloc o)) := fun o => (Below.refl _ _).alloc (Nat.le_refl _) o
  go_enter Tryd.func18, Tryd.ntmps18
  go_wp2_with fail
  go_ret
  exact ⟨rfl, by first | exact HB.out _ | exact ((HB.out _).alloc (HB.out _).size _)⟩

namespace Tr
def marksT : List ByteArray := [⟨#[]⟩, ⟨#[43]⟩, ⟨#[45]⟩, ⟨#[42]⟩, ⟨#[61, 61]⟩, ⟨#[33, 61]⟩, ⟨#[60]⟩, ⟨#[60, 61]⟩, ⟨#[62]⟩, ⟨#[62, 61]⟩, ⟨#[47]⟩, ⟨#[37]⟩]
theorem marks_get (m : Nat) (hm : m < 12) : (marksT.map Value.string)[m]? = some (.string (marksT.getD m ByteArray.empty)) := by
  rw [List.getElem?_map, List.getElem?_eq_getElem hm, List.getD_eq_getElem?_getD, List.getElem?_eq_getElem hm]; rfl
end Tr
theorem l5Marks_any (w : World) : Calls Tryd.prog 38 #[] w fun e w' => e = .returned (.slice (some ⟨w.heap.size, 0, none⟩) 12 12) ∧ Own w' w.heap.size 9 (Tr.marksT.map Value.string) ∧ Below w.heap.size w w' := by
  go_enter Tryd.func38, Tryd.ntmps38
  go_wp2_with fail
  go_ret
  exact ⟨rfl, ⟨_, heap_alloc_new _ _, rfl⟩, (Below.refl _ _).alloc (Nat.le_refl _) _⟩

set_option maxRecDepth 100000 in
set_option maxHeartbeats 2000000 in
theorem l5Text_12 (b i len : Nat) (x : Nat) (b_ c_ num_ : Int) (text_ : ByteArray) (T : Nat → ByteArray) (w : World) (hiI : (i : Int) < (len : Int)) (hlen : len ≤ 200) (f0 : w.cell? ⟨b, i * 6, none⟩ = some (.int .i64 12)) (f1 : w.cell? ⟨b, i * 6 + 1, none⟩ = some (.int .i64 x)) (f2 : w.cell? ⟨b, i * 6 + 2, none⟩ = some (.int .i64 b_)) (f3 : w.cell? ⟨b, i * 6 + 3, none⟩ = some (.int .i64 c_)) (f4 : w.cell? ⟨b, i * 6 + 4, none⟩ = some (.int .i64 num_)) (f5 : w.cell? ⟨b, i * 6 + 5, none⟩ = some (.string text_)) (ht : text_.size ≤ 60) (HIH : Hid (∀ (x : Nat) (W : World), x < i → Below w.heap.size w W → Calls Tryd.prog 18 #[.slice (some ⟨b, 0, none⟩) len len, .int .i64 x] W fun e w' => e = .returned (.string (T x)) ∧ Below W.heap.size W w')) (ha : x < i) (sa : (T x).size ≤ 100000) : Calls Tryd.prog 18 #[.slice (some ⟨b, 0, none⟩) len len, .int .i64 i] w fun e w' => e = .returned (.string (T x ++ (⟨#[91, 93]⟩ : ByteArray))) ∧ Below w.heap.size w w' := by
  obtain ⟨w0, hw0⟩ : ∃ w0, w0 = w.alloc (.cells #[.int .i64 12, .int .i64 x, .int .i64 b_, .int .i64 c_, .int .i64 num_, .string text_] 44) := ⟨_, rfl⟩
  have B0 : Below w.heap.size w w0 := by rw [hw0]; exact (Below.refl _ _).alloc (Nat.le_refl _) _
  have N0 : Own w0 w.heap.size 44 [.int .i64 12, .int .i64 x, .int .i64 b_, .int .i64 c_, .int .i64 num_, .string text_] := by rw [hw0]; exact ⟨_, heap_alloc_new _ _, rfl⟩
  go_enter Tryd.func18, Tryd.ntmps18
  go_wp2_with fail
  rw [← hw0]
  clear hw0 f0 f1 f2 f3 f4 f5
  refine (HIH.out x _ ha B0).mono ?_
  rintro e w1 ⟨rfl, hb1⟩
  have B1 : Below w.heap.size w w1 := B0.trans (hb1.mono B0.size)
  have N1 := N0.below hb1 N0.lt
  obtain ⟨a, ha2⟩ : ∃ a, a = T x := ⟨_, rfl⟩
  rw [← ha2] at sa ⊢
  have HA := hide ha2
  clear ha2
  have c0 := N1.cell 0
  have c1 := N1.cell 1
  have c2 := N1.cell 2
  have c3 := N1.cell 3
  have c4 := N1.cell 4
  have c5 := N1.cell 5
  simp only [List.getElem?_cons_zero, List.getElem?_cons_succ] at c0 c1 c2 c3 c4 c5
  go_wp2_with fail
  go_ret
  exact ⟨ret_string (by rw [← unhide HA]), B1⟩

set_option maxRecDepth 100000 in
set_option maxHeartbeats 2000000 in
theorem l5Text_13 (b i len : Nat) (x : Nat) (b_ c_ num_ : Int) (text_ : ByteArray) (T : Nat → ByteArray) (w : World) (hiI : (i : Int) < (len : Int)) (hlen : len ≤ 200) (f0 : w.cell? ⟨b, i * 6, none⟩ = some (.int .i64 13)) (f1 : w.cell? ⟨b, i * 6 + 1, none⟩ = some (.int .i64 x)) (f2 : w.cell? ⟨b, i * 6 + 2, none⟩ = some (.int .i64 b_)) (f3 : w.cell? ⟨b, i * 6 + 3, none⟩ = some (.int .i64 c_)) (f4 : w.cell? ⟨b, i * 6 + 4, none⟩ = some (.int .i64 num_)) (f5 : w.cell? ⟨b, i * 6 + 5, none⟩ = some (.string text_)) (ht : text_.size ≤ 60) (HIH : Hid (∀ (x : Nat) (W : World), x < i → Below w.heap.size w W → Calls Tryd.prog 18 #[.slice (some ⟨b, 0, none⟩) len len, .int .i64 x] W fun e w' => e = .returned (.string (T x)) ∧ Below W.heap.size W w')) (ha : x < i) (sa : (T x).size ≤ 100000) : Calls Tryd.prog 18 #[.slice (some ⟨b, 0, none⟩) len len, .int .i64 i] w fun e w' => e = .returned (.string (((⟨#[40, 116, 114, 121, 32]⟩ : ByteArray) ++ T x) ++ (⟨#[41]⟩ : ByteArray))) ∧ Below w.heap.size w w' := by
  obtain ⟨w0, hw0⟩ : ∃ w0, w0 = w.alloc (.cells #[.int .i64 13, .int .i64 x, .int .i64 b_, .int .i64 c_, .int .i64 num_, .string text_] 44) := ⟨_, rfl⟩
  have B0 : Below w.heap.size w w0 := by rw [hw0]; exact (Below.refl _ _).alloc (Nat.le_refl _) _
  have N0 : Own w0 w.heap.size 44 [.int .i64 13, .int .i64 x, .int .i64 b_, .int .i64 c_, .int .i64 num_, .string text_] := by rw [hw0]; exact ⟨_, heap_alloc_new _ _, rfl⟩
  go_enter Tryd.func18, Tryd.ntmps18
  go_wp2_with fail
  rw [← hw0]
  clear hw0 f0 f1 f2 f3 f4 f5
  refine (HIH.out x _ ha B0).mono ?_
  rintro e w1 ⟨rfl, hb1⟩
  have B1 : Below w.heap.size w w1 := B0.trans (hb1.mono B0.size)
  have N1 := N0.below hb1 N0.lt
  obtain ⟨a, ha2⟩ : ∃ a, a = T x := ⟨_, rfl⟩
  rw [← ha2] at sa ⊢
  have HA := hide ha2
  clear ha2
  have c0 := N1.cell 0
  have c1 := N1.cell 1
  have c2 := N1.cell 2
  have c3 := N1.cell 3
  have c4 := N1.cell 4
  have c5 := N1.cell 5
  simp only [List.getElem?_cons_zero, List.getElem?_cons_succ] at c0 c1 c2 c3 c4 c5
  have z0 : (((⟨#[40, 116, 114, 121, 32]⟩ : ByteArray) ++ a) : ByteArray).size ≤ 500000 := by simp only [ByteArray.size_append, Tr.sz_mk]; first | omega | (simp; omega)
  go_wp2_with fail
  go_ret
  exact ⟨ret_string (by rw [← unhide HA]), B1⟩

set_option maxRecDepth 100000 in
set_option maxHeartbeats 2000000 in
theorem l5Text_14 (b i len : Nat) (x : Nat) (b_ c_ num_ : Int) (text_ : ByteArray) (T : Nat → ByteArray) (w : World) (hiI : (i : Int) < (len : Int)) (hlen : len ≤ 200) (f0 : w.cell? ⟨b, i * 6, none⟩ = some (.int .i64 14)) (f1 : w.cell? ⟨b, i * 6 + 1, none⟩ = some (.int .i64 x)) (f2 : w.cell? ⟨b, i * 6 + 2, none⟩ = some (.int .i64 b_)) (f3 : w.cell? ⟨b, i * 6 + 3, none⟩ = some (.int .i64 c_)) (f4 : w.cell? ⟨b, i * 6 + 4, none⟩ = some (.int .i64 num_)) (f5 : w.cell? ⟨b, i * 6 + 5, none⟩ = some (.string text_)) (ht : text_.size ≤ 60) (HIH : Hid (∀ (x : Nat) (W : World), x < i → Below w.heap.size w W → Calls Tryd.prog 18 #[.slice (some ⟨b, 0, none⟩) len len, .int .i64 x] W fun e w' => e = .returned (.string (T x)) ∧ Below W.heap.size W w')) (ha : x < i) (sa : (T x).size ≤ 100000) : Calls Tryd.prog 18 #[.slice (some ⟨b, 0, none⟩) len len, .int .i64 i] w fun e w' => e = .returned (.string (((⟨#[91]⟩ : ByteArray) ++ T x) ++ (⟨#[93]⟩ : ByteArray))) ∧ Below w.heap.size w w' := by
  obtain ⟨w0, hw0⟩ : ∃ w0, w0 = w.alloc (.cells #[.int .i64 14, .int .i64 x, .int .i64 b_, .int .i64 c_, .int .i64 num_, .string text_] 44) := ⟨_, rfl⟩
  have B0 : Below w.heap.size w w0 := by rw [hw0]; exact (Below.refl _ _).alloc (Nat.le_refl _) _
  have N0 : Own w0 w.heap.size 44 [.int .i64 14, .int .i64 x, .int .i64 b_, .int .i64 c_, .int .i64 num_, .string text_] := by rw [hw0]; exact ⟨_, heap_alloc_new _ _, rfl⟩
  go_enter Tryd.func18, Tryd.ntmps18
  go_wp2_with fail
  rw [← hw0]
  clear hw0 f0 f1 f2 f3 f4 f5
  refine (HIH.out x _ ha B0).mono ?_
  rintro e w1 ⟨rfl, hb1⟩
  have B1 : Below w.heap.size w w1 := B0.trans (hb1.mono B0.size)
  have N1 := N0.below hb1 N0.lt
  obtain ⟨a, ha2⟩ : ∃ a, a = T x := ⟨_, rfl⟩
  rw [← ha2] at sa ⊢
  have HA := hide ha2
  clear ha2
  have c0 := N1.cell 0
  have c1 := N1.cell 1
  have c2 := N1.cell 2
  have c3 := N1.cell 3
  have c4 := N1.cell 4
  have c5 := N1.cell 5
  simp only [List.getElem?_cons_zero, List.getElem?_cons_succ] at c0 c1 c2 c3 c4 c5
  have z0 : (((⟨#[91]⟩ : ByteArray) ++ a) : ByteArray).size ≤ 500000 := by simp only [ByteArray.size_append, Tr.sz_mk]; first | omega | (simp; omega)
  go_wp2_with fail
  go_ret
  exact ⟨ret_string (by rw [← unhide HA]), B1⟩

set_option maxRecDepth 100000 in
set_option maxHeartbeats 2000000 in
theorem l5Text_23 (b i len : Nat) (x : Nat) (b_ c_ num_ : Int) (text_ : ByteArray) (T : Nat → ByteArray) (w : World) (hiI : (i : Int) < (len : Int)) (hlen : len ≤ 200) (f0 : w.cell? ⟨b, i * 6, none⟩ = some (.int .i64 23)) (f1 : w.cell? ⟨b, i * 6 + 1, none⟩ = some (.int .i64 x)) (f2 : w.cell? ⟨b, i * 6 + 2, none⟩ = some (.int .i64 b_)) (f3 : w.cell? ⟨b, i * 6 + 3, none⟩ = some (.int .i64 c_)) (f4 : w.cell? ⟨b, i * 6 + 4, none⟩ = some (.int .i64 num_)) (f5 : w.cell? ⟨b, i * 6 + 5, none⟩ = some (.string text_)) (ht : text_.size ≤ 60) (HIH : Hid (∀ (x : Nat) (W : World), x < i → Below w.heap.size w W → Calls Tryd.prog 18 #[.slice (some ⟨b, 0, none⟩) len len, .int .i64 x] W fun e w' => e = .returned (.string (T x)) ∧ Below W.heap.size W w')) (ha : x < i) (sa : (T x).size ≤ 100000) : Calls Tryd.prog 18 #[.slice (some ⟨b, 0, none⟩) len len, .int .i64 i] w fun e w' => e = .returned (.string (((text_ ++ (⟨#[40]⟩ : ByteArray)) ++ T x) ++ (⟨#[41]⟩ : ByteArray))) ∧ Below w.heap.size w w' := by
  obtain ⟨w0, hw0⟩ : ∃ w0, w0 = w.alloc (.cells #[.int .i64 23, .int .i64 x, .int .i64 b_, .int .i64 c_, .int .i64 num_, .string text_] 44) := ⟨_, rfl⟩
  have B0 : Below w.heap.size w w0 := by rw [hw0]; exact (Below.refl _ _).alloc (Nat.le_refl _) _
  have N0 : Own w0 w.heap.size 44 [.int .i64 23, .int .i64 x, .int .i64 b_, .int .i64 c_, .int .i64 num_, .string text_] := by rw [hw0]; exact ⟨_, heap_alloc_new _ _, rfl⟩
  go_enter Tryd.func18, Tryd.ntmps18
  go_wp2_with fail
  rw [← hw0]
  clear hw0 f0 f1 f2 f3 f4 f5
  refine (HIH.out x _ ha B0).mono ?_
  rintro e w1 ⟨rfl, hb1⟩
  have B1 : Below w.heap.size w w1 := B0.trans (hb1.mono B0.size)
  have N1 := N0.below hb1 N0.lt
  obtain ⟨a, ha2⟩ : ∃ a, a = T x := ⟨_, rfl⟩
  rw [← ha2] at sa ⊢
  have HA := hide ha2
  clear ha2
  have c0 := N1.cell 0
  have c1 := N1.cell 1
  have c2 := N1.cell 2
  have c3 := N1.cell 3
  have c4 := N1.cell 4
  have c5 := N1.cell 5
  simp only [List.getElem?_cons_zero, List.getElem?_cons_succ] at c0 c1 c2 c3 c4 c5
  have z0 : ((text_ ++ (⟨#[40]⟩ : ByteArray)) : ByteArray).size ≤ 500000 := by simp only [ByteArray.size_append, Tr.sz_mk]; first | omega | (simp; omega)
  have z1 : (((text_ ++ (⟨#[40]⟩ : ByteArray)) ++ a) : ByteArray).size ≤ 500000 := by simp only [ByteArray.size_append, Tr.sz_mk]; first | omega | (simp; omega)
  go_wp2_with fail
  go_ret
  exact ⟨ret_string (by rw [← unhide HA]), B1⟩

set_option maxRecDepth 100000 in
set_option maxHeartbeats 2000000 in
theorem l5Text_5 (b i len : Nat) (x : Nat) (y : Nat) (c_ num_ : Int) (text_ : ByteArray) (T : Nat → ByteArray) (w : World) (hiI : (i : Int) < (len : Int)) (hlen : len ≤ 200) (f0 : w.cell? ⟨b, i * 6, none⟩ = some (.int .i64 5)) (f1 : w.cell? ⟨b, i * 6 + 1, none⟩ = some (.int .i64 x)) (f2 : w.cell? ⟨b, i * 6 + 2, none⟩ = some (.int .i64 y)) (f3 : w.cell? ⟨b, i * 6 + 3, none⟩ = some (.int .i64 c_)) (f4 : w.cell? ⟨b, i * 6 + 4, none⟩ = some (.int .i64 num_)) (f5 : w.cell? ⟨b, i * 6 + 5, none⟩ = some (.string text_)) (ht : text_.size ≤ 60) (HIH : Hid (∀ (x : Nat) (W : World), x < i → Below w.heap.size w W → Calls Tryd.prog 18 #[.slice (some ⟨b, 0, none⟩) len len, .int .i64 x] W fun e w' => e = .returned (.string (T x)) ∧ Below W.heap.size W w')) (ha : x < i) (sa : (T x).size ≤ 100000) (hb : y < i) (sb : (T y).size ≤ 100000) : Calls Tryd.prog 18 #[.slice (some ⟨b, 0, none⟩) len len, .int .i64 i] w fun e w' => e = .returned (.string (((((⟨#[40]⟩ : ByteArray) ++ T x) ++ (⟨#[32, 124, 32]⟩ : ByteArray)) ++ T y) ++ (⟨#[41]⟩ : ByteArray))) ∧ Below w.heap.size w w' := by
  obtain ⟨w0, hw0⟩ : ∃ w0, w0 = w.alloc (.cells #[.int .i64 5, .int .i64 x, .int .i64 y, .int .i64 c_, .int .i64 num_, .string text_] 44) := ⟨_, rfl⟩
  have B0 : Below w.heap.size w w0 := by rw [hw0]; exact (Below.refl _ _).alloc (Nat.le_refl _) _
  have N0 : Own w0 w.heap.size 44 [.int .i64 5, .int .i64 x, .int .i64 y, .int .i64 c_, .int .i64 num_, .string text_] := by rw [hw0]; exact ⟨_, heap_alloc_new _ _, rfl⟩
  go_enter Tryd.func18, Tryd.ntmps18
  go_wp2_with fail
  rw [← hw0]
  clear hw0 f0 f1 f2 f3 f4 f5
  refine (HIH.out x _ ha B0).mono ?_
  rintro e w1 ⟨rfl, hb1⟩
  have B1 : Below w.heap.size w w1 := B0.trans (hb1.mono B0.size)
  have N1 := N0.below hb1 N0.lt
  obtain ⟨a, ha2⟩ : ∃ a, a = T x := ⟨_, rfl⟩
  rw [← ha2] at sa ⊢
  have HA := hide ha2
  clear ha2
  have c0 := N1.cell 0
  have c1 := N1.cell 1
  have c2 := N1.cell 2
  have c3 := N1.cell 3
  have c4 := N1.cell 4
  have c5 := N1.cell 5
  simp only [List.getElem?_cons_zero, List.getElem?_cons_succ] at c0 c1 c2 c3 c4 c5
  go_wp2_with fail
  refine (HIH.out y _ hb B1).mono ?_
  rintro e w2 ⟨rfl, hb2⟩
  have B2 : Below w.heap.size w w2 := B1.trans (hb2.mono B1.size)
  have N2 := N1.below hb2 N1.lt
  obtain ⟨bb, hb2e⟩ : ∃ bb, bb = T y := ⟨_, rfl⟩
  rw [← hb2e] at sb ⊢
  have HBB := hide hb2e
  clear hb2e
  clear c0 c1 c2 c3 c4 c5
  have c0 := N2.cell 0
  have c1 := N2.cell 1
  have c2 := N2.cell 2
  have c3 := N2.cell 3
  have c4 := N2.cell 4
  have c5 := N2.cell 5
  simp only [List.getElem?_cons_zero, List.getElem?_cons_succ] at c0 c1 c2 c3 c4 c5
  have z0 : (((⟨#[40]⟩ : ByteArray) ++ a) : ByteArray).size ≤ 500000 := by simp only [ByteArray.size_append, Tr.sz_mk]; first | omega | (simp; omega)
  have z1 : ((((⟨#[40]⟩ : ByteArray) ++ a) ++ (⟨#[32, 124, 32]⟩ : ByteArray)) : ByteArray).size ≤ 500000 := by simp only [ByteArray.size_append, Tr.sz_mk]; first | omega | (simp; omega)
  have z2 : (((((⟨#[40]⟩ : ByteArray) ++ a) ++ (⟨#[32, 124, 32]⟩ : ByteArray)) ++ bb) : ByteArray).size ≤ 500000 := by simp only [ByteArray.size_append, Tr.sz_mk]; first | omega | (simp; omega)
  go_wp2_with fail
  go_ret
  exact ⟨ret_string (by rw [← unhide HA, ← unhide HBB]), B2⟩

set_option maxRecDepth 100000 in
set_option maxHeartbeats 2000000 in
theorem l5Text_6 (b i len : Nat) (x : Nat) (y : Nat) (c_ num_ : Int) (text_ : ByteArray) (T : Nat → ByteArray) (w : World) (hiI : (i : Int) < (len : Int)) (hlen : len ≤ 200) (f0 : w.cell? ⟨b, i * 6, none⟩ = some (.int .i64 6)) (f1 : w.cell? ⟨b, i * 6 + 1, none⟩ = some (.int .i64 x)) (f2 : w.cell? ⟨b, i * 6 + 2, none⟩ = some (.int .i64 y)) (f3 : w.cell? ⟨b, i * 6 + 3, none⟩ = some (.int .i64 c_)) (f4 : w.cell? ⟨b, i * 6 + 4, none⟩ = some (.int .i64 num_)) (f5 : w.cell? ⟨b, i * 6 + 5, none⟩ = some (.string text_)) (ht : text_.size ≤ 60) (HIH : Hid (∀ (x : Nat) (W : World), x < i → Below w.heap.size w W → Calls Tryd.prog 18 #[.slice (some ⟨b, 0, none⟩) len len, .int .i64 x] W fun e w' => e = .returned (.string (T x)) ∧ Below W.heap.size W w')) (ha : x < i) (sa : (T x).size ≤ 100000) (hb : y < i) (sb : (T y).size ≤ 100000) : Calls Tryd.prog 18 #[.slice (some ⟨b, 0, none⟩) len len, .int .i64 i] w fun e w' => e = .returned (.string (((((⟨#[40]⟩ : ByteArray) ++ T x) ++ (⟨#[32, 44, 32]⟩ : ByteArray)) ++ T y) ++ (⟨#[41]⟩ : ByteArray))) ∧ Below w.heap.size w w' := by
  obtain ⟨w0, hw0⟩ : ∃ w0, w0 = w.alloc (.cells #[.int .i64 6, .int .i64 x, .int .i64 y, .int .i64 c_, .int .i64 num_, .string text_] 44) := ⟨_, rfl⟩
  have B0 : Below w.heap.size w w0 := by rw [hw0]; exact (Below.refl _ _).alloc (Nat.le_refl _) _
  have N0 : Own w0 w.heap.size 44 [.int .i64 6, .int .i64 x, .int .i64 y, .int .i64 c_, .int .i64 num_, .string text_] := by rw [hw0]; exact ⟨_, heap_alloc_new _ _, rfl⟩
  go_enter Tryd.func18, Tryd.ntmps18
  go_wp2_with fail
  rw [← hw0]
  clear hw0 f0 f1 f2 f3 f4 f5
  refine (HIH.out x _ ha B0).mono ?_
  rintro e w1 ⟨rfl, hb1⟩
  have B1 : Below w.heap.size w w1 := B0.trans (hb1.mono B0.size)
  have N1 := N0.below hb1 N0.lt
  obtain ⟨a, ha2⟩ : ∃ a, a = T x := ⟨_, rfl⟩
  rw [← ha2] at sa ⊢
  have HA := hide ha2
  clear ha2
  have c0 := N1.cell 0
  have c1 := N1.cell 1
  have c2 := N1.cell 2
  have c3 := N1.cell 3
  have c4 := N1.cell 4
  have c5 := N1.cell 5
  simp only [List.getElem?_cons_zero, List.getElem?_cons_succ] at c0 c1 c2 c3 c4 c5
  go_wp2_with fail
  refine (HIH.out y _ hb B1).mono ?_
  rintro e w2 ⟨rfl, hb2⟩
  have B2 : Below w.heap.size w w2 := B1.trans (hb2.mono B1.size)
  have N2 := N1.below hb2 N1.lt
  obtain ⟨bb, hb2e⟩ : ∃ bb, bb = T y := ⟨_, rfl⟩
  rw [← hb2e] at sb ⊢
  have HBB := hide hb2e
  clear hb2e
  clear c0 c1 c2 c3 c4 c5
  have c0 := N2.cell 0
  have c1 := N2.cell 1
  have c2 := N2.cell 2
  have c3 := N2.cell 3
  have c4 := N2.cell 4
  have c5 := N2.cell 5
  simp only [List.getElem?_cons_zero, List.getElem?_cons_succ] at c0 c1 c2 c3 c4 c5
  have z0 : (((⟨#[40]⟩ : ByteArray) ++ a) : ByteArray).size ≤ 500000 := by simp only [ByteArray.size_append, Tr.sz_mk]; first | omega | (simp; omega)
  have z1 : ((((⟨#[40]⟩ : ByteArray) ++ a) ++ (⟨#[32, 44, 32]⟩ : ByteArray)) : ByteArray).size ≤ 500000 := by simp only [ByteArray.size_append, Tr.sz_mk]; first | omega | (simp; omega)
  have z2 : (((((⟨#[40]⟩ : ByteArray) ++ a) ++ (⟨#[32, 44, 32]⟩ : ByteArray)) ++ bb) : ByteArray).size ≤ 500000 := by simp only [ByteArray.size_append, Tr.sz_mk]; first | omega | (simp; omega)
  go_wp2_with fail
  go_ret
  exact ⟨ret_string (by rw [← unhide HA, ← unhide HBB]), B2⟩

set_option maxRecDepth 100000 in
set_option maxHeartbeats 2000000 in
theorem l5Text_7 (b i len : Nat) (x : Nat) (y : Nat) (c_ num_ : Int) (text_ : ByteArray) (T : Nat → ByteArray) (w : World) (hiI : (i : Int) < (len : Int)) (hlen : len ≤ 200) (f0 : w.cell? ⟨b, i * 6, none⟩ = some (.int .i64 7)) (f1 : w.cell? ⟨b, i * 6 + 1, none⟩ = some (.int .i64 x)) (f2 : w.cell? ⟨b, i * 6 + 2, none⟩ = some (.int .i64 y)) (f3 : w.cell? ⟨b, i * 6 + 3, none⟩ = some (.int .i64 c_)) (f4 : w.cell? ⟨b, i * 6 + 4, none⟩ = some (.int .i64 num_)) (f5 : w.cell? ⟨b, i * 6 + 5, none⟩ = some (.string text_)) (ht : text_.size ≤ 60) (HIH : Hid (∀ (x : Nat) (W : World), x < i → Below w.heap.size w W → Calls Tryd.prog 18 #[.slice (some ⟨b, 0, none⟩) len len, .int .i64 x] W fun e w' => e = .returned (.string (T x)) ∧ Below W.heap.size W w')) (ha : x < i) (sa : (T x).size ≤ 100000) (hb : y < i) (sb : (T y).size ≤ 100000) : Calls Tryd.prog 18 #[.slice (some ⟨b, 0, none⟩) len len, .int .i64 i] w fun e w' => e = .returned (.string (((((⟨#[40]⟩ : ByteArray) ++ T x) ++ (⟨#[32, 47, 47, 32]⟩ : ByteArray)) ++ T y) ++ (⟨#[41]⟩ : ByteArray))) ∧ Below w.heap.size w w' := by
  obtain ⟨w0, hw0⟩ : ∃ w0, w0 = w.alloc (.cells #[.int .i64 7, .int .i64 x, .int .i64 y, .int .i64 c_, .int .i64 num_, .string text_] 44) := ⟨_, rfl⟩
  have B0 : Below w.heap.size w w0 := by rw [hw0]; exact (Below.refl _ _).alloc (Nat.le_refl _) _
  have N0 : Own w0 w.heap.size 44 [.int .i64 7, .int .i64 x, .int .i64 y, .int .i64 c_, .int .i64 num_, .string text_] := by rw [hw0]; exact ⟨_, heap_alloc_new _ _, rfl⟩
  go_enter Tryd.func18, Tryd.ntmps18
  go_wp2_with fail
  rw [← hw0]
  clear hw0 f0 f1 f2 f3 f4 f5
  refine (HIH.out x _ ha B0).mono ?_
  rintro e w1 ⟨rfl, hb1⟩
  have B1 : Below w.heap.size w w1 := B0.trans (hb1.mono B0.size)
  have N1 := N0.below hb1 N0.lt
  obtain ⟨a, ha2⟩ : ∃ a, a = T x := ⟨_, rfl⟩
  rw [← ha2] at sa ⊢
  have HA := hide ha2
  clear ha2
  have c0 := N1.cell 0
  have c1 := N1.cell 1
  have c2 := N1.cell 2
  have c3 := N1.cell 3
  have c4 := N1.cell 4
  have c5 := N1.cell 5
  simp only [List.getElem?_cons_zero, List.getElem?_cons_succ] at c0 c1 c2 c3 c4 c5
  go_wp2_with fail
  refine (HIH.out y _ hb B1).mono ?_
  rintro e w2 ⟨rfl, hb2⟩
  have B2 : Below w.heap.size w w2 := B1.trans (hb2.mono B1.size)
  have N2 := N1.below hb2 N1.lt
  obtain ⟨bb, hb2e⟩ : ∃ bb, bb = T y := ⟨_, rfl⟩
  rw [← hb2e] at sb ⊢
  have HBB := hide hb2e
  clear hb2e
  clear c0 c1 c2 c3 c4 c5
  have c0 := N2.cell 0
  have c1 := N2.cell 1
  have c2 := N2.cell 2
  have c3 := N2.cell 3
  have c4 := N2.cell 4
  have c5 := N2.cell 5
  simp only [List.getElem?_cons_zero, List.getElem?_cons_succ] at c0 c1 c2 c3 c4 c5
  have z0 : (((⟨#[40]⟩ : ByteArray) ++ a) : ByteArray).size ≤ 500000 := by simp only [ByteArray.size_append, Tr.sz_mk]; first | omega | (simp; omega)
  have z1 : ((((⟨#[40]⟩ : ByteArray) ++ a) ++ (⟨#[32, 47, 47, 32]⟩ : ByteArray)) : ByteArray).size ≤ 500000 := by simp only [ByteArray.size_append, Tr.sz_mk]; first | omega | (simp; omega)
  have z2 : (((((⟨#[40]⟩ : ByteArray) ++ a) ++ (⟨#[32, 47, 47, 32]⟩ : ByteArray)) ++ bb) : ByteArray).size ≤ 500000 := by simp only [ByteArray.size_append, Tr.sz_mk]; first | omega | (simp; omega)
  go_wp2_with fail
  go_ret
  exact ⟨ret_string (by rw [← unhide HA, ← unhide HBB]), B2⟩

set_option maxRecDepth 100000 in
set_option maxHeartbeats 2000000 in
theorem l5Text_8 (b i len : Nat) (x : Nat) (y : Nat) (c_ num_ : Int) (text_ : ByteArray) (T : Nat → ByteArray) (w : World) (hiI : (i : Int) < (len : Int)) (hlen : len ≤ 200) (f0 : w.cell? ⟨b, i * 6, none⟩ = some (.int .i64 8)) (f1 : w.cell? ⟨b, i * 6 + 1, none⟩ = some (.int .i64 x)) (f2 : w.cell? ⟨b, i * 6 + 2, none⟩ = some (.int .i64 y)) (f3 : w.cell? ⟨b, i * 6 + 3, none⟩ = some (.int .i64 c_)) (f4 : w.cell? ⟨b, i * 6 + 4, none⟩ = some (.int .i64 num_)) (f5 : w.cell? ⟨b, i * 6 + 5, none⟩ = some (.string text_)) (ht : text_.size ≤ 60) (HIH : Hid (∀ (x : Nat) (W : World), x < i → Below w.heap.size w W → Calls Tryd.prog 18 #[.slice (some ⟨b, 0, none⟩) len len, .int .i64 x] W fun e w' => e = .returned (.string (T x)) ∧ Below W.heap.size W w')) (ha : x < i) (sa : (T x).size ≤ 100000) (hb : y < i) (sb : (T y).size ≤ 100000) : Calls Tryd.prog 18 #[.slice (some ⟨b, 0, none⟩) len len, .int .i64 i] w fun e w' => e = .returned (.string (((((⟨#[40]⟩ : ByteArray) ++ T x) ++ (⟨#[32, 111, 114, 32]⟩ : ByteArray)) ++ T y) ++ (⟨#[41]⟩ : ByteArray))) ∧ Below w.heap.size w w' := by
  obtain ⟨w0, hw0⟩ : ∃ w0, w0 = w.alloc (.cells #[.int .i64 8, .int .i64 x, .int .i64 y, .int .i64 c_, .int .i64 num_, .string text_] 44) := ⟨_, rfl⟩
  have B0 : Below w.heap.size w w0 := by rw [hw0]; exact (Below.refl _ _).alloc (Nat.le_refl _) _
  have N0 : Own w0 w.heap.size 44 [.int .i64 8, .int .i64 x, .int .i64 y, .int .i64 c_, .int .i64 num_, .string text_] := by rw [hw0]; exact ⟨_, heap_alloc_new _ _, rfl⟩
  go_enter Tryd.func18, Tryd.ntmps18
  go_wp2_with fail
  rw [← hw0]
  clear hw0 f0 f1 f2 f3 f4 f5
  refine (HIH.out x _ ha B0).mono ?_
  rintro e w1 ⟨rfl, hb1⟩
  have B1 : Below w.heap.size w w1 := B0.trans (hb1.mono B0.size)
  have N1 := N0.below hb1 N0.lt
  obtain ⟨a, ha2⟩ : ∃ a, a = T x := ⟨_, rfl⟩
  rw [← ha2] at sa ⊢
  have HA := hide ha2
  clear ha2
  have c0 := N1.cell 0
  have c1 := N1.cell 1
  have c2 := N1.cell 2
  have c3 := N1.cell 3
  have c4 := N1.cell 4
  have c5 := N1.cell 5
  simp only [List.getElem?_cons_zero, List.getElem?_cons_succ] at c0 c1 c2 c3 c4 c5
  go_wp2_with fail
  refine (HIH.out y _ hb B1).mono ?_
  rintro e w2 ⟨rfl, hb2⟩
  have B2 : Below w.heap.size w w2 := B1.trans (hb2.mono B1.size)
  have N2 := N1.below hb2 N1.lt
  obtain ⟨bb, hb2e⟩ : ∃ bb, bb = T y := ⟨_, rfl⟩
  rw [← hb2e] at sb ⊢
  have HBB := hide hb2e
  clear hb2e
  clear c0 c1 c2 c3 c4 c5
  have c0 := N2.cell 0
  have c1 := N2.cell 1
  have c2 := N2.cell 2
  have c3 := N2.cell 3
  have c4 := N2.cell 4
  have c5 := N2.cell 5
  simp only [List.getElem?_cons_zero, List.getElem?_cons_succ] at c0 c1 c2 c3 c4 c5
  have z0 : (((⟨#[40]⟩ : ByteArray) ++ a) : ByteArray).size ≤ 500000 := by simp only [ByteArray.size_append, Tr.sz_mk]; first | omega | (simp; omega)
  have z1 : ((((⟨#[40]⟩ : ByteArray) ++ a) ++ (⟨#[32, 111, 114, 32]⟩ : ByteArray)) : ByteArray).size ≤ 500000 := by simp only [ByteArray.size_append, Tr.sz_mk]; first | omega | (simp; omega)
  have z2 : (((((⟨#[40]⟩ : ByteArray) ++ a) ++ (⟨#[32, 111, 114, 32]⟩ : ByteArray)) ++ bb) : ByteArray).size ≤ 500000 := by simp only [ByteArray.size_append, Tr.sz_mk]; first | omega | (simp; omega)
  go_wp2_with fail
  go_ret
  exact ⟨ret_string (by rw [← unhide HA, ← unhide HBB]), B2⟩

set_option maxRecDepth 100000 in
set_option maxHeartbeats 2000000 in
theorem l5Text_9 (b i len : Nat) (x : Nat) (y : Nat) (c_ num_ : Int) (text_ : ByteArray) (T : Nat → ByteArray) (w : World) (hiI : (i : Int) < (len : Int)) (hlen : len ≤ 200) (f0 : w.cell? ⟨b, i * 6, none⟩ = some (.int .i64 9)) (f1 : w.cell? ⟨b, i * 6 + 1, none⟩ = some (.int .i64 x)) (f2 : w.cell? ⟨b, i * 6 + 2, none⟩ = some (.int .i64 y)) (f3 : w.cell? ⟨b, i * 6 + 3, none⟩ = some (.int .i64 c_)) (f4 : w.cell? ⟨b, i * 6 + 4, none⟩ = some (.int .i64 num_)) (f5 : w.cell? ⟨b, i * 6 + 5, none⟩ = some (.string text_)) (ht : text_.size ≤ 60) (HIH : Hid (∀ (x : Nat) (W : World), x < i → Below w.heap.size w W → Calls Tryd.prog 18 #[.slice (some ⟨b, 0, none⟩) len len, .int .i64 x] W fun e w' => e = .returned (.string (T x)) ∧ Below W.heap.size W w')) (ha : x < i) (sa : (T x).size ≤ 100000) (hb : y < i) (sb : (T y).size ≤ 100000) : Calls Tryd.prog 18 #[.slice (some ⟨b, 0, none⟩) len len, .int .i64 i] w fun e w' => e = .returned (.string (((((⟨#[40]⟩ : ByteArray) ++ T x) ++ (⟨#[32, 97, 110, 100, 32]⟩ : ByteArray)) ++ T y) ++ (⟨#[41]⟩ : ByteArray))) ∧ Below w.heap.size w w' := by
  obtain ⟨w0, hw0⟩ : ∃ w0, w0 = w.alloc (.cells #[.int .i64 9, .int .i64 x, .int .i64 y, .int .i64 c_, .int .i64 num_, .string text_] 44) := ⟨_, rfl⟩
  have B0 : Below w.heap.size w w0 := by rw [hw0]; exact (Below.refl _ _).alloc (Nat.le_refl _) _
  have N0 : Own w0 w.heap.size 44 [.int .i64 9, .int .i64 x, .int .i64 y, .int .i64 c_, .int .i64 num_, .string text_] := by rw [hw0]; exact ⟨_, heap_alloc_new _ _, rfl⟩
  go_enter Tryd.func18, Tryd.ntmps18
  go_wp2_with fail
  rw [← hw0]
  clear hw0 f0 f1 f2 f3 f4 f5
  refine (HIH.out x _ ha B0).mono ?_
  rintro e w1 ⟨rfl, hb1⟩
  have B1 : Below w.heap.size w w1 := B0.trans (hb1.mono B0.size)
  have N1 := N0.below hb1 N0.lt
  obtain ⟨a, ha2⟩ : ∃ a, a = T x := ⟨_, rfl⟩
  rw [← ha2] at sa ⊢
  have HA := hide ha2
  clear ha2
  have c0 := N1.cell 0
  have c1 := N1.cell 1
  have c2 := N1.cell 2
  have c3 := N1.cell 3
  have c4 := N1.cell 4
  have c5 := N1.cell 5
  simp only [List.getElem?_cons_zero, List.getElem?_cons_succ] at c0 c1 c2 c3 c4 c5
  go_wp2_with fail
  refine (HIH.out y _ hb B1).mono ?_
  rintro e w2 ⟨rfl, hb2⟩
  have B2 : Below w.heap.size w w2 := B1.trans (hb2.mono B1.size)
  have N2 := N1.below hb2 N1.lt
  obtain ⟨bb, hb2e⟩ : ∃ bb, bb = T y := ⟨_, rfl⟩
  rw [← hb2e] at sb ⊢
  have HBB := hide hb2e
  clear hb2e
  clear c0 c1 c2 c3 c4 c5
  have c0 := N2.cell 0
  have c1 := N2.cell 1
  have c2 := N2.cell 2
  have c3 := N2.cell 3
  have c4 := N2.cell 4
  have c5 := N2.cell 5
  simp only [List.getElem?_cons_zero, List.getElem?_cons_succ] at c0 c1 c2 c3 c4 c5
  have z0 : (((⟨#[40]⟩ : ByteArray) ++ a) : ByteArray).size ≤ 500000 := by simp only [ByteArray.size_append, Tr.sz_mk]; first | omega | (simp; omega)
  have z1 : ((((⟨#[40]⟩ : ByteArray) ++ a) ++ (⟨#[32, 97, 110, 100, 32]⟩ : ByteArray)) : ByteArray).size ≤ 500000 := by simp only [ByteArray.size_append, Tr.sz_mk]; first | omega | (simp; omega)
  have z2 : (((((⟨#[40]⟩ : ByteArray) ++ a) ++ (⟨#[32, 97, 110, 100, 32]⟩ : ByteArray)) ++ bb) : ByteArray).size ≤ 500000 := by simp only [ByteArray.size_append, Tr.sz_mk]; first | omega | (simp; omega)
  go_wp2_with fail
  go_ret
  exact ⟨ret_string (by rw [← unhide HA, ← unhide HBB]), B2⟩

set_option maxRecDepth 100000 in
set_option maxHeartbeats 2000000 in
theorem l5Text_11 (b i len : Nat) (x : Nat) (y : Nat) (c_ num_ : Int) (text_ : ByteArray) (T : Nat → ByteArray) (w : World) (hiI : (i : Int) < (len : Int)) (hlen : len ≤ 200) (f0 : w.cell? ⟨b, i * 6, none⟩ = some (.int .i64 11)) (f1 : w.cell? ⟨b, i * 6 + 1, none⟩ = some (.int .i64 x)) (f2 : w.cell? ⟨b, i * 6 + 2, none⟩ = some (.int .i64 y)) (f3 : w.cell? ⟨b, i * 6 + 3, none⟩ = some (.int .i64 c_)) (f4 : w.cell? ⟨b, i * 6 + 4, none⟩ = some (.int .i64 num_)) (f5 : w.cell? ⟨b, i * 6 + 5, none⟩ = some (.string text_)) (ht : text_.size ≤ 60) (HIH : Hid (∀ (x : Nat) (W : World), x < i → Below w.heap.size w W → Calls Tryd.prog 18 #[.slice (some ⟨b, 0, none⟩) len len, .int .i64 x] W fun e w' => e = .returned (.string (T x)) ∧ Below W.heap.size W w')) (ha : x < i) (sa : (T x).size ≤ 100000) (hb : y < i) (sb : (T y).size ≤ 100000) : Calls Tryd.prog 18 #[.slice (some ⟨b, 0, none⟩) len len, .int .i64 i] w fun e w' => e = .returned (.string (((T x ++ (⟨#[91]⟩ : ByteArray)) ++ T y) ++ (⟨#[93]⟩ : ByteArray))) ∧ Below w.heap.size w w' := by
  obtain ⟨w0, hw0⟩ : ∃ w0, w0 = w.alloc (.cells #[.int .i64 11, .int .i64 x, .int .i64 y, .int .i64 c_, .int .i64 num_, .string text_] 44) := ⟨_, rfl⟩
  have B0 : Below w.heap.size w w0 := by rw [hw0]; exact (Below.refl _ _).alloc (Nat.le_refl _) _
  have N0 : Own w0 w.heap.size 44 [.int .i64 11, .int .i64 x, .int .i64 y, .int .i64 c_, .int .i64 num_, .string text_] := by rw [hw0]; exact ⟨_, heap_alloc_new _ _, rfl⟩
  go_enter Tryd.func18, Tryd.ntmps18
  go_wp2_with fail
  rw [← hw0]
  clear hw0 f0 f1 f2 f3 f4 f5
  refine (HIH.out x _ ha B0).mono ?_
  rintro e w1 ⟨rfl, hb1⟩
  have B1 : Below w.heap.size w w1 := B0.trans (hb1.mono B0.size)
  have N1 := N0.below hb1 N0.lt
  obtain ⟨a, ha2⟩ : ∃ a, a = T x := ⟨_, rfl⟩
  rw [← ha2] at sa ⊢
  have HA := hide ha2
  clear ha2
  have c0 := N1.cell 0
  have c1 := N1.cell 1
  have c2 := N1.cell 2
  have c3 := N1.cell 3
  have c4 := N1.cell 4
  have c5 := N1.cell 5
  simp only [List.getElem?_cons_zero, List.getElem?_cons_succ] at c0 c1 c2 c3 c4 c5
  go_wp2_with fail
  refine (HIH.out y _ hb B1).mono ?_
  rintro e w2 ⟨rfl, hb2⟩
  have B2 : Below w.heap.size w w2 := B1.trans (hb2.mono B1.size)
  have N2 := N1.below hb2 N1.lt
  obtain ⟨bb, hb2e⟩ : ∃ bb, bb = T y := ⟨_, rfl⟩
  rw [← hb2e] at sb ⊢
  have HBB := hide hb2e
  clear hb2e
  clear c0 c1 c2 c3 c4 c5
  have c0 := N2.cell 0
  have c1 := N2.cell 1
  have c2 := N2.cell 2
  have c3 := N2.cell 3
  have c4 := N2.cell 4
  have c5 := N2.cell 5
  simp only [List.getElem?_cons_zero, List.getElem?_cons_succ] at c0 c1 c2 c3 c4 c5
  have z0 : ((a ++ (⟨#[91]⟩ : ByteArray)) : ByteArray).size ≤ 500000 := by simp only [ByteArray.size_append, Tr.sz_mk]; first | omega | (simp; omega)
  have z1 : (((a ++ (⟨#[91]⟩ : ByteArray)) ++ bb) : ByteArray).size ≤ 500000 := by simp only [ByteArray.size_append, Tr.sz_mk]; first | omega | (simp; omega)
  go_wp2_with fail
  go_ret
  exact ⟨ret_string (by rw [← unhide HA, ← unhide HBB]), B2⟩

set_option maxRecDepth 100000 in
set_option maxHeartbeats 2000000 in
theorem l5Text_20 (b i len : Nat) (x : Nat) (y : Nat) (c_ num_ : Int) (text_ : ByteArray) (T : Nat → ByteArray) (w : World) (hiI : (i : Int) < (len : Int)) (hlen : len ≤ 200) (f0 : w.cell? ⟨b, i * 6, none⟩ = some (.int .i64 20)) (f1 : w.cell? ⟨b, i * 6 + 1, none⟩ = some (.int .i64 x)) (f2 : w.cell? ⟨b, i * 6 + 2, none⟩ = some (.int .i64 y)) (f3 : w.cell? ⟨b, i * 6 + 3, none⟩ = some (.int .i64 c_)) (f4 : w.cell? ⟨b, i * 6 + 4, none⟩ = some (.int .i64 num_)) (f5 : w.cell? ⟨b, i * 6 + 5, none⟩ = some (.string text_)) (ht : text_.size ≤ 60) (HIH : Hid (∀ (x : Nat) (W : World), x < i → Below w.heap.size w W → Calls Tryd.prog 18 #[.slice (some ⟨b, 0, none⟩) len len, .int .i64 x] W fun e w' => e = .returned (.string (T x)) ∧ Below W.heap.size W w')) (ha : x < i) (sa : (T x).size ≤ 100000) (hb : y < i) (sb : (T y).size ≤ 100000) : Calls Tryd.prog 18 #[.slice (some ⟨b, 0, none⟩) len len, .int .i64 i] w fun e w' => e = .returned (.string (((((((⟨#[40]⟩ : ByteArray) ++ T x) ++ (⟨#[32, 97, 115, 32, 36]⟩ : ByteArray)) ++ text_) ++ (⟨#[32, 124, 32]⟩ : ByteArray)) ++ T y) ++ (⟨#[41]⟩ : ByteArray))) ∧ Below w.heap.size w w' := by
  obtain ⟨w0, hw0⟩ : ∃ w0, w0 = w.alloc (.cells #[.int .i64 20, .int .i64 x, .int .i64 y, .int .i64 c_, .int .i64 num_, .string text_] 44) := ⟨_, rfl⟩
  have B0 : Below w.heap.size w w0 := by rw [hw0]; exact (Below.refl _ _).alloc (Nat.le_refl _) _
  have N0 : Own w0 w.heap.size 44 [.int .i64 20, .int .i64 x, .int .i64 y, .int .i64 c_, .int .i64 num_, .string text_] := by rw [hw0]; exact ⟨_, heap_alloc_new _ _, rfl⟩
  go_enter Tryd.func18, Tryd.ntmps18
  go_wp2_with fail
  rw [← hw0]
  clear hw0 f0 f1 f2 f3 f4 f5
  refine (HIH.out x _ ha B0).mono ?_
  rintro e w1 ⟨rfl, hb1⟩
  have B1 : Below w.heap.size w w1 := B0.trans (hb1.mono B0.size)
  have N1 := N0.below hb1 N0.lt
  obtain ⟨a, ha2⟩ : ∃ a, a = T x := ⟨_, rfl⟩
  rw [← ha2] at sa ⊢
  have HA := hide ha2
  clear ha2
  have c0 := N1.cell 0
  have c1 := N1.cell 1
  have c2 := N1.cell 2
  have c3 := N1.cell 3
  have c4 := N1.cell 4
  have c5 := N1.cell 5
  simp only [List.getElem?_cons_zero, List.getElem?_cons_succ] at c0 c1 c2 c3 c4 c5
  go_wp2_with fail
  refine (HIH.out y _ hb B1).mono ?_
  rintro e w2 ⟨rfl, hb2⟩
  have B2 : Below w.heap.size w w2 := B1.trans (hb2.mono B1.size)
  have N2 := N1.below hb2 N1.lt
  obtain ⟨bb, hb2e⟩ : ∃ bb, bb = T y := ⟨_, rfl⟩
  rw [← hb2e] at sb ⊢
  have HBB := hide hb2e
  clear hb2e
  clear c0 c1 c2 c3 c4 c5
  have c0 := N2.cell 0
  have c1 := N2.cell 1
  have c2 := N2.cell 2
  have c3 := N2.cell 3
  have c4 := N2.cell 4
  have c5 := N2.cell 5
  simp only [List.getElem?_cons_zero, List.getElem?_cons_succ] at c0 c1 c2 c3 c4 c5
  have z0 : (((⟨#[40]⟩ : ByteArray) ++ a) : ByteArray).size ≤ 500000 := by simp only [ByteArray.size_append, Tr.sz_mk]; first | omega | (simp; omega)
  have z1 : ((((⟨#[40]⟩ : ByteArray) ++ a) ++ (⟨#[32, 97, 115, 32, 36]⟩ : ByteArray)) : ByteArray).size ≤ 500000 := by simp only [ByteArray.size_append, Tr.sz_mk]; first | omega | (simp; omega)
  have z2 : (((((⟨#[40]⟩ : ByteArray) ++ a) ++ (⟨#[32, 97, 115, 32, 36]⟩ : ByteArray)) ++ text_) : ByteArray).size ≤ 500000 := by simp only [ByteArray.size_append, Tr.sz_mk]; first | omega | (simp; omega)
  have z3 : ((((((⟨#[40]⟩ : ByteArray) ++ a) ++ (⟨#[32, 97, 115, 32, 36]⟩ : ByteArray)) ++ text_) ++ (⟨#[32, 124, 32]⟩ : ByteArray)) : ByteArray).size ≤ 500000 := by simp only [ByteArray.size_append, Tr.sz_mk]; first | omega | (simp; omega)
  have z4 : (((((((⟨#[40]⟩ : ByteArray) ++ a) ++ (⟨#[32, 97, 115, 32, 36]⟩ : ByteArray)) ++ text_) ++ (⟨#[32, 124, 32]⟩ : ByteArray)) ++ bb) : ByteArray).size ≤ 500000 := by simp only [ByteArray.size_append, Tr.sz_mk]; first | omega | (simp; omega)
  go_wp2_with fail
  go_ret
  exact ⟨ret_string (by rw [← unhide HA, ← unhide HBB]), B2⟩

set_option maxRecDepth 100000 in
set_option maxHeartbeats 2000000 in
theorem l5Text_18 (b i len : Nat) (x : Nat) (y : Nat) (z : Nat) (num_ : Int) (text_ : ByteArray) (T : Nat → ByteArray) (w : World) (hiI : (i : Int) < (len : Int)) (hlen : len ≤ 200) (f0 : w.cell? ⟨b, i * 6, none⟩ = some (.int .i64 18)) (f1 : w.cell? ⟨b, i * 6 + 1, none⟩ = some (.int .i64 x)) (f2 : w.cell? ⟨b, i * 6 + 2, none⟩ = some (.int .i64 y)) (f3 : w.cell? ⟨b, i * 6 + 3, none⟩ = some (.int .i64 z)) (f4 : w.cell? ⟨b, i * 6 + 4, none⟩ = some (.int .i64 num_)) (f5 : w.cell? ⟨b, i * 6 + 5, none⟩ = some (.string text_)) (ht : text_.size ≤ 60) (HIH : Hid (∀ (x : Nat) (W : World), x < i → Below w.heap.size w W → Calls Tryd.prog 18 #[.slice (some ⟨b, 0, none⟩) len len, .int .i64 x] W fun e w' => e = .returned (.string (T x)) ∧ Below W.heap.size W w')) (ha : x < i) (sa : (T x).size ≤ 100000) (hb : y < i) (sb : (T y).size ≤ 100000) (hc : z < i) (sc : (T z).size ≤ 100000) : Calls Tryd.prog 18 #[.slice (some ⟨b, 0, none⟩) len len, .int .i64 i] w fun e w' => e = .returned (.string (((((((⟨#[40, 105, 102, 32]⟩ : ByteArray) ++ T x) ++ (⟨#[32, 116, 104, 101, 110, 32]⟩ : ByteArray)) ++ T y) ++ (⟨#[32, 101, 108, 115, 101, 32]⟩ : ByteArray)) ++ T z) ++ (⟨#[32, 101, 110, 100, 41]⟩ : ByteArray))) ∧ Below w.heap.size w w' := by
  obtain ⟨w0, hw0⟩ : ∃ w0, w0 = w.alloc (.cells #[.int .i64 18, .int .i64 x, .int .i64 y, .int .i64 z, .int .i64 num_, .string text_] 44) := ⟨_, rfl⟩
  have B0 : Below w.heap.size w w0 := by rw [hw0]; exact (Below.refl _ _).alloc (Nat.le_refl _) _
  have N0 : Own w0 w.heap.size 44 [.int .i64 18, .int .i64 x, .int .i64 y, .int .i64 z, .int .i64 num_, .string text_] := by rw [hw0]; exact ⟨_, heap_alloc_new _ _, rfl⟩
  go_enter Tryd.func18, Tryd.ntmps18
  go_wp2_with fail
  rw [← hw0]
  clear hw0 f0 f1 f2 f3 f4 f5
  refine (HIH.out x _ ha B0).mono ?_
  rintro e w1 ⟨rfl, hb1⟩
  have B1 : Below w.heap.size w w1 := B0.trans (hb1.mono B0.size)
  have N1 := N0.below hb1 N0.lt
  obtain ⟨a, ha2⟩ : ∃ a, a = T x := ⟨_, rfl⟩
  rw [← ha2] at sa ⊢
  have HA := hide ha2
  clear ha2
  have c0 := N1.cell 0
  have c1 := N1.cell 1
  have c2 := N1.cell 2
  have c3 := N1.cell 3
  have c4 := N1.cell 4
  have c5 := N1.cell 5
  simp only [List.getElem?_cons_zero, List.getElem?_cons_succ] at c0 c1 c2 c3 c4 c5
  go_wp2_with fail
  refine (HIH.out y _ hb B1).mono ?_
  rintro e w2 ⟨rfl, hb2⟩
  have B2 : Below w.heap.size w w2 := B1.trans (hb2.mono B1.size)
  have N2 := N1.below hb2 N1.lt
  obtain ⟨bb, hb2e⟩ : ∃ bb, bb = T y := ⟨_, rfl⟩
  rw [← hb2e] at sb ⊢
  have HBB := hide hb2e
  clear hb2e
  clear c0 c1 c2 c3 c4 c5
  have c0 := N2.cell 0
  have c1 := N2.cell 1
  have c2 := N2.cell 2
  have c3 := N2.cell 3
  have c4 := N2.cell 4
  have c5 := N2.cell 5
  simp only [List.getElem?_cons_zero, List.getElem?_cons_succ] at c0 c1 c2 c3 c4 c5
  go_wp2_with fail
  refine (HIH.out z _ hc B2).mono ?_
  rintro e w3 ⟨rfl, hb3⟩
  have B3 : Below w.heap.size w w3 := B2.trans (hb3.mono B2.size)
  have N3 := N2.below hb3 N2.lt
  obtain ⟨c, hc2⟩ : ∃ c, c = T z := ⟨_, rfl⟩
  rw [← hc2] at sc ⊢
  have HCC := hide hc2
  clear hc2
  clear c0 c1 c2 c3 c4 c5
  have c0 := N3.cell 0
  have c1 := N3.cell 1
  have c2 := N3.cell 2
  have c3 := N3.cell 3
  have c4 := N3.cell 4
  have c5 := N3.cell 5
  simp only [List.getElem?_cons_zero, List.getElem?_cons_succ] at c0 c1 c2 c3 c4 c5
  have z0 : (((⟨#[40, 105, 102, 32]⟩ : ByteArray) ++ a) : ByteArray).size ≤ 500000 := by simp only [ByteArray.size_append, Tr.sz_mk]; first | omega | (simp; omega)
  have z1 : ((((⟨#[40, 105, 102, 32]⟩ : ByteArray) ++ a) ++ (⟨#[32, 116, 104, 101, 110, 32]⟩ : ByteArray)) : ByteArray).size ≤ 500000 := by simp only [ByteArray.size_append, Tr.sz_mk]; first | omega | (simp; omega)
  have z2 : (((((⟨#[40, 105, 102, 32]⟩ : ByteArray) ++ a) ++ (⟨#[32, 116, 104, 101, 110, 32]⟩ : ByteArray)) ++ bb) : ByteArray).size ≤ 500000 := by simp only [ByteArray.size_append, Tr.sz_mk]; first | omega | (simp; omega)
  have z3 : ((((((⟨#[40, 105, 102, 32]⟩ : ByteArray) ++ a) ++ (⟨#[32, 116, 104, 101, 110, 32]⟩ : ByteArray)) ++ bb) ++ (⟨#[32, 101, 108, 115, 101, 32]⟩ : ByteArray)) : ByteArray).size ≤ 500000 := by simp only [ByteArray.size_append, Tr.sz_mk]; first | omega | (simp; omega)
  have z4 : (((((((⟨#[40, 105, 102, 32]⟩ : ByteArray) ++ a) ++ (⟨#[32, 116, 104, 101, 110, 32]⟩ : ByteArray)) ++ bb) ++ (⟨#[32, 101, 108, 115, 101, 32]⟩ : ByteArray)) ++ c) : ByteArray).size ≤ 500000 := by simp only [ByteArray.size_append, Tr.sz_mk]; first | omega | (simp; omega)
  go_wp2_with fail
  go_ret
  exact ⟨ret_string (by rw [← unhide HA, ← unhide HBB, ← unhide HCC]), B3⟩

set_option maxRecDepth 100000 in
set_option maxHeartbeats 2000000 in
theorem l5Text_19 (b i len : Nat) (x : Nat) (y : Nat) (z : Nat) (num_ : Int) (text_ : ByteArray) (T : Nat → ByteArray) (w : World) (hiI : (i : Int) < (len : Int)) (hlen : len ≤ 200) (f0 : w.cell? ⟨b, i * 6, none⟩ = some (.int .i64 19)) (f1 : w.cell? ⟨b, i * 6 + 1, none⟩ = some (.int .i64 x)) (f2 : w.cell? ⟨b, i * 6 + 2, none⟩ = some (.int .i64 y)) (f3 : w.cell? ⟨b, i * 6 + 3, none⟩ = some (.int .i64 z)) (f4 : w.cell? ⟨b, i * 6 + 4, none⟩ = some (.int .i64 num_)) (f5 : w.cell? ⟨b, i * 6 + 5, none⟩ = some (.string text_)) (ht : text_.size ≤ 60) (HIH : Hid (∀ (x : Nat) (W : World), x < i → Below w.heap.size w W → Calls Tryd.prog 18 #[.slice (some ⟨b, 0, none⟩) len len, .int .i64 x] W fun e w' => e = .returned (.string (T x)) ∧ Below W.heap.size W w')) (ha : x < i) (sa : (T x).size ≤ 100000) (hb : y < i) (sb : (T y).size ≤ 100000) (hc : z < i) (sc : (T z).size ≤ 100000) : Calls Tryd.prog 18 #[.slice (some ⟨b, 0, none⟩) len len, .int .i64 i] w fun e w' => e = .returned (.string (((((((((⟨#[40, 114, 101, 100, 117, 99, 101, 32]⟩ : ByteArray) ++ T x) ++ (⟨#[32, 97, 115, 32, 36]⟩ : ByteArray)) ++ text_) ++ (⟨#[32, 40]⟩ : ByteArray)) ++ T y) ++ (⟨#[32, 59, 32]⟩ : ByteArray)) ++ T z) ++ (⟨#[41, 41]⟩ : ByteArray))) ∧ Below w.heap.size w w' := by
  obtain ⟨w0, hw0⟩ : ∃ w0, w0 = w.alloc (.cells #[.int .i64 19, .int .i64 x, .int .i64 y, .int .i64 z, .int .i64 num_, .string text_] 44) := ⟨_, rfl⟩
  have B0 : Below w.heap.size w w0 := by rw [hw0]; exact (Below.refl _ _).alloc (Nat.le_refl _) _
  have N0 : Own w0 w.heap.size 44 [.int .i64 19, .int .i64 x, .int .i64 y, .int .i64 z, .int .i64 num_, .string text_] := by rw [hw0]; exact ⟨_, heap_alloc_new _ _, rfl⟩
  go_enter Tryd.func18, Tryd.ntmps18
  go_wp2_with fail
  rw [← hw0]
  clear hw0 f0 f1 f2 f3 f4 f5
  refine (HIH.out x _ ha B0).mono ?_
  rintro e w1 ⟨rfl, hb1⟩
  have B1 : Below w.heap.size w w1 := B0.trans (hb1.mono B0.size)
  have N1 := N0.below hb1 N0.lt
  obtain ⟨a, ha2⟩ : ∃ a, a = T x := ⟨_, rfl⟩
  rw [← ha2] at sa ⊢
  have HA := hide ha2
  clear ha2
  have c0 := N1.cell 0
  have c1 := N1.cell 1
  have c2 := N1.cell 2
  have c3 := N1.cell 3
  have c4 := N1.cell 4
  have c5 := N1.cell 5
  simp only [List.getElem?_cons_zero, List.getElem?_cons_succ] at c0 c1 c2 c3 c4 c5
  go_wp2_with fail
  refine (HIH.out y _ hb B1).mono ?_
  rintro e w2 ⟨rfl, hb2⟩
  have B2 : Below w.heap.size w w2 := B1.trans (hb2.mono B1.size)
  have N2 := N1.below hb2 N1.lt
  obtain ⟨bb, hb2e⟩ : ∃ bb, bb = T y := ⟨_, rfl⟩
  rw [← hb2e] at sb ⊢
  have HBB := hide hb2e
  clear hb2e
  clear c0 c1 c2 c3 c4 c5
  have c0 := N2.cell 0
  have c1 := N2.cell 1
  have c2 := N2.cell 2
  have c3 := N2.cell 3
  have c4 := N2.cell 4
  have c5 := N2.cell 5
  simp only [List.getElem?_cons_zero, List.getElem?_cons_succ] at c0 c1 c2 c3 c4 c5
  go_wp2_with fail
  refine (HIH.out z _ hc B2).mono ?_
  rintro e w3 ⟨rfl, hb3⟩
  have B3 : Below w.heap.size w w3 := B2.trans (hb3.mono B2.size)
  have N3 := N2.below hb3 N2.lt
  obtain ⟨c, hc2⟩ : ∃ c, c = T z := ⟨_, rfl⟩
  rw [← hc2] at sc ⊢
  have HCC := hide hc2
  clear hc2
  clear c0 c1 c2 c3 c4 c5
  have c0 := N3.cell 0
  have c1 := N3.cell 1
  have c2 := N3.cell 2
  have c3 := N3.cell 3
  have c4 := N3.cell 4
  have c5 := N3.cell 5
  simp only [List.getElem?_cons_zero, List.getElem?_cons_succ] at c0 c1 c2 c3 c4 c5
  have z0 : (((⟨#[40, 114, 101, 100, 117, 99, 101, 32]⟩ : ByteArray) ++ a) : ByteArray).size ≤ 500000 := by simp only [ByteArray.size_append, Tr.sz_mk]; first | omega | (simp; omega)
  have z1 : ((((⟨#[40, 114, 101, 100, 117, 99, 101, 32]⟩ : ByteArray) ++ a) ++ (⟨#[32, 97, 115, 32, 36]⟩ : ByteArray)) : ByteArray).size ≤ 500000 := by simp only [ByteArray.size_append, Tr.sz_mk]; first | omega | (simp; omega)
  have z2 : (((((⟨#[40, 114, 101, 100, 117, 99, 101, 32]⟩ : ByteArray) ++ a) ++ (⟨#[32, 97, 115, 32, 36]⟩ : ByteArray)) ++ text_) : ByteArray).size ≤ 500000 := by simp only [ByteArray.size_append, Tr.sz_mk]; first | omega | (simp; omega)
  have z3 : ((((((⟨#[40, 114, 101, 100, 117, 99, 101, 32]⟩ : ByteArray) ++ a) ++ (⟨#[32, 97, 115, 32, 36]⟩ : ByteArray)) ++ text_) ++ (⟨#[32, 40]⟩ : ByteArray)) : ByteArray).size ≤ 500000 := by simp only [ByteArray.size_append, Tr.sz_mk]; first | omega | (simp; omega)
  have z4 : (((((((⟨#[40, 114, 101, 100, 117, 99, 101, 32]⟩ : ByteArray) ++ a) ++ (⟨#[32, 97, 115, 32, 36]⟩ : ByteArray)) ++ text_) ++ (⟨#[32, 40]⟩ : ByteArray)) ++ bb) : ByteArray).size ≤ 500000 := by simp only [ByteArray.size_append, Tr.sz_mk]; first | omega | (simp; omega)
  have z5 : ((((((((⟨#[40, 114, 101, 100, 117, 99, 101, 32]⟩ : ByteArray) ++ a) ++ (⟨#[32, 97, 115, 32, 36]⟩ : ByteArray)) ++ text_) ++ (⟨#[32, 40]⟩ : ByteArray)) ++ bb) ++ (⟨#[32, 59, 32]⟩ : ByteArray)) : ByteArray).size ≤ 500000 := by simp only [ByteArray.size_append, Tr.sz_mk]; first | omega | (simp; omega)
  have z6 : (((((((((⟨#[40, 114, 101, 100, 117, 99, 101, 32]⟩ : ByteArray) ++ a) ++ (⟨#[32, 97, 115, 32, 36]⟩ : ByteArray)) ++ text_) ++ (⟨#[32, 40]⟩ : ByteArray)) ++ bb) ++ (⟨#[32, 59, 32]⟩ : ByteArray)) ++ c) : ByteArray).size ≤ 500000 := by simp only [ByteArray.size_append, Tr.sz_mk]; first | omega | (simp; omega)
  go_wp2_with fail
  go_ret
  exact ⟨ret_string (by rw [← unhide HA, ← unhide HBB, ← unhide HCC]), B3⟩

end Go.Proofs.YtcolohilnmikiaaDoor
