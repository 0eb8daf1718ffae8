/-
  Numbers, words and keys that are drawn.
-/
import Derived.Test.YtfcglmkbfdfaeaaS29
namespace Go.Proofs.Ytfcglmkbfdfaeaa
open Go.RowKit
set_option linter.unusedVariables false
set_option linter.unusedSimpArgs false

theorem Src.lt {w : World} {bs len cap at_ : Nat} {a : Option Addr} (h : Src w bs a len cap at_) : bs < w.heap.size := h.own.lt
theorem Src.alloc {w : World} {bs len cap at_ : Nat} {a : Option Addr} (h : Src w bs a len cap at_) (o : Obj) : Src (w.alloc o) bs a len cap at_ := h.below ((Below.refl _ _).alloc (Nat.le_refl _) o)
theorem Tch.of_below' {B b : Nat} {w w' : World} (h : Below B w w') : Tch B b w w' := ⟨h.os, h.tape, h.output, h.size, fun k hk _ => h.block k hk⟩
theorem Tch.own {B b : Nat} {w w' : World} (h : Tch B b w w') {c : Nat} {t : TypeId} {xs : List Value} (ho : Own w c t xs) (hc : c < B) (hn : c ≠ b) : Own w' c t xs := by
  obtain ⟨r, h1, h2⟩ := ho
  exact ⟨r, (h.block c hc hn).trans h1, h2⟩

set_option maxHeartbeats 1000000 in
theorem l1Pick_any (xs : List Int) (g bs len cap at_ : Nat) (a : Option Addr) (w : World) (h : Src w bs a len cap at_) (hx : Own w g 2 (xs.map (Value.int .i64))) (hg : g ≠ bs) (h1 : 1 ≤ xs.length) (h2 : xs.length ≤ 1000) (hat : at_ ≤ 1000000000) :
    Calls Try.prog 37 #[.pointer (some ⟨bs, 0, none⟩), .slice (some ⟨g, 0, none⟩) xs.length xs.length] w fun e w' => (∃ x ∈ xs, e = .returned (.int .i64 x)) ∧ Src w' bs a len cap (at_ + 1) ∧ Tch w.heap.size bs w w' := by
  have HX := hide hx
  clear hx
  go_enter Try.func37, Try.ntmps37
  go_wp2_with fail
  refine (l1Next_any (xs.length : Int) bs len cap at_ a _ h (by omega) hat).mono ?_
  rintro e w1 ⟨r, rfl, hr, S1, T1⟩
  have hr' : r < xs.length := by have := hr (by omega); omega
  have hrz : (r : Int) < (xs.length : Int) := by omega
  have OX := T1.own (unhide HX) (unhide HX).lt hg
  have hc := OX.cell r
  rw [List.getElem?_map, List.getElem?_eq_getElem hr'] at hc
  simp only [Option.map_some] at hc
  have hm := hide (List.getElem_mem hr')
  generalize xs[r] = x at *
  clear OX hr
  go_wp2_with fail
  go_ret
  exact ⟨⟨x, unhide hm, rfl⟩, S1, T1⟩

set_option maxRecDepth 100000 in
set_option maxHeartbeats 2000000 in
theorem l1Word_any (bs len cap at_ : Nat) (a : Option Addr) (w : World) (h : Src w bs a len cap at_) (hat : at_ ≤ 1000000000) :
    Calls Try.prog 39 #[.pointer (some ⟨bs, 0, none⟩)] w fun e w' => (∃ t : ByteArray, e = .returned (.string t) ∧ t.size ≤ 100) ∧ Src w' bs a len cap (at_ + 1) ∧ Tch w.heap.size bs w w' := by
  have hlt := h.lt
  have HN := hide (fun o => l1Next_any 8 bs len cap at_ a (w.alloc o) (h.alloc o) (by decide) hat)
  clear h
  go_enter Try.func39, Try.ntmps39
  go_wp2_with fail
  refine ((unhide HN) _).mono ?_
  rintro e w1 ⟨r, rfl, hr, S1, T1⟩
  have hr' : r < 8 := by have := hr (by decide); omega
  have O1 : Own w1 w.heap.size 9 _ := ⟨_, (T1.block w.heap.size (by simp) (by omega)).trans (heap_alloc_new _ _), rfl⟩
  have hc := O1.cell r
  have TT : Tch w.heap.size bs w w1 := (Tch.of_below' ((Below.refl _ _).alloc (Nat.le_refl _) _)).trans (T1.mono (by simp))
  clear O1 T1 hr HN
  obtain rfl | rfl | rfl | rfl | rfl | rfl | rfl | rfl : r = 0 ∨ r = 1 ∨ r = 2 ∨ r = 3 ∨ r = 4 ∨ r = 5 ∨ r = 6 ∨ r = 7 := by omega
  all_goals
    simp only [List.getElem?_cons_zero, List.getElem?_cons_succ] at hc
    go_wp2_with fail
    go_ret
    exact ⟨⟨_, rfl, by decide⟩, S1, TT⟩
set_option maxRecDepth 100000 in
set_option maxHeartbeats 2000000 in
theorem l1Key_any (bs len cap at_ : Nat) (a : Option Addr) (w : World) (h : Src w bs a len cap at_) (hat : at_ ≤ 1000000000) :
    Calls Try.prog 14 #[.pointer (some ⟨bs, 0, none⟩)] w fun e w' => (∃ t : ByteArray, e = .returned (.string t) ∧ t.size ≤ 100) ∧ Src w' bs a len cap (at_ + 1) ∧ Tch w.heap.size bs w w' := by
  have hlt := h.lt
  have HN := hide (fun o => l1Next_any 4 bs len cap at_ a (w.alloc o) (h.alloc o) (by decide) hat)
  clear h
  go_enter Try.func14, Try.ntmps14
  go_wp2_with fail
  refine ((unhide HN) _).mono ?_
  rintro e w1 ⟨r, rfl, hr, S1, T1⟩
  have hr' : r < 4 := by have := hr (by decide); omega
  have O1 : Own w1 w.heap.size 9 _ := ⟨_, (T1.block w.heap.size (by simp) (by omega)).trans (heap_alloc_new _ _), rfl⟩
  have hc := O1.cell r
  have TT : Tch w.heap.size bs w w1 := (Tch.of_below' ((Below.refl _ _).alloc (Nat.le_refl _) _)).trans (T1.mono (by simp))
  clear O1 T1 hr HN
  obtain rfl | rfl | rfl | rfl : r = 0 ∨ r = 1 ∨ r = 2 ∨ r = 3 := by omega
  all_goals
    simp only [List.getElem?_cons_zero, List.getElem?_cons_succ] at hc
    go_wp2_with fail
    go_ret
    exact ⟨⟨_, rfl, by decide⟩, S1, TT⟩

end Go.Proofs.Ytfcglmkbfdfaeaa
