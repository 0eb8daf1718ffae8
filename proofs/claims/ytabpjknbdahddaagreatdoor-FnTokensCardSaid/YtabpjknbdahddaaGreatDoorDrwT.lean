/-
  Draws of numbers out of a list, of words, of tokens.
-/
import Derived.Test.YtabpjknbdahddaaGreatDoorSrcT
import Derived.Test.YtabpjknbdahddaaGreatDoorTkM
import Derived.Test.YtabpjknbdahddaaGreatDoorMrkT
namespace Go.Proofs.YtabpjknbdahddaaGreatDoor
open Go.RowKit
set_option linter.unusedVariables false
set_option linter.unusedSimpArgs false


theorem Src.lt {w : World} {bs len cap at_ : Nat} {a : Option Addr} (h : Src w bs a len cap at_) : bs < w.heap.size := h.own.lt
theorem Src.alloc {w : World} {bs len cap at_ : Nat} {a : Option Addr} (h : Src w bs a len cap at_) (o : Obj) : Src (w.alloc o) bs a len cap at_ := h.below ((Below.refl _ _).alloc (Nat.le_refl _) o)
theorem Tch.of_below' {B b : Nat} {w w' : World} (h : Below B w w') : Tch B b w w' := ⟨h.os, h.tape, h.output, h.size, fun k hk _ => h.block k hk⟩
theorem Tch.own {B b : Nat} {w w' : World} (h : Tch B b w w') {c : Nat} {t : TypeId} {xs : List Value} (ho : Own w c t xs) (hc : c < B) (hn : c ≠ b) : Own w' c t xs := by
  obtain ⟨r, h1, h2⟩ := ho
  exact ⟨r, (h.block c hc hn).trans h1, h2⟩

set_option maxHeartbeats 1000000 in
theorem l1Pick_any (xs : List Int) (g bs len cap at_ : Nat) (a : Option Addr) (w : World) (h : Src w bs a len cap at_) (hx : Own w g 2 (xs.map (Value.int .i64))) (hg : g ≠ bs) (h1 : 1 ≤ xs.length) (h2 : xs.length ≤ 1000) (hat : at_ ≤ 1000000000) :
    Calls Tryz.prog 55 #[.pointer (some ⟨bs, 0, none⟩), .slice (some ⟨g, 0, none⟩) xs.length xs.length] w fun e w' => (∃ x ∈ xs, e = .returned (.int .i64 x)) ∧ Src w' bs a len cap (at_ + 1) ∧ Tch w.heap.size bs w w' := by
  have HX := hide hx
  clear hx
  go_enter Tryz.func55, Tryz.ntmps55
  go_wp2_with fail
  refine (l1Next_any (xs.length : Int) bs len cap at_ a _ h (by omega) hat).mono ?_
  rintro e w1 ⟨r, rfl, hr, S1, T1⟩
  have hr' : r < xs.length := by have := hr (by omega); omega
  have hrz : (r : Int) < (xs.length : Int) := by omega
  have OX := T1.own (unhide HX) (unhide HX).lt hg
  have hc := OX.cell r
  rw [List.getElem?_map, List.getElem?_eq_getElem hr'] at hc
  simp only [Option.map_some] at hc
  have hm := hide (List.getElem_mem hr')
  generalize xs[r] = x at *
  clear OX hr
  go_wp2_with fail
  go_ret
  exact ⟨⟨x, unhide hm, rfl⟩, S1, T1⟩

set_option maxRecDepth 100000 in
set_option maxHeartbeats 2000000 in
theorem l1Word_any (bs len cap at_ : Nat) (a : Option Addr) (w : World) (h : Src w bs a len cap at_) (hat : at_ ≤ 1000000000) :
    Calls Tryz.prog 80 #[.pointer (some ⟨bs, 0, none⟩)] w fun e w' => (∃ t : ByteArray, e = .returned (.string t) ∧ t.size ≤ 100) ∧ Src w' bs a len cap (at_ + 1) ∧ Tch w.heap.size bs w w' := by
  have hlt := h.lt
  have HN := hide (fun o => l1Next_any 8 bs len cap at_ a (w.alloc o) (h.alloc o) (by decide) hat)
  clear h
  go_enter Tryz.func80, Tryz.ntmps80
  go_wp2_with fail
  refine ((unhide HN) _).mono ?_
  rintro e w1 ⟨r, rfl, hr, S1, T1⟩
  have hr' : r < 8 := by have := hr (by decide); omega
  have O1 : Own w1 w.heap.size 9 _ := ⟨_, (T1.block w.heap.size (by simp) (by omega)).trans (heap_alloc_new _ _), rfl⟩
  have hc := O1.cell r
  have TT : Tch w.heap.size bs w w1 := (Tch.of_below' ((Below.refl _ _).alloc (Nat.le_refl _) _)).trans (T1.mono (by simp))
  clear O1 T1 hr HN
  obtain rfl | rfl | rfl | rfl | rfl | rfl | rfl | rfl : r = 0 ∨ r = 1 ∨ r = 2 ∨ r = 3 ∨ r = 4 ∨ r = 5 ∨ r = 6 ∨ r = 7 := by omega
  all_goals
    simp only [List.getElem?_cons_zero, List.getElem?_cons_succ] at hc
    go_wp2_with fail
    go_ret
    exact ⟨⟨_, rfl, by decide⟩, S1, TT⟩

/-- A token that is being drawn: in block T, behind the source. -/
structure Dr (w wr : World) (bs : Nat) (a : Option Addr) (len cap at_ : Nat) (T : Nat) (t : Tk) : Prop where
  src : Src wr bs a len cap at_
  tch : Tch w.heap.size bs w wr
  res : Own wr w.heap.size 33 [.int .i64 0, .int .i64 0, .int .i64 0, .string ByteArray.empty]
  own : Own wr T 33 t.vals
  bsT : bs < w.heap.size ∧ w.heap.size < T
theorem Dr.go {w wr w2 : World} {bs len cap at_ at2 T : Nat} {a : Option Addr} {t : Tk} (h : Dr w wr bs a len cap at_ T t) (hs : Src w2 bs a len cap at2) (ht : Tch wr.heap.size bs wr w2) : Dr w w2 bs a len cap at2 T t :=
  ⟨hs, h.tch.trans (ht.mono h.tch.size), ht.own h.res h.res.lt (by have := h.bsT; omega), ht.own h.own h.own.lt (by have := h.bsT; omega), h.bsT⟩
theorem Dr.alloc {w wr : World} {bs len cap at_ T : Nat} {a : Option Addr} {t : Tk} (h : Dr w wr bs a len cap at_ T t) (o : Obj) : Dr w (wr.alloc o) bs a len cap at_ T t := h.go (h.src.alloc o) (Tch.of_below' ((Below.refl _ _).alloc (Nat.le_refl _) o))
theorem Dr.set {w wr : World} {bs len cap at_ T : Nat} {a : Option Addr} {t t2 : Tk} (h : Dr w wr bs a len cap at_ T t) (j : Nat) (x : Value) (ht : t.vals.set j x = t2.vals) : Dr w (wr.setCell ⟨T, j, none⟩ x) bs a len cap at_ T t2 :=
  ⟨h.src.set T j x (by have := h.bsT; omega), ⟨h.tch.os, h.tch.tape, h.tch.output, by have := h.tch.size; simpa using this, fun k hk hn => (heap_setCell_other _ ⟨T, j, none⟩ k x (by have := h.bsT; simp only; omega)).trans (h.tch.block k hk hn)⟩, by
    obtain ⟨r, h1, h2⟩ := h.res
    exact ⟨r, (heap_setCell_other _ ⟨T, j, none⟩ _ x (by have := h.bsT; simp only; omega)).trans h1, h2⟩, ht ▸ h.own.set j x, h.bsT⟩

end Go.Proofs.YtabpjknbdahddaaGreatDoor
