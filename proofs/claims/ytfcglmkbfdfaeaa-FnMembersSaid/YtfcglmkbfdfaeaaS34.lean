/-
  spec.l1Bent: a value that was drawn, something in it turned now and then.
-/
import Derived.Test.YtfcglmkbfdfaeaaS02
import Derived.Test.YtfcglmkbfdfaeaaS33
namespace Go.Proofs.Ytfcglmkbfdfaeaa
open Go.RowKit
set_option linter.unusedVariables false
set_option linter.unusedSimpArgs false

namespace Dv
def Bent (w : World) (bs : Nat) (a : Option Addr) (len cap at_ K : Nat) (e : Ending) (w' : World) : Prop :=
  ∃ s l at2, e = .returned s ∧ Rs w' w.heap.size s l ∧ l.length ≤ 300 ∧ (∀ c ∈ l, c.ok) ∧ Src w' bs a len cap at2 ∧ at2 ≤ at_ + K ∧ Tch w.heap.size bs w w' ∧ ∃ g gc, s = .slice (some ⟨g, 0, none⟩) l.length gc
theorem rs_at {w : World} {B g cap : Nat} {l : List M.Cl} (h : Rs w B (.slice (some ⟨g, 0, none⟩) l.length cap) l) (h0 : 0 < l.length) : B ≤ g ∧ g < w.heap.size ∧ l.length ≤ cap ∧ (∀ i f, i < l.length → f < 5 → w.cell? ⟨g, i * 5 + f, none⟩ = (l.getD i M.zero).vals[f]?) ∧ (∀ j, w.frozen? ⟨g, j, none⟩ = false)
    ∧ ∀ i f x c', i < l.length → f < 5 → c'.vals = (l.getD i M.zero).vals.set f x → Rs (w.setCell ⟨g, i * 5 + f, none⟩ x) B (.slice (some ⟨g, 0, none⟩) l.length cap) (l.set i c') := by
  obtain ⟨g', cap', e, h1⟩ := rs_some h h0
  cases e
  exact h1
theorem tch_set {B b g j : Nat} {w w' : World} (h : Tch B b w w') (hg : B ≤ g) (x : Value) : Tch B b w (w'.setCell ⟨g, j, none⟩ x) :=
  h.trans (Tch.of_below' ((Below.refl B w').setCell (p := ⟨g, j, none⟩) hg x))
theorem get_ok {l : List M.Cl} (h : ∀ c ∈ l, c.ok) {i : Nat} (hi : i < l.length) : (l.getD i M.zero).ok := by
  rw [List.getD_eq_getElem?_getD, List.getElem?_eq_getElem hi]
  exact h _ (List.getElem_mem hi)
theorem src_drew {w : World} {bs len cap at_ : Nat} {a : Option Addr} (h : Src w bs a len cap at_) : Src w.drew bs a len cap at_ := h.drewN 1
theorem own_drew {w : World} {b : Nat} {t : TypeId} {xs : List Value} (h : Own w b t xs) : Own w.drew b t xs := h
theorem tch_drew {B b : Nat} {w w' : World} (h : Tch B b w.drew w') : Tch B b w w' := ⟨h.os, h.tape, h.output, h.size, h.block⟩
theorem wrap_in (n : Int) : -9223372036854775808 ≤ IntKind.i64.wrap n ∧ IntKind.i64.wrap n ≤ 9223372036854775807 := by
  simp [IntKind.wrap, IntKind.bits, IntKind.signed]
  omega
theorem rs_set1 {w : World} {B g cap n : Nat} {l : List M.Cl} (h : Rs w B (.slice (some ⟨g, 0, none⟩) n cap) l) (hn : n = l.length) (h0 : 0 < l.length) (f : Nat) (x : Value) (c' : M.Cl) (hf : f < 5) (hc : c'.vals = (l.getD 0 M.zero).vals.set f x) : Rs (w.setCell ⟨g, f, none⟩ x) B (.slice (some ⟨g, 0, none⟩) n cap) (l.set 0 c') := by
  subst hn
  have := (rs_at h h0).2.2.2.2.2 0 f x c' h0 hf hc
  rw [Nat.zero_mul, Nat.zero_add] at this
  exact this
theorem get_set0 {l : List M.Cl} (h0 : 0 < l.length) (c : M.Cl) : (l.set 0 c).getD 0 M.zero = c := by
  rw [List.getD_eq_getElem?_getD, List.getElem?_set_self h0]
  rfl
theorem rs_put5 {w : World} {B g cap : Nat} {l : List M.Cl} (h : Rs w B (.slice (some ⟨g, 0, none⟩) l.length cap) l) (h0 : 0 < l.length) (k n : Int) (t y : ByteArray) (m : Int) :
    Rs (((((w.setCell ⟨g, 0, none⟩ (.int .i64 k)).setCell ⟨g, 1, none⟩ (.int .i64 n)).setCell ⟨g, 2, none⟩ (.string t)).setCell ⟨g, 3, none⟩ (.string y)).setCell ⟨g, 4, none⟩ (.int .i64 m)) B (.slice (some ⟨g, 0, none⟩) l.length cap) (l.set 0 ⟨k, n, t, y, m⟩) := by
  obtain ⟨c, hc⟩ : ∃ c, c = l.getD 0 M.zero := ⟨_, rfl⟩
  have e : ∀ (c1 c2 : M.Cl), (l.set 0 c1).set 0 c2 = l.set 0 c2 := fun c1 c2 => List.set_set ..
  have hl : ∀ c1 : M.Cl, l.length = (l.set 0 c1).length := fun c1 => by rw [List.length_set]
  have p : ∀ c1 : M.Cl, 0 < (l.set 0 c1).length := fun c1 => by rw [List.length_set]; exact h0
  have h1 := rs_set1 h rfl h0 0 (.int .i64 k) ⟨k, c.num, c.text, c.key, c.n⟩ (by decide) (by rw [← hc]; rfl)
  have h2 := rs_set1 h1 (hl _) (p _) 1 (.int .i64 n) ⟨k, n, c.text, c.key, c.n⟩ (by decide) (by rw [get_set0 h0]; rfl)
  rw [e] at h2
  have h3 := rs_set1 h2 (hl _) (p _) 2 (.string t) ⟨k, n, t, c.key, c.n⟩ (by decide) (by rw [get_set0 h0]; rfl)
  rw [e] at h3
  have h4 := rs_set1 h3 (hl _) (p _) 3 (.string y) ⟨k, n, t, y, c.n⟩ (by decide) (by rw [get_set0 h0]; rfl)
  rw [e] at h4
  have h5 := rs_set1 h4 (hl _) (p _) 4 (.int .i64 m) ⟨k, n, t, y, m⟩ (by decide) (by rw [get_set0 h0]; rfl)
  rw [e] at h5
  exact h5
theorem zero_at (n : Nat) (i : Nat) : (List.replicate n M.zero).getD i M.zero = M.zero := by rw [List.getD_eq_getElem?_getD, List.getElem?_replicate]; split <;> rfl
theorem mk5_flat (n : Nat) : (mk5 n).toList = flat (List.replicate n M.zero) := by
  refine List.ext_getElem? fun j => ?_
  by_cases hj : j < n * 5
  · have e : j = (j / 5) * 5 + j % 5 := by omega
    have hi : j / 5 < n := by omega
    rw [e, flat_get _ _ _ (by simpa using hi) (Nat.mod_lt _ (by decide)), ← e]
    have e2 : (List.replicate n M.zero).getD (j / 5) M.zero = M.zero := by rw [List.getD_eq_getElem?_getD, List.getElem?_replicate]; split <;> rfl
    rw [e2]
    have e3 : (mk5 n).toList[j]? = some ((#[.int .i64 0, .int .i64 0, .string ByteArray.empty, .string ByteArray.empty, .int .i64 0] : Array Value)[j % 5]!) := by
      unfold mk5 madeCells
      simp [hj]
    rw [e3]
    have hm : j % 5 < 5 := Nat.mod_lt _ (by decide)
    generalize j % 5 = f at *
    obtain rfl | rfl | rfl | rfl | rfl : f = 0 ∨ f = 1 ∨ f = 2 ∨ f = 3 ∨ f = 4 := by omega
    all_goals rfl
  · rw [List.getElem?_eq_none (by simp only [Array.length_toList, size_mk5]; omega), List.getElem?_eq_none (by rw [flat_length, List.length_replicate]; omega)]
theorem rs_made (w : World) (n : Nat) (hn : n ≤ 1000) : Rs (w.alloc (.cells (mk5 n) 34)) w.heap.size (.slice (some ⟨w.heap.size, 0, none⟩) n n) (List.replicate n M.zero) := by
  refine ⟨⟨flat_length _, .inr ⟨w.heap.size, n, mk5 n, by rw [List.length_replicate], Nat.le_refl _, heap_alloc_new _ _, by rw [List.length_replicate]; exact Nat.le_refl _, by unfold maxLen; omega, size_mk5 n, ?_⟩⟩, by rw [List.length_replicate]; omega⟩
  rw [List.length_replicate, List.take_of_length_le (by simp only [Array.length_toList, size_mk5]; exact Nat.le_refl _), mk5_flat]
end Dv

end Go.Proofs.Ytfcglmkbfdfaeaa
