/-
  Lists of lists of cells and lists of texts, wherever their slices lie: what those are told that read them.
  Answers that tell a code and a value, and the small makers of them.
-/
import Derived.Test.YthaabakpcokomaaR07
import Derived.Test.YthaabakpcokomaaR15
import Derived.Test.YthaabakpcokomaaR17
import Derived.Test.YthaabakpcokomaaR18
namespace Go.Proofs.Ythaabakpcokomaa
open Go.RowKit
set_option linter.unusedVariables false

/-- The slice from a on holds slices, the i-th of which holds the cells of the i-th list. -/
def LV (w : World) (a : Option Addr) (ps : List (List M.Cl)) : Prop :=
  ∀ i, i < ps.length → ∃ g b off c, a = some ⟨g, 0, none⟩ ∧ g < w.heap.size ∧ w.cell? ⟨g, i, none⟩ = some (.slice (some ⟨b, off, none⟩) (ps.getD i []).length c) ∧ (ps.getD i []).length ≤ c ∧ b < w.heap.size ∧ Row w b off (ps.getD i [])
theorem LV.below {w w' : World} {a : Option Addr} {ps : List (List M.Cl)} (h : LV w a ps) (hb : Below w.heap.size w w') : LV w' a ps := by
  intro i hi
  obtain ⟨g, b, off, c, rfl, h1, h2, h3, h4, h5⟩ := h i hi
  exact ⟨g, b, off, c, rfl, Nat.lt_of_lt_of_le h1 hb.size, (hb.cell h1).trans h2, h3, Nat.lt_of_lt_of_le h4 hb.size, h5.below hb h4⟩
/-- The slice from a on holds the texts. -/
def TV (w : World) (a : Option Addr) (ks : List ByteArray) : Prop := ∀ i, i < ks.length → ∃ g, a = some ⟨g, 0, none⟩ ∧ g < w.heap.size ∧ w.cell? ⟨g, i, none⟩ = some (.string (ks.getD i ByteArray.empty))
theorem row_at {w : World} {base g cap n : Nat} {e : TypeId} {cur : Array Value} {xs : List Value} {i : Nat} (hh : w.heap[g]? = some (.cells cur e (0, 0))) (ht : cur.toList.take (n * 1) = xs) (hi : i < n) : w.cell? ⟨g, i, none⟩ = xs[i]? := by
  rw [cell_of_row w g i cur e (0, 0) hh]
  have h3 : cur.toList[i]? = xs[i]? := by rw [← ht, List.getElem?_take, if_pos (by omega)]
  have h4 : cur[i]? = cur.toList[i]? := by simp
  rw [h4, h3]

theorem SS.lv {w : World} {B : Nat} {v : Value} {ps : List (List M.Cl)} (h : SS w B v ps) (hne : ∀ i, i < ps.length → ps.getD i [] ≠ []) : ∃ a c, v = .slice a ps.length c ∧ ps.length ≤ c ∧ LV w a ps := by
  obtain ⟨ss, hl, ho, hr⟩ := h
  obtain ⟨_, ⟨rfl, h0⟩ | ⟨g, cap, cur, rfl, hg, hh, hnc, hcm, hcs, ht⟩⟩ := ho
  · exact ⟨none, 0, by rw [h0], by omega, fun i hi => by omega⟩
  · refine ⟨_, cap, rfl, hnc, fun i hi => ?_⟩
    obtain ⟨b, c, e, hc, hO⟩ := res_any (hr i hi) (hne i hi)
    refine ⟨g, b, 0, c, rfl, (Array.getElem?_eq_some_iff.1 hh).1, ?_, hc, hO.lt, hO.row⟩
    rw [row_at (base := 0) (cap := 0) hh ht hi, List.getElem?_eq_getElem (by omega)]
    rw [List.getD_eq_getElem?_getD, List.getElem?_eq_getElem (by omega)] at e
    simp only [Option.getD_some] at e
    rw [e]
theorem KS.tv {w : World} {B : Nat} {v : Value} {ks : List ByteArray} (h : KS w B v ks) : ∃ a c, v = .slice a ks.length c ∧ ks.length ≤ c ∧ TV w a ks := by
  obtain ⟨_, ⟨rfl, h0⟩ | ⟨g, cap, cur, rfl, hg, hh, hnc, hcm, hcs, ht⟩⟩ := h
  · exact ⟨none, 0, by rw [h0], by omega, fun i hi => by omega⟩
  · refine ⟨_, cap, rfl, hnc, fun i hi => ⟨g, rfl, (Array.getElem?_eq_some_iff.1 hh).1, ?_⟩⟩
    rw [row_at (base := 0) (cap := 0) hh ht hi, List.getElem?_map, List.getElem?_eq_getElem hi, List.getD_eq_getElem?_getD, List.getElem?_eq_getElem hi]
    rfl

/-- What a part of a value without a fault is. -/
theorem subs_all {v : List M.Cl} (hv : M.valueFault v = 0) (hok : ∀ c ∈ v, c.ok) : (subs v 0).length ≤ 200 ∧ (∀ j, j < (subs v 0).length → M.valueFault ((subs v 0).getD j []) = 0) ∧ OkS (subs v 0) ∧ ∀ j, j < (subs v 0).length → (subs v 0).getD j [] ≠ [] := by
  have hl := (M.fault_zero hv).1
  have hmem : ∀ j, j < (subs v 0).length → (subs v 0).getD j [] ∈ subs v 0 := fun j hj => by
    rw [List.getD_eq_getElem?_getD, List.getElem?_eq_getElem hj]; exact List.getElem_mem hj
  have h1 : ∀ j, j < (subs v 0).length → M.valueFault ((subs v 0).getD j []) = 0 := fun j hj => (subs_ok hv hok (by omega) _ (hmem j hj)).1
  refine ⟨by rw [subs_length]; exact (M.places_in hv 0 (by omega)).2.2.2, h1, fun j hj => (subs_ok hv hok (by omega) _ (hmem j hj)).2.2, fun j hj e => ?_⟩
  have := (fault_len (h1 j hj)).1
  rw [e] at this
  simp at this

end Go.Proofs.Ythaabakpcokomaa

namespace Go.Proofs.Ythaabakpcokomaa
open Go.RowKit
set_option linter.unusedVariables false

theorem store_below {w w1 : World} (B1 : Below w.heap.size w w1) (x y : Value) : Below w.heap.size w ((w1.setCell ⟨w.heap.size, 0, none⟩ x).setCell ⟨w.heap.size, 1, none⟩ y) := (B1.setCell (Nat.le_refl _) _).setCell (Nat.le_refl _) _

/-- A row of one cell, laid by a literal. -/
theorem one_cell (w : World) (B b : Nat) (c : M.Cl) (hb : b = w.heap.size) (hB : B ≤ w.heap.size) : Res (w.alloc (.cells #[.int .i64 c.kind, .int .i64 c.num, .string c.text, .string c.key, .int .i64 c.n] 67)) B (.slice (some ⟨b, 0, none⟩) 1 1) [c] := by
  subst hb
  refine ⟨by simp, .inr ⟨w.heap.size, 1, rfl, hB, by simp, ⟨_, ⟨_, heap_alloc_new _ _, rfl⟩, by simp, fun i hi => ?_⟩⟩⟩
  simp only [List.length_cons, List.length_nil] at hi
  obtain rfl : i = 0 := by omega
  exact ⟨rfl, rfl, rfl, rfl, rfl⟩

end Go.Proofs.Ythaabakpcokomaa
