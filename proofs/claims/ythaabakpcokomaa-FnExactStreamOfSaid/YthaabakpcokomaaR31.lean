/-
  spec.l13All: the paths of a value and of all in it.
-/
import Derived.Test.YthaabakpcokomaaR20
import Derived.Test.YthaabakpcokomaaR30
namespace Go.Proofs.Ythaabakpcokomaa
open Go.RowKit
set_option linter.unusedVariables false
set_option linter.unusedSimpArgs false
namespace Al
theorem empty_row (w : World) (B : Nat) (t : TypeId) (hB : B ≤ w.heap.size) : (w.alloc (.cells #[] t)).ownsRow B t 1 (.slice (some ⟨w.heap.size, 0, none⟩) 0 0) 0 [] := ⟨rfl, .inr ⟨w.heap.size, 0, #[], rfl, hB, heap_alloc_new _ _, Nat.le_refl _, by simp [maxLen], rfl, rfl⟩⟩
/-- What an append reads of a slice of steps, wherever what was there is kept. -/
theorem PT.read {w : World} {pa : Option Addr} {pc : Nat} {cs : List M.Cl} (h : PT w pa cs) (hn : cs = [] → pa = none ∧ pc = 0) : ∃ vs, vs.length = cs.length ∧ (∀ W, Below w.heap.size w W → Sl W vs cs) ∧ ∀ W, Below w.heap.size w W → ((Value.slice pa cs.length pc = .slice none 0 0 ∧ vs = []) ∨ ∃ ad c, Value.slice pa cs.length pc = .slice (some ad) vs.length c ∧ ∀ j u, vs[j]? = some u → W.cell? (ad.add j) = some u) := by
  obtain ⟨vs, h1, h2⟩ := h
  refine ⟨vs, h1.1, fun W hW => h1.keep (Kq.ofBelow hW), fun W hW => ?_⟩
  rcases h2 with h2 | ⟨g, o, c, h3, h4, h5⟩
  · obtain ⟨e1, e2⟩ := hn h2
    subst h2
    exact .inl ⟨by rw [e1, e2]; rfl, List.length_eq_zero_iff.1 h1.1⟩
  · refine .inr ⟨⟨g, o, none⟩, pc, by rw [h3, h1.1], fun j u hu => ?_⟩
    have hj : j < cs.length := by rw [← h1.1]; exact (List.getElem?_eq_some_iff.1 hu).1
    have h4' : W.heap[g]? = some (.cells c 28 (0, 0)) := (hW.block g (Array.getElem?_eq_some_iff.1 h4).1).trans h4
    rw [Go.WideShapes.add_plain, cell_in h4', h5 j hj, hu]
/-- What an append reads of a row of paths. -/
theorem row_read {w : World} {B : Nat} {t : TypeId} {s : Value} {n : Nat} {xs : List Value} (h : w.ownsRow B t 1 s n xs) : (s = .slice none 0 0 ∧ xs = []) ∨ ∃ ad c, s = .slice (some ad) xs.length c ∧ ∀ j u, xs[j]? = some u → w.cell? (ad.add j) = some u := by
  have hl : xs.length = n := by have := h.1; omega
  rcases h.2 with ⟨h2, h3⟩ | ⟨g, cap, cur, h2, h3, h4, h5, h6, h7, h8⟩
  · exact .inl ⟨h2, List.length_eq_zero_iff.1 (by omega)⟩
  · refine .inr ⟨⟨g, 0, none⟩, cap, by rw [hl]; exact h2, fun j u hu => ?_⟩
    have hj : j < xs.length := (List.getElem?_eq_some_iff.1 hu).1
    rw [Go.WideShapes.add_plain, Nat.zero_add, cell_in h4, ← hu, ← h8, List.getElem?_take_of_lt (by omega)]
theorem row_below {w w' : World} {B : Nat} {t : TypeId} {s : Value} {n sz : Nat} {xs : List Value} (h : w.ownsRow B t sz s n xs) (hb : Below w.heap.size w w') : w'.ownsRow B t sz s n xs := ownsRow_below (B := 0) h hb
theorem row_shape {w : World} {B : Nat} {t : TypeId} {s : Value} {n sz : Nat} {xs : List Value} (h : w.ownsRow B t sz s n xs) : ∃ a k c, s = .slice a k c := by
  rcases h.2 with ⟨h2, _⟩ | ⟨g', cap, cur, h2, h3, _⟩
  · exact ⟨_, _, _, h2⟩
  · exact ⟨_, _, _, h2⟩
theorem row_base {w : World} {B : Nat} {t : TypeId} {s : Value} {n sz : Nat} {xs : List Value} (h : w.ownsRow B t sz s n xs) : ∀ g, s.ownBlock = some g → B ≤ g := by
  intro g hg
  rcases h.2 with ⟨h2, _⟩ | ⟨g', cap, cur, h2, h3, _⟩
  · rw [h2] at hg; cases hg
  · rw [h2] at hg; cases hg; exact h3

end Al
end Go.Proofs.Ythaabakpcokomaa
