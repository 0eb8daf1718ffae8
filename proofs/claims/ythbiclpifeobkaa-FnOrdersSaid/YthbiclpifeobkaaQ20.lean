/-
  Rows of lists of cells and rows of texts: spec.l1Parts and spec.l1Keys.
-/
import Derived.Test.YthbiclpifeobkaaQ18
import Derived.Test.YthbiclpifeobkaaQ19
namespace Go.Proofs.Ythbiclpifeobkaa
open Go.RowKit
set_option linter.unusedVariables false

/-- The slice value v is a row of slices, each of which holds the cells of one of the lists ps. -/
def SS (w : World) (B : Nat) (v : Value) (ps : List (List M.Cl)) : Prop :=
  ∃ ss : List Value, ss.length = ps.length ∧ w.ownsRow B 24 1 v ps.length ss ∧ ∀ i, i < ps.length → Res w B (ss.getD i (.slice none 0 0)) (ps.getD i [])
/-- The slice value v is a row of the texts ks. -/
def KS (w : World) (B : Nat) (v : Value) (ks : List ByteArray) : Prop := w.ownsRow B 9 1 v ks.length (ks.map Value.string)

theorem SS.below {w w' : World} {B : Nat} {v : Value} {ps : List (List M.Cl)} (h : SS w B v ps) (hb : Below w.heap.size w w') : SS w' B v ps := by
  obtain ⟨ss, h1, h2, h3⟩ := h
  exact ⟨ss, h1, ownsRow_below (B := 0) h2 hb, fun i hi => (h3 i hi).below hb⟩
theorem KS.below {w w' : World} {B : Nat} {v : Value} {ks : List ByteArray} (h : KS w B v ks) (hb : Below w.heap.size w w') : KS w' B v ks := ownsRow_below (B := 0) h hb

/-- Rows of unlike elements are not one. -/
theorem other_block {w : World} {base : Nat} {e : TypeId} {size : Nat} {v : Value} {n : Nat} {xs : List Value} (h : w.ownsRow base e size v n xs) {b : Nat} {t : TypeId} {ys : List Value} (ho : Own w b t ys) (hne : e ≠ t) : v.ownBlock ≠ some b := by
  obtain ⟨_, ⟨rfl, _⟩ | ⟨g, cap, cur, rfl, hg, hh, _⟩⟩ := h
  · simp [Value.ownBlock]
  · intro hx
    simp only [Value.ownBlock, Option.some.injEq] at hx
    subst hx
    obtain ⟨c, hc, _⟩ := ho
    rw [hh] at hc
    simp only [Option.some.injEq, Obj.cells.injEq] at hc
    exact hne hc.2.1
theorem grown_own {w w' : World} {row : Option Nat} (hg : w.grownBy w' row) {b : Nat} {t : TypeId} {ys : List Value} (ho : Own w b t ys) (hne : row ≠ some b) : Own w' b t ys := by
  obtain ⟨c, hc, e⟩ := ho
  exact ⟨c, (hg.block b (Array.getElem?_eq_some_iff.1 hc).1 (fun h => hne h.symm)).trans hc, e⟩
theorem grown_res {w w' : World} {base : Nat} {e : TypeId} {size : Nat} {v : Value} {n : Nat} {xs : List Value} (h : w.ownsRow base e size v n xs) (hg : w.grownBy w' v.ownBlock) {B : Nat} {s : Value} {l : List M.Cl} (hr : Res w B s l) (hne : e ≠ 44) : Res w' B s l := by
  obtain ⟨hn, g | ⟨b, cap, h1, h2, h3, ⟨ys, h4, h5⟩⟩⟩ := hr
  · exact ⟨hn, .inl g⟩
  · exact ⟨hn, .inr ⟨b, cap, h1, h2, h3, ⟨ys, grown_own hg h4 (other_block h h4 hne), h5⟩⟩⟩

theorem one_val (w : World) (u : Value) (t : TypeId) : ∀ j x, ([u] : List Value)[j]? = some x → (w.alloc (.cells #[u] t)).cell? ((⟨w.heap.size, 0, none⟩ : Addr).add j) = some x := by
  intro j x hu
  match j, hu with
  | 0, hu =>
    simp only [List.getElem?_cons_zero, Option.some.injEq] at hu
    subst hu
    have a0 : (⟨w.heap.size, 0, none⟩ : Addr).add 0 = ⟨w.heap.size, 0, none⟩ := by simp [Addr.add]
    rw [a0]
    exact World.cell?_alloc_mark w #[u] t (0, 0) 0

theorem firstPl_getD (v : List M.Cl) (a k j : Nat) (hj : j < k) : (firstPl v a k).getD j 0 = (M.iter v j (a + 1) : Int) := by
  simp [firstPl, List.getD_eq_getElem?_getD, hj]

end Go.Proofs.Ythbiclpifeobkaa
