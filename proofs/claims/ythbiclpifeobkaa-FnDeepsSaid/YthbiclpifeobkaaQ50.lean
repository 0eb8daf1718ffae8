/-
  spec.RangeOf and impl.RangeOf.
  What KeysOf tells, plainly; texts and lists that do not touch one another.
  What DropKey tells, plainly: an object without one of its members has no fault.
  Lists of parts that are kept where another list grows.
  Lists that are joined, and what a sum of two values is, plainly.
-/
import Derived.Test.YthbiclpifeobkaaQ14
import Derived.Test.YthbiclpifeobkaaQ23
import Derived.Test.YthbiclpifeobkaaQ24
import Derived.Test.YthbiclpifeobkaaQ45
import Derived.Laws.AppendOwnNone
import Derived.Maps.AppendAt
namespace Go.Proofs.Ythbiclpifeobkaa
open Go.RowKit
set_option linter.unusedVariables false

end Go.Proofs.Ythbiclpifeobkaa

namespace Go.Proofs.Ythbiclpifeobkaa
open Go.RowKit
set_option linter.unusedVariables false

theorem SS.ownsRow {w : World} {B : Nat} {v : Value} {ps : List (List M.Cl)} (h : SS w B v ps) : ∃ xs, w.ownsRow B 24 1 v ps.length xs := by obtain ⟨ss, _, h2, _⟩ := h; exact ⟨ss, h2⟩
end Go.Proofs.Ythbiclpifeobkaa

namespace Go.Proofs.Ythbiclpifeobkaa
open Go.RowKit
set_option linter.unusedVariables false

end Go.Proofs.Ythbiclpifeobkaa

namespace Go.Proofs.Ythbiclpifeobkaa
open Go.RowKit
set_option linter.unusedVariables false

theorem SS.keptB {w w' : World} {B base : Nat} {v s : Value} {ps : List (List M.Cl)} {n : Nat} {xs : List Value} (h : SS w B v ps) (ho : w.ownsRow base 24 1 s n xs) (hne : v.ownBlock = none ∨ v.ownBlock ≠ s.ownBlock) (hg : w.grownBy w' s.ownBlock) : SS w' B v ps := by
  obtain ⟨ss, hl, hown, hres⟩ := h
  exact ⟨ss, hl, hown.kept hg hne, fun i hi => grown_res ho hg (hres i hi) (by decide)⟩
theorem KSrow_mono {w : World} {B B' : Nat} {e : TypeId} {size : Nat} {v : Value} {n : Nat} {xs : List Value} (h : w.ownsRow B e size v n xs) (hB : B' ≤ B) : w.ownsRow B' e size v n xs := by
  obtain ⟨h1, h2 | ⟨g, cap, cur, h3, h4, h5⟩⟩ := h
  · exact ⟨h1, .inl h2⟩
  · exact ⟨h1, .inr ⟨g, cap, cur, h3, by omega, h5⟩⟩
theorem SS.mono {w : World} {B B' : Nat} {v : Value} {ps : List (List M.Cl)} (h : SS w B v ps) (hB : B' ≤ B) : SS w B' v ps := by
  obtain ⟨ss, hl, hown, hres⟩ := h
  exact ⟨ss, hl, KSrow_mono hown hB, fun i hi => (hres i hi).mono hB⟩
/-- Two slices lie in unlike blocks. -/
def Apart (s t : Value) : Prop := ∀ g, t.ownBlock = some g → s.ownBlock ≠ some g
theorem Apart.or {s t : Value} (h : Apart s t) : t.ownBlock = none ∨ t.ownBlock ≠ s.ownBlock := by
  cases ht : t.ownBlock with
  | none => exact .inl rfl
  | some g => exact .inr fun e => h g ht e.symm
theorem Apart.next {s s' t : Value} {n : Nat} (h : Apart s t) (ht : ∀ g, t.ownBlock = some g → g < n) (hat : s'.ownBlock = s.ownBlock ∨ s'.ownBlock = some n) : Apart s' t := by
  intro g hg e
  rcases hat with hat | hat
  · exact h g hg (hat.symm.trans e)
  · rw [hat] at e
    have := ht g hg
    simp only [Option.some.injEq] at e
    omega
theorem row_blt {w : World} {base : Nat} {e : TypeId} {size : Nat} {v : Value} {n : Nat} {xs : List Value} (h : w.ownsRow base e size v n xs) : ∀ g, v.ownBlock = some g → base ≤ g ∧ g < w.heap.size := h.lt

end Go.Proofs.Ythbiclpifeobkaa

namespace Go.Proofs.Ythbiclpifeobkaa
open Go.RowKit
set_option linter.unusedVariables false

theorem SS.one {w : World} {B : Nat} {v : Value} {ps : List (List M.Cl)} {ss : List Value} (hl : ss.length = ps.length) (hr : ∀ i, i < ps.length → Res w B (ss.getD i (.slice none 0 0)) (ps.getD i [])) : ∀ u ∈ ss, u.oneCell' = true := by
  intro u hu
  obtain ⟨i, hi, rfl⟩ := List.getElem_of_mem hu
  have := hr i (by omega)
  rw [List.getD_eq_getElem?_getD, List.getElem?_eq_getElem hi] at this
  obtain ⟨a, n, c, e⟩ := this.shape
  simp only [Option.getD_some] at e
  rw [e]; rfl
theorem SS.join {w w' : World} {B B2 : Nat} {s v' : Value} {ps qs : List (List M.Cl)} {ss tt : List Value} (hl : ss.length = ps.length) (hown : w.ownsRow B 24 1 s ps.length ss) (hres : ∀ i, i < ps.length → Res w B (ss.getD i (.slice none 0 0)) (ps.getD i [])) (hl2 : tt.length = qs.length) (hres2 : ∀ i, i < qs.length → Res w B2 (tt.getD i (.slice none 0 0)) (qs.getD i [])) (hB : B ≤ B2) (hg : w.grownBy w' s.ownBlock) (ho : w'.ownsRow B 24 1 v' (ps.length + qs.length) (ss ++ tt)) : SS w' B v' (ps ++ qs) := by
  have keep : ∀ (r : Value) (C : Nat) (l : List M.Cl), Res w C r l → Res w' C r l := fun r C l h => grown_res hown hg h (by decide)
  refine ⟨ss ++ tt, by simp [hl, hl2], by simpa using ho, fun i hi => ?_⟩
  rw [List.length_append] at hi
  by_cases e : i < ps.length
  · rw [List.getD_eq_getElem?_getD, List.getElem?_append_left (by omega), ← List.getD_eq_getElem?_getD, List.getD_eq_getElem?_getD (l := ps ++ qs), List.getElem?_append_left e, ← List.getD_eq_getElem?_getD]
    exact keep _ _ _ (hres i e)
  · rw [List.getD_eq_getElem?_getD, List.getElem?_append_right (by omega), hl, ← List.getD_eq_getElem?_getD, List.getD_eq_getElem?_getD (l := ps ++ qs), List.getElem?_append_right (by omega), ← List.getD_eq_getElem?_getD]
    exact (keep _ _ _ (hres2 (i - ps.length) (by omega))).mono hB
end Go.Proofs.Ythbiclpifeobkaa
