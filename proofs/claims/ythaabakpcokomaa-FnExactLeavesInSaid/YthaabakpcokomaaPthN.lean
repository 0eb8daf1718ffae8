/-
  spec.l13SetIndex.
  impl.setSteps by induction on the steps.
  spec.l13Set by induction on the steps.
  impl.SetPath and spec.SetPath, whole.
-/
import Derived.Test.YthaabakpcokomaaPthE
import Derived.Test.YthaabakpcokomaaSetS
namespace Go.Proofs.Ythaabakpcokomaa
open Go.RowKit
set_option linter.unusedVariables false
set_option linter.unusedSimpArgs false

/-- The slice from a on holds the steps, each as a list of its own. -/
def Pth.PL (w : World) (a : Option Addr) (cs : List M.Cl) : Prop := cs = [] ∨ ∃ g o, a = some ⟨g, o, none⟩ ∧ g < w.heap.size ∧ ∀ i, i < cs.length → ∃ b off c, w.cell? ⟨g, o + i, none⟩ = some (.slice (some ⟨b, off, none⟩) 1 c) ∧ 1 ≤ c ∧ b < w.heap.size ∧ Row w b off [cs.getD i M.zero]
theorem Pth.PL.below {w w' : World} {B : Nat} {a : Option Addr} {cs : List M.Cl} (h : Pth.PL w a cs) (hb : Below w.heap.size w w') : Pth.PL w' a cs := by
  rcases h with h | ⟨g, o, rfl, h1, h2⟩
  · exact .inl h
  · refine .inr ⟨g, o, rfl, Nat.lt_of_lt_of_le h1 hb.size, fun i hi => ?_⟩
    obtain ⟨b, off, c, q1, q2, q3, q4⟩ := h2 i hi
    exact ⟨b, off, c, (hb.cell h1).trans q1, q2, Nat.lt_of_lt_of_le q3 hb.size, q4.below hb q3⟩
end Go.Proofs.Ythaabakpcokomaa

namespace Go.Proofs.Ythaabakpcokomaa
open Go.RowKit
set_option linter.unusedVariables false
set_option linter.unusedSimpArgs false

/-- A store: what is held in slots stays. -/
theorem Z.same {P : Program} {ops : Array Oper} {Q : Exit → Act → World → Prop} {md : Region.Mode} {S : World → Prop} {z i : Nat} {oi : Oper} {fuel : Nat} {listed : Array Bool} {a : Act} {w w' : World} {rs : List Nat} (hi : ops[i]? = some oi)
    (hw : Region.wanted oi (yielded ops a.tmps) = true) (hrun : ∀ K : Act → World → Prop, Shut (K a w') → Oper.wp P oi a w K Q) (hS : i ≠ z → S w')
    (h : Z.any P md ops Q S z fuel (listed.setIfInBounds i true) a w') (hs : Z.All P md ops Q S z fuel listed a w rs) : Z.All P md ops Q S z fuel listed a w (i :: rs) := Z.run_cons hi hw hrun hS h hs
/-- What is left of steps behind the first lies where the slice of it begins. -/
theorem Pth.sliced_tail {w : World} {b' o cap' : Nat} {c : M.Cl} {cs : List M.Cl} (hrow' : Row w b' o (c :: cs)) (hcap' : cs.length + 1 ≤ cap') : ∃ o', Row w b' o' cs ∧ (1 < cap' → o' = o + 5) ∧ (cap' = 1 → o' = o) := by
  have h1 := hrow'.tail
  simp only [List.drop_succ_cons, List.drop_zero] at h1
  by_cases e : cap' = 1
  · have : cs = [] := List.length_eq_zero_iff.1 (by omega)
    subst this
    exact ⟨o, Row.none _ _ _, fun h => by omega, fun _ => rfl⟩
  · exact ⟨o + 5, h1, fun _ => rfl, fun h => absurd h e⟩

end Go.Proofs.Ythaabakpcokomaa

namespace Go.Proofs.Ythaabakpcokomaa
open Go.RowKit
set_option linter.unusedVariables false
set_option linter.unusedSimpArgs false

/-- What is left of the parts behind the first lies where the slice of it begins. -/
theorem Pth.pl_tail {w : World} {a : Option Addr} {cap' : Nat} {c : M.Cl} {cs : List M.Cl} (h : Pth.PL w a (c :: cs)) (hcap' : cs.length + 1 ≤ cap') : ∃ g o o' b off k, a = some ⟨g, o, none⟩ ∧ g < w.heap.size ∧ w.cell? ⟨g, o, none⟩ = some (.slice (some ⟨b, off, none⟩) 1 k) ∧ 1 ≤ k ∧ b < w.heap.size ∧ Row w b off [c] ∧ Pth.PL w (some ⟨g, o', none⟩) cs ∧ (1 < cap' → o' = o + 1) ∧ (cap' = 1 → o' = o) := by
  rcases h with h | ⟨g, o, rfl, h1, h2⟩
  · cases h
  obtain ⟨b, off, k, q1, q2, q3, q4⟩ := h2 0 (by simp)
  rw [List.getD_cons_zero] at q4
  by_cases e : cap' = 1
  · have : cs = [] := List.length_eq_zero_iff.1 (by omega)
    subst this
    exact ⟨g, o, o, b, off, k, rfl, h1, q1, q2, q3, q4, .inl rfl, fun h => by omega, fun _ => rfl⟩
  · refine ⟨g, o, o + 1, b, off, k, rfl, h1, q1, q2, q3, q4, .inr ⟨g, o + 1, rfl, h1, fun i hi => ?_⟩, fun _ => rfl, fun h => absurd h e⟩
    have := h2 (i + 1) (by simp; omega)
    rw [List.getD_cons_succ, show o + (i + 1) = o + 1 + i by omega] at this
    exact this

end Go.Proofs.Ythaabakpcokomaa

namespace Go.Proofs.Ythaabakpcokomaa
open Go.RowKit
set_option linter.unusedVariables false
set_option linter.unusedSimpArgs false

theorem Pth.pl_of {w : World} {a : Option Addr} {ps : List (List M.Cl)} {cs : List M.Cl} (hpl : ps.length = cs.length) (hps : ∀ j, j < cs.length → ps.getD j [] = [cs.getD j M.zero]) (h : LV w a ps) : Pth.PL w a cs := by
  cases cs with
  | nil => exact .inl rfl
  | cons c cs =>
    obtain ⟨g, _, _, _, rfl, hg, _⟩ := h 0 (by rw [hpl]; simp)
    refine .inr ⟨g, 0, rfl, hg, fun i hi => ?_⟩
    obtain ⟨g', b, off, k, e, h1, h2, h3, h4, h5⟩ := h i (by rw [hpl]; exact hi)
    rw [hps i hi] at h2 h3 h5
    simp only [Option.some.injEq, Addr.mk.injEq, and_true] at e
    subst e
    rw [Nat.zero_add]
    exact ⟨b, off, k, h2, h3, h4, h5⟩

end Go.Proofs.Ythaabakpcokomaa
