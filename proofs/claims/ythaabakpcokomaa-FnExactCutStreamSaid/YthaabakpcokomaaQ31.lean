/-
  spec.l13SetIndex.
  impl.setSteps by induction on the steps.
  spec.l13Set by induction on the steps.
  impl.SetPath and spec.SetPath, whole.
-/
import Derived.Test.YthaabakpcokomaaQ20
import Derived.Test.YthaabakpcokomaaQ21
import Derived.Test.YthaabakpcokomaaQ22
import Derived.Test.YthaabakpcokomaaQ28
import Derived.Test.YthaabakpcokomaaQ29
namespace Go.Proofs.Ythaabakpcokomaa
open Go.RowKit
set_option linter.unusedVariables false
set_option linter.unusedSimpArgs false

/-- The slice from a on holds the steps, each as a list of its own. -/
def Pth.PL (w : World) (a : Option Addr) (cs : List M.Cl) : Prop := cs = [] ∨ ∃ g o, a = some ⟨g, o, none⟩ ∧ g < w.heap.size ∧ ∀ i, i < cs.length → ∃ b off c, w.cell? ⟨g, o + i, none⟩ = some (.slice (some ⟨b, off, none⟩) 1 c) ∧ 1 ≤ c ∧ b < w.heap.size ∧ Row w b off [cs.getD i M.zero]
end Go.Proofs.Ythaabakpcokomaa

namespace Go.Proofs.Ythaabakpcokomaa
open Go.RowKit
set_option linter.unusedVariables false
set_option linter.unusedSimpArgs false

end Go.Proofs.Ythaabakpcokomaa

namespace Go.Proofs.Ythaabakpcokomaa
open Go.RowKit
set_option linter.unusedVariables false
set_option linter.unusedSimpArgs false

end Go.Proofs.Ythaabakpcokomaa

namespace Go.Proofs.Ythaabakpcokomaa
open Go.RowKit
set_option linter.unusedVariables false
set_option linter.unusedSimpArgs false

theorem Pth.pl_of {w : World} {a : Option Addr} {ps : List (List M.Cl)} {cs : List M.Cl} (hpl : ps.length = cs.length) (hps : ∀ j, j < cs.length → ps.getD j [] = [cs.getD j M.zero]) (h : LV w a ps) : Pth.PL w a cs := by
  cases cs with
  | nil => exact .inl rfl
  | cons c cs =>
    obtain ⟨g, _, _, _, rfl, hg, _⟩ := h 0 (by rw [hpl]; simp)
    refine .inr ⟨g, 0, rfl, hg, fun i hi => ?_⟩
    obtain ⟨g', b, off, k, e, h1, h2, h3, h4, h5⟩ := h i (by rw [hpl]; exact hi)
    rw [hps i hi] at h2 h3 h5
    simp only [Option.some.injEq, Addr.mk.injEq, and_true] at e
    subst e
    rw [Nat.zero_add]
    exact ⟨b, off, k, h2, h3, h4, h5⟩

end Go.Proofs.Ythaabakpcokomaa
