/-
  spec.l13SetIndex.
  impl.setSteps by induction on the steps.
  spec.l13Set by induction on the steps.
  impl.SetPath and spec.SetPath, whole.
-/
import Derived.Test.YtlbmpldknfcfhaaDoorU19
import Derived.Test.YtlbmpldknfcfhaaDoorU20
import Derived.Test.YtlbmpldknfcfhaaDoorU22
import Derived.Test.YtlbmpldknfcfhaaDoorU23
import Derived.Test.YtlbmpldknfcfhaaDoorU24
import Derived.Test.YtlbmpldknfcfhaaDoorU29
namespace Go.Proofs.YtlbmpldknfcfhaaDoor
open Go.RowKit
set_option linter.unusedVariables false
set_option linter.unusedSimpArgs false

/-- The slice from a on holds the steps, each as a list of its own. -/
def Pth.PL (w : World) (a : Option Addr) (cs : List M.Cl) : Prop := cs = [] ∨ ∃ g o, a = some ⟨g, o, none⟩ ∧ g < w.heap.size ∧ ∀ i, i < cs.length → ∃ b off c, w.cell? ⟨g, o + i, none⟩ = some (.slice (some ⟨b, off, none⟩) 1 c) ∧ 1 ≤ c ∧ b < w.heap.size ∧ Row w b off [cs.getD i M.zero]
theorem Pth.PL.below {w w' : World} {B : Nat} {a : Option Addr} {cs : List M.Cl} (h : Pth.PL w a cs) (hb : Below w.heap.size w w') : Pth.PL w' a cs := by
  rcases h with h | ⟨g, o, rfl, h1, h2⟩
  · exact .inl h
  · refine .inr ⟨g, o, rfl, Nat.lt_of_lt_of_le h1 hb.size, fun i hi => ?_⟩
    obtain ⟨b, off, c, q1, q2, q3, q4⟩ := h2 i hi
    exact ⟨b, off, c, (hb.cell h1).trans q1, q2, Nat.lt_of_lt_of_le q3 hb.size, q4.below hb q3⟩
end Go.Proofs.YtlbmpldknfcfhaaDoor

namespace Go.Proofs.YtlbmpldknfcfhaaDoor
open Go.RowKit
set_option linter.unusedVariables false
set_option linter.unusedSimpArgs false

end Go.Proofs.YtlbmpldknfcfhaaDoor

namespace Go.Proofs.YtlbmpldknfcfhaaDoor
open Go.RowKit
set_option linter.unusedVariables false
set_option linter.unusedSimpArgs false

end Go.Proofs.YtlbmpldknfcfhaaDoor

namespace Go.Proofs.YtlbmpldknfcfhaaDoor
open Go.RowKit
set_option linter.unusedVariables false
set_option linter.unusedSimpArgs false

end Go.Proofs.YtlbmpldknfcfhaaDoor
