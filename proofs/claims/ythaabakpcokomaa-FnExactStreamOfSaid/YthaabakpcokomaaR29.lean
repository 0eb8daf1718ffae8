/-
  spec.l13SetIndex.
  impl.setSteps by induction on the steps.
  spec.l13Set by induction on the steps.
  impl.SetPath and spec.SetPath, whole.
-/
import Derived.Test.YthaabakpcokomaaR03
import Derived.Test.YthaabakpcokomaaR18
import Derived.Test.YthaabakpcokomaaR19
import Derived.Test.YthaabakpcokomaaR20
import Derived.Test.YthaabakpcokomaaR21
import Derived.Test.YthaabakpcokomaaR22
import Derived.Test.YthaabakpcokomaaR23
import Derived.Test.YthaabakpcokomaaR27
import Derived.BigQuiet
import Derived.BigRegion
import Derived.Deep.AppendLies
import Derived.Deep.DeepCutAuto
import Derived.Deep.LoopGhost
import Derived.Deep.QuietTactic
import Derived.Deep.RegionHeldLaw
import Derived.Deep.Slices
import Derived.Lib.Bytealg
import Derived.Maps.AppendAt
import Derived.RegionTactic
namespace Go.Proofs.Ythaabakpcokomaa
open Go.RowKit
set_option linter.unusedVariables false
set_option linter.unusedSimpArgs false

/-- The slice from a on holds the steps, each as a list of its own. -/
def Pth.PL (w : World) (a : Option Addr) (cs : List M.Cl) : Prop := cs = [] ∨ ∃ g o, a = some ⟨g, o, none⟩ ∧ g < w.heap.size ∧ ∀ i, i < cs.length → ∃ b off c, w.cell? ⟨g, o + i, none⟩ = some (.slice (some ⟨b, off, none⟩) 1 c) ∧ 1 ≤ c ∧ b < w.heap.size ∧ Row w b off [cs.getD i M.zero]
end Go.Proofs.Ythaabakpcokomaa

namespace Go.Proofs.Ythaabakpcokomaa
open Go.RowKit
set_option linter.unusedVariables false
set_option linter.unusedSimpArgs false

end Go.Proofs.Ythaabakpcokomaa

namespace Go.Proofs.Ythaabakpcokomaa
open Go.RowKit
set_option linter.unusedVariables false
set_option linter.unusedSimpArgs false

end Go.Proofs.Ythaabakpcokomaa

namespace Go.Proofs.Ythaabakpcokomaa
open Go.RowKit
set_option linter.unusedVariables false
set_option linter.unusedSimpArgs false

end Go.Proofs.Ythaabakpcokomaa
