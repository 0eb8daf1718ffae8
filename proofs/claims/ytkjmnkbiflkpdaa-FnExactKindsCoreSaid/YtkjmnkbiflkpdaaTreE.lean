/-
  spec.l5Node tells the code of a node.
-/
import Derived.Test.YtkjmnkbiflkpdaaTreD
import Derived.Test.YtkjmnkbiflkpdaaNdM
import Derived.Deep.LoopGhost
namespace Go.Proofs.Ytkjmnkbiflkpdaa
open Go.RowKit
set_option linter.unusedVariables false
set_option linter.unusedSimpArgs false


end Go.Proofs.Ytkjmnkbiflkpdaa
