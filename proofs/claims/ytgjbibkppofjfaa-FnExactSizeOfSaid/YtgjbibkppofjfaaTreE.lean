/-
  spec.l5Node tells the code of a node.
-/
import Derived.Test.YtgjbibkppofjfaaTreD
import Derived.Test.YtgjbibkppofjfaaNdM
import Derived.Deep.LoopGhost
namespace Go.Proofs.Ytgjbibkppofjfaa
open Go.RowKit
set_option linter.unusedVariables false
set_option linter.unusedSimpArgs false


end Go.Proofs.Ytgjbibkppofjfaa
