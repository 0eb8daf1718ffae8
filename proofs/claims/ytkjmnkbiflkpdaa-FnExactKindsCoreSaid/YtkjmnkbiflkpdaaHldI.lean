/-
  impl.isHeld, with the question that isBound asks.
-/
import Derived.Test.YtkjmnkbiflkpdaaScoM
import Derived.Test.YtkjmnkbiflkpdaaTreI
import Derived.Deep.QuietTactic
import Derived.BigQuiet
namespace Go.Proofs.Ytkjmnkbiflkpdaa
open Go.RowKit
set_option linter.unusedVariables false
set_option linter.unusedSimpArgs false


end Go.Proofs.Ytkjmnkbiflkpdaa
