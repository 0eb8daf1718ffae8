/-
  impl.isHeld, with the question that isBound asks.
-/
import Derived.Test.YtgjbibkppofjfaaScoM
import Derived.Test.YtgjbibkppofjfaaTreI
import Derived.Deep.QuietTactic
import Derived.BigQuiet
namespace Go.Proofs.Ytgjbibkppofjfaa
open Go.RowKit
set_option linter.unusedVariables false
set_option linter.unusedSimpArgs false


end Go.Proofs.Ytgjbibkppofjfaa
