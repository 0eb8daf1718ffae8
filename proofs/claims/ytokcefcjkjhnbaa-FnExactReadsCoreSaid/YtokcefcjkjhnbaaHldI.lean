/-
  impl.isHeld, with the question that isBound asks.
-/
import Derived.Test.YtokcefcjkjhnbaaScoM
import Derived.Test.YtokcefcjkjhnbaaTreI
import Derived.Deep.QuietTactic
import Derived.BigQuiet
namespace Go.Proofs.Ytokcefcjkjhnbaa
open Go.RowKit
set_option linter.unusedVariables false
set_option linter.unusedSimpArgs false


end Go.Proofs.Ytokcefcjkjhnbaa
