/-
  impl.isHeld, with the question that isBound asks.
-/
import Derived.Test.YtcolohilnmikiaaDoorScoM
import Derived.Test.YtcolohilnmikiaaDoorTreI
import Derived.Deep.QuietTactic
import Derived.BigQuiet
namespace Go.Proofs.YtcolohilnmikiaaDoor
open Go.RowKit
set_option linter.unusedVariables false
set_option linter.unusedSimpArgs false


end Go.Proofs.YtcolohilnmikiaaDoor
