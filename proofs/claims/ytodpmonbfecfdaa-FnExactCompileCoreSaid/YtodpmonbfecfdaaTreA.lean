/-
  impl.shapeOf: what a node names, by its op; impl.isFreeName.
-/
import Derived.Test.YtodpmonbfecfdaaTreN
import Derived.Test.YtodpmonbfecfdaaText
import Derived.Laws.EntriesVeiled
namespace Go.Proofs.Ytodpmonbfecfdaa
open Go.RowKit
set_option linter.unusedVariables false
set_option linter.unusedSimpArgs false

end Go.Proofs.Ytodpmonbfecfdaa
