/-
  impl.shapeOf: what a node names, by its op; impl.isFreeName.
-/
import Derived.Test.YtgjbibkppofjfaaTreM
import Derived.Test.YtgjbibkppofjfaaText
import Derived.Laws.EntriesVeiled
namespace Go.Proofs.Ytgjbibkppofjfaa
open Go.RowKit
set_option linter.unusedVariables false
set_option linter.unusedSimpArgs false

end Go.Proofs.Ytgjbibkppofjfaa
