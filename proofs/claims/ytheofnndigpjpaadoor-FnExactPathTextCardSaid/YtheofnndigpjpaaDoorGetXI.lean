/-
  impl.GetIndex.
-/
import Derived.Test.YtheofnndigpjpaaDoorGetX
namespace Go.Proofs.YtheofnndigpjpaaDoor
open Go.RowKit
set_option linter.unusedVariables false

end Go.Proofs.YtheofnndigpjpaaDoor
