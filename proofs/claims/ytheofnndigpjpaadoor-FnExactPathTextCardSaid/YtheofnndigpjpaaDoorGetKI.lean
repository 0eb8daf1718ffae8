/-
  impl.GetKey.
-/
import Derived.Test.YtheofnndigpjpaaDoorGetK
namespace Go.Proofs.YtheofnndigpjpaaDoor
open Go.RowKit
set_option linter.unusedVariables false

end Go.Proofs.YtheofnndigpjpaaDoor
