/-
  spec.ArrayValue and impl.ArrayValue.
-/
import Derived.Test.YthaabakpcokomaaArrI
namespace Go.Proofs.Ythaabakpcokomaa
open Go.RowKit
set_option linter.unusedVariables false

end Go.Proofs.Ythaabakpcokomaa
