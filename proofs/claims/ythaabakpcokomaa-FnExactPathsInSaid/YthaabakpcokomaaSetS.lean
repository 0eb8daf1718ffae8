/-
  spec.SetKey.
-/
import Derived.Test.YthaabakpcokomaaObj0
import Derived.Test.YthaabakpcokomaaObSV
namespace Go.Proofs.Ythaabakpcokomaa
open Go.RowKit
set_option linter.unusedVariables false

end Go.Proofs.Ythaabakpcokomaa
