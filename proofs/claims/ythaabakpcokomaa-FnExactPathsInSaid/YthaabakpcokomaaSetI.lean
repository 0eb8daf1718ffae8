/-
  impl.SetKey.
-/
import Derived.Test.YthaabakpcokomaaObj0
import Derived.Test.YthaabakpcokomaaObIV
import Derived.Test.YthaabakpcokomaaPrtI
namespace Go.Proofs.Ythaabakpcokomaa
open Go.RowKit
set_option linter.unusedVariables false

end Go.Proofs.Ythaabakpcokomaa
