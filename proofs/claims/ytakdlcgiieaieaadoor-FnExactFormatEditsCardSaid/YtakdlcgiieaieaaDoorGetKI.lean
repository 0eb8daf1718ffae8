/-
  impl.GetKey.
-/
import Derived.Test.YtakdlcgiieaieaaDoorGetK
namespace Go.Proofs.YtakdlcgiieaieaaDoor
open Go.RowKit
set_option linter.unusedVariables false

end Go.Proofs.YtakdlcgiieaieaaDoor
