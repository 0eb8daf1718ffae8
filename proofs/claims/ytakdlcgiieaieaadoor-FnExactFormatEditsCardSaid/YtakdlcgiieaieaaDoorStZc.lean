/-
  The library's merge of two sorted runs of places, in general.
-/
import Derived.Test.YtakdlcgiieaieaaDoorStZb
namespace Go.Proofs.YtakdlcgiieaieaaDoor
open Go.RowKit
set_option linter.unusedVariables false
set_option linter.unusedSimpArgs false

end Go.Proofs.YtakdlcgiieaieaaDoor
