/-
  The library's merge of two sorted runs of places, in general.
-/
import Derived.Test.YtcolohilnmikiaaStZb
namespace Go.Proofs.Ytcolohilnmikiaa
open Go.RowKit
set_option linter.unusedVariables false
set_option linter.unusedSimpArgs false

end Go.Proofs.Ytcolohilnmikiaa
