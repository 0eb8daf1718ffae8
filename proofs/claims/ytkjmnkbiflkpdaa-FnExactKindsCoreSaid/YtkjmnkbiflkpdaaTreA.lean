/-
  impl.shapeOf: what a node names, by its op; impl.isFreeName.
-/
import Derived.Test.YtkjmnkbiflkpdaaTreM
import Derived.Test.YtkjmnkbiflkpdaaText
import Derived.Laws.EntriesVeiled
namespace Go.Proofs.Ytkjmnkbiflkpdaa
open Go.RowKit
set_option linter.unusedVariables false
set_option linter.unusedSimpArgs false

end Go.Proofs.Ytkjmnkbiflkpdaa
