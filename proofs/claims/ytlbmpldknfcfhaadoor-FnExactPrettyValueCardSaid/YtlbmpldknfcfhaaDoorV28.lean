/-
  spec.LengthOf and impl.LengthOf.
  spec.GetAt and impl.GetAt.
-/
import Derived.Test.YtlbmpldknfcfhaaDoorV14
import Derived.Test.YtlbmpldknfcfhaaDoorV19
import Derived.Test.YtlbmpldknfcfhaaDoorV21
import Derived.Test.YtlbmpldknfcfhaaDoorV27
namespace Go.Proofs.YtlbmpldknfcfhaaDoor
open Go.RowKit
set_option linter.unusedVariables false

/-- The size of a number. -/
def size (n : Int) : Int := if n < 0 then -n else n
end Go.Proofs.YtlbmpldknfcfhaaDoor

namespace Go.Proofs.YtlbmpldknfcfhaaDoor
open Go.RowKit
set_option linter.unusedVariables false

end Go.Proofs.YtlbmpldknfcfhaaDoor
