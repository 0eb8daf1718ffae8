/-
  An object of members: what both ObjectValue answer, as a plain function of keys and lists.
  A place put in among places that stand, by its index; rows of names and of values; an append at a step of a region that draws its order.
-/
import Derived.Test.YtlbmpldknfcfhaaDoorW03
import Derived.Test.YtlbmpldknfcfhaaDoorW20
import Derived.BigQuiet
import Derived.BigRegion
import Derived.Deep.AppendLies
import Derived.Deep.LoopGhost
import Derived.Deep.QuietTactic
import Derived.Deep.RegionHeldLaw
import Derived.Lib.Bytealg
import Derived.Maps.AppendAt
import Derived.RegionTactic
import Derived.WalkKit
namespace Go.Proofs.YtlbmpldknfcfhaaDoor
open Go.RowKit
set_option linter.unusedVariables false

end Go.Proofs.YtlbmpldknfcfhaaDoor

namespace Go.Proofs.YtlbmpldknfcfhaaDoor
open Go.RowKit
set_option linter.unusedVariables false

def namesV (ks : List ByteArray) (L : List Nat) : List Value := L.map fun p => Value.string (ks.getD p ByteArray.empty)
def valsV (lv : Nat → Value) (L : List Nat) : List Value := L.map lv
section
variable {P : Program} (w : World)
end
end Go.Proofs.YtlbmpldknfcfhaaDoor
