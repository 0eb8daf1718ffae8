/-
  An object of members: what both ObjectValue answer, as a plain function of keys and lists.
  A place put in among places that stand, by its index; rows of names and of values; an append at a step of a region that draws its order.
-/
import Derived.Test.YthaabakpcokomaaQ18
import Derived.Test.YthaabakpcokomaaQ22
import Derived.Deep.AppendLies
import Derived.Deep.RegionHeldLaw
import Derived.Maps.AppendAt
namespace Go.Proofs.Ythaabakpcokomaa
open Go.RowKit
set_option linter.unusedVariables false

end Go.Proofs.Ythaabakpcokomaa

namespace Go.Proofs.Ythaabakpcokomaa
open Go.RowKit
set_option linter.unusedVariables false

def namesV (ks : List ByteArray) (L : List Nat) : List Value := L.map fun p => Value.string (ks.getD p ByteArray.empty)
def valsV (lv : Nat → Value) (L : List Nat) : List Value := L.map lv
theorem owns_empty5 (wr : World) (T : TypeId) : (wr.alloc (.cells #[] T)).ownsRow wr.heap.size T 5 (.slice (some ⟨wr.heap.size, 0, none⟩) 0 0) 0 [] :=
  ⟨rfl, .inr ⟨wr.heap.size, 0, #[], rfl, Nat.le_refl _, heap_alloc_new _ _, Nat.le_refl _, by unfold maxLen; omega, rfl, rfl⟩⟩
section
variable {P : Program} (w : World)
end
end Go.Proofs.Ythaabakpcokomaa
