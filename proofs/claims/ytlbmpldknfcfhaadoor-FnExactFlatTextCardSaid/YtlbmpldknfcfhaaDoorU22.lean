/-
  The library's stable sort of a row of places, whole.
  impl.standingMembers tells the places that stand.
  An object of members: what both ObjectValue answer, as a plain function of keys and lists.
  A place put in among places that stand, by its index; rows of names and of values; an append at a step of a region that draws its order.
  spec.l1Object of texts and lists that lie anywhere.
-/
import Derived.Test.YtlbmpldknfcfhaaDoorU03
import Derived.Test.YtlbmpldknfcfhaaDoorU17
import Derived.Test.YtlbmpldknfcfhaaDoorU18
import Derived.Test.YtlbmpldknfcfhaaDoorU20
import Derived.BigQuiet
import Derived.BigRegion
import Derived.Deep.AppendLies
import Derived.Deep.DeepCutAuto
import Derived.Deep.LoopGhost
import Derived.Deep.QuietTactic
import Derived.Deep.RegionHeldLaw
import Derived.Deep.Slices
import Derived.Lib.Bytealg
import Derived.Maps.AppendAt
import Derived.RegionTactic
namespace Go.Proofs.YtlbmpldknfcfhaaDoor
open Go.RowKit
set_option linter.unusedVariables false

end Go.Proofs.YtlbmpldknfcfhaaDoor

namespace Go.Proofs.YtlbmpldknfcfhaaDoor
open Go.RowKit
set_option linter.unusedVariables false

def natV (L : List Nat) : List Value := L.map fun p => Value.int .i64 (p : Nat)
end Go.Proofs.YtlbmpldknfcfhaaDoor

namespace Go.Proofs.YtlbmpldknfcfhaaDoor
open Go.RowKit
set_option linter.unusedVariables false

end Go.Proofs.YtlbmpldknfcfhaaDoor

namespace Go.Proofs.YtlbmpldknfcfhaaDoor
open Go.RowKit
set_option linter.unusedVariables false

def namesV (ks : List ByteArray) (L : List Nat) : List Value := L.map fun p => Value.string (ks.getD p ByteArray.empty)
def valsV (lv : Nat → Value) (L : List Nat) : List Value := L.map lv
theorem owns_empty5 (wr : World) (T : TypeId) : (wr.alloc (.cells #[] T)).ownsRow wr.heap.size T 5 (.slice (some ⟨wr.heap.size, 0, none⟩) 0 0) 0 [] :=
  ⟨rfl, .inr ⟨wr.heap.size, 0, #[], rfl, Nat.le_refl _, heap_alloc_new _ _, Nat.le_refl _, by unfold maxLen; omega, rfl, rfl⟩⟩
section
variable {P : Program} (w : World)
end
end Go.Proofs.YtlbmpldknfcfhaaDoor

namespace Go.Proofs.YtlbmpldknfcfhaaDoor
open Go.RowKit Go.WideShapes
set_option linter.unusedVariables false
set_option linter.unusedSimpArgs false

/-- What the loops of l1Object hold: two rows of the call's own, each in a block of its own. -/
structure Two (w wr : World) (ks : List ByteArray) (lv : Nat → Value) (L : List Nat) (s5 s6 : Value) (nb nc vb vc : Nat) : Prop where
  e5 : s5 = .slice (some ⟨nb, 0, none⟩) L.length nc
  e6 : s6 = .slice (some ⟨vb, 0, none⟩) L.length vc
  n : wr.ownsRow w.heap.size 9 1 (.slice (some ⟨nb, 0, none⟩) L.length nc) L.length (namesV ks L)
  v : wr.ownsRow w.heap.size 27 1 (.slice (some ⟨vb, 0, none⟩) L.length vc) L.length (valsV lv L)
  ne : nb ≠ vb
  b : Below w.heap.size w wr

end Go.Proofs.YtlbmpldknfcfhaaDoor
