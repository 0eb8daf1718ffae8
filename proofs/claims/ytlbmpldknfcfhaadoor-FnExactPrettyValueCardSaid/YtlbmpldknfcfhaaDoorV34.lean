/-
  spec.l1Object of texts and lists that lie anywhere.
-/
import Derived.Test.YtlbmpldknfcfhaaDoorV21
import Derived.Test.YtlbmpldknfcfhaaDoorV26
import Derived.BigRegion
import Derived.Deep.DeepCutAuto
import Derived.Deep.Slices
import Derived.RegionTactic
namespace Go.Proofs.YtlbmpldknfcfhaaDoor
open Go.RowKit Go.WideShapes
set_option linter.unusedVariables false
set_option linter.unusedSimpArgs false

/-- What the loops of l1Object hold: two rows of the call's own, each in a block of its own. -/
structure Two (w wr : World) (ks : List ByteArray) (lv : Nat → Value) (L : List Nat) (s5 s6 : Value) (nb nc vb vc : Nat) : Prop where
  e5 : s5 = .slice (some ⟨nb, 0, none⟩) L.length nc
  e6 : s6 = .slice (some ⟨vb, 0, none⟩) L.length vc
  n : wr.ownsRow w.heap.size 9 1 (.slice (some ⟨nb, 0, none⟩) L.length nc) L.length (namesV ks L)
  v : wr.ownsRow w.heap.size 27 1 (.slice (some ⟨vb, 0, none⟩) L.length vc) L.length (valsV lv L)
  ne : nb ≠ vb
  b : Below w.heap.size w wr

end Go.Proofs.YtlbmpldknfcfhaaDoor
