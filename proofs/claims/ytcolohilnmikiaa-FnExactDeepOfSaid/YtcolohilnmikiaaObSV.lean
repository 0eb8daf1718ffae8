/-
  spec.l1Object of texts and lists that lie anywhere.
-/
import Derived.Test.YtcolohilnmikiaaObjN
import Derived.Test.YtcolohilnmikiaaLvT
import Derived.Deep.Slices
import Derived.RegionTactic
import Derived.BigRegion
import Derived.Deep.DeepCutAuto
namespace Go.Proofs.Ytcolohilnmikiaa
open Go.RowKit Go.WideShapes
set_option linter.unusedVariables false
set_option linter.unusedSimpArgs false

/-- What the loops of l1Object hold: two rows of the call's own, each in a block of its own. -/
structure Two (w wr : World) (ks : List ByteArray) (lv : Nat → Value) (L : List Nat) (s5 s6 : Value) (nb nc vb vc : Nat) : Prop where
  e5 : s5 = .slice (some ⟨nb, 0, none⟩) L.length nc
  e6 : s6 = .slice (some ⟨vb, 0, none⟩) L.length vc
  n : wr.ownsRow w.heap.size 9 1 (.slice (some ⟨nb, 0, none⟩) L.length nc) L.length (namesV ks L)
  v : wr.ownsRow w.heap.size 56 1 (.slice (some ⟨vb, 0, none⟩) L.length vc) L.length (valsV lv L)
  ne : nb ≠ vb
  b : Below w.heap.size w wr

theorem Two.drewN {w wr : World} {ks : List ByteArray} {lv : Nat → Value} {L : List Nat} {s5 s6 : Value} {nb nc vb vc : Nat} (h : Two w wr ks lv L s5 s6 nb nc vb vc) (q : Nat) : Two w (wr.drewN q) ks lv L s5 s6 nb nc vb vc :=
  ⟨h.e5, h.e6, h.n, h.v, h.ne, below_drewN h.b q⟩

theorem objV_nil : objV [] [] = [headCl 6 0] := rfl
end Go.Proofs.Ytcolohilnmikiaa
