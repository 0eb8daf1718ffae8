/-
  The library's stable sort of a row of places, whole.
  impl.standingMembers tells the places that stand.
-/
import Derived.Test.YthaabakpcokomaaQ03
import Derived.Test.YthaabakpcokomaaQ18
import Derived.Test.YthaabakpcokomaaQ21
import Derived.BigQuiet
import Derived.BigRegion
import Derived.Deep.LoopGhost
import Derived.Deep.QuietTactic
import Derived.Lib.Bytealg
import Derived.RegionTactic
namespace Go.Proofs.Ythaabakpcokomaa
open Go.RowKit
set_option linter.unusedVariables false

end Go.Proofs.Ythaabakpcokomaa

namespace Go.Proofs.Ythaabakpcokomaa
open Go.RowKit
set_option linter.unusedVariables false

def natV (L : List Nat) : List Value := L.map fun p => Value.int .i64 (p : Nat)
theorem below_drewN {B : Nat} {a w : World} (h : Below B a w) (k : Nat) : Below B a (w.drewN k) := ⟨h.os, h.tape, h.output, h.size, h.block⟩
end Go.Proofs.Ythaabakpcokomaa
