/-
  impl.walkValue: by induction on how many cells there are behind a place.
-/
import Derived.Test.YtepfdlbnnkojbaaGreatDoorShape
import Derived.Deep.LoopGhost
namespace Go.Proofs.YtepfdlbnnkojbaaGreatDoor
open Go.RowKit
set_option linter.unusedVariables false

/-- What impl.walkValue answers. -/
def wkOut (r : Option (Nat × Nat)) : Value := match r with | none => .agg #[.int .i64 0, .int .i64 0, .bool false] | some (e, d) => .agg #[.int .i64 e, .int .i64 d, .bool true]

theorem wk_none (v : List M.Cl) (f at' : Nat) (c : M.Cl) (K : Option (Nat × Nat)) (h1 : M.walk v (f + 1) at' = (M.kids (M.walk v f) v c c.n.toNat 0 (at' + 1) 0 ByteArray.empty).map fun r => (r.1, r.2 + 1))
    (h2 : M.kids (M.walk v f) v c c.n.toNat 0 (at' + 1) 0 ByteArray.empty = K) (h3 : K = none) : wkOut (M.walk v (f + 1) at') = .agg #[.int .i64 0, .int .i64 0, .bool false] := by rw [h1, h2, h3]; rfl
theorem wk_some (v : List M.Cl) (f at' e d : Nat) (c : M.Cl) (K : Option (Nat × Nat)) (h1 : M.walk v (f + 1) at' = (M.kids (M.walk v f) v c c.n.toNat 0 (at' + 1) 0 ByteArray.empty).map fun r => (r.1, r.2 + 1))
    (h2 : M.kids (M.walk v f) v c c.n.toNat 0 (at' + 1) 0 ByteArray.empty = K) (h3 : K = some (e, d)) : wkOut (M.walk v (f + 1) at') = .agg #[.int .i64 e, .int .i64 ((d : Int) + 1), .bool true] := by rw [h1, h2, h3]; rfl

end Go.Proofs.YtepfdlbnnkojbaaGreatDoor
