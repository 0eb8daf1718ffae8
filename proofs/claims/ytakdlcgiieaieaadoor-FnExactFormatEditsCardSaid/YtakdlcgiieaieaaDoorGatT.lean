/-
  spec.GetAt and impl.GetAt.
-/
import Derived.Test.YtakdlcgiieaieaaDoorGetKI
import Derived.Test.YtakdlcgiieaieaaDoorGetXI
import Derived.Test.YtakdlcgiieaieaaDoorBoth
import Derived.Test.YtakdlcgiieaieaaDoorLenT
namespace Go.Proofs.YtakdlcgiieaieaaDoor
open Go.RowKit
set_option linter.unusedVariables false

def atIn (v : List M.Cl) (c : M.Cl) : Int × List M.Cl := if c.kind = 4 then getOut v c.text else if c.kind = 3 then idxOut v c.num else (6, [])
def gaOut (v u : List M.Cl) : Int × List M.Cl := if bothOut v u ≠ 0 then (bothOut v u, []) else atIn v (u.getD 0 M.zero)
theorem ga_bad {v u : List M.Cl} (h : bothOut v u ≠ 0) : gaOut v u = (bothOut v u, []) := if_pos h
theorem ga_ok {v u : List M.Cl} (h : bothOut v u = 0) : gaOut v u = atIn v (u.getD 0 M.zero) := by unfold gaOut; rw [if_neg (by simp [h])]
theorem at_4 {v : List M.Cl} {c : M.Cl} (h : c.kind = 4) : atIn v c = getOut v c.text := if_pos h
theorem at_3 {v : List M.Cl} {c : M.Cl} (h : c.kind = 3) : atIn v c = idxOut v c.num := by unfold atIn; rw [if_neg (by omega), if_pos h]
theorem at_no {v : List M.Cl} {c : M.Cl} (h4 : c.kind ≠ 4) (h3 : c.kind ≠ 3) : atIn v c = (6, []) := by unfold atIn; rw [if_neg h4, if_neg h3]

end Go.Proofs.YtakdlcgiieaieaaDoor
