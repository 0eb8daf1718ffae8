/-
  A part of a value by itself: spec.l1Part, spec.PartAt and impl.PartAt.
-/
import Derived.Test.YthbiclpifeobkaaQ08
import Derived.Test.YthbiclpifeobkaaQ16
namespace Go.Proofs.Ythbiclpifeobkaa
open Go.RowKit
set_option linter.unusedVariables false

/-- The cells of the value at a place. -/
def cut (v : List M.Cl) (a e : Nat) : List M.Cl := (v.drop a).take (e - a)
theorem cut_length (v : List M.Cl) (a e : Nat) (h : e ≤ v.length) : (cut v a e).length = e - a := by unfold cut; rw [List.length_take, List.length_drop]; omega
theorem cut_getD (v : List M.Cl) (a e i : Nat) (hi : i < e - a) : (cut v a e).getD i M.zero = v.getD (a + i) M.zero := by
  unfold cut; rw [List.getD_eq_getElem?_getD, List.getD_eq_getElem?_getD, List.getElem?_take, if_pos hi, List.getElem?_drop]
/-- The part at a place, its first cell without a key. -/
def part (v : List M.Cl) (a : Nat) : List M.Cl := setKey (cut v a (M.endOf v a)) ByteArray.empty

end Go.Proofs.Ythbiclpifeobkaa
