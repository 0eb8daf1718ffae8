/-
  A part of a value by itself: spec.l1Part, spec.PartAt and impl.PartAt.
-/
import Derived.Test.YtokcefcjkjhnbaaAppendP
import Derived.Test.YtokcefcjkjhnbaaEndT
namespace Go.Proofs.Ytokcefcjkjhnbaa
open Go.RowKit
set_option linter.unusedVariables false

/-- The cells of the value at a place. -/
def cut (v : List M.Cl) (a e : Nat) : List M.Cl := (v.drop a).take (e - a)
theorem cut_length (v : List M.Cl) (a e : Nat) (h : e ≤ v.length) : (cut v a e).length = e - a := by unfold cut; rw [List.length_take, List.length_drop]; omega
theorem cut_getD (v : List M.Cl) (a e i : Nat) (hi : i < e - a) : (cut v a e).getD i M.zero = v.getD (a + i) M.zero := by
  unfold cut; rw [List.getD_eq_getElem?_getD, List.getD_eq_getElem?_getD, List.getElem?_take, if_pos hi, List.getElem?_drop]
theorem Row.cut {w : World} {b off : Nat} {v : List M.Cl} (h : Row w b off v) (a e : Nat) (he : e ≤ v.length) : Row w b (off + a * 5) (cut v a e) := by
  intro i hi
  rw [cut_length v a e he] at hi
  rw [cut_getD v a e i hi]
  have := h (a + i) (by omega)
  rwa [show off + (a + i) * 5 = off + a * 5 + i * 5 from by omega] at this

/-- The part at a place, its first cell without a key. -/
def part (v : List M.Cl) (a : Nat) : List M.Cl := setKey (cut v a (M.endOf v a)) ByteArray.empty

end Go.Proofs.Ytokcefcjkjhnbaa
