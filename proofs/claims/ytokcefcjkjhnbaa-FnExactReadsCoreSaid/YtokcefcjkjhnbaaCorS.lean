/-
  Both SlotsOfs: one more than the greatest slot.
-/
import Derived.Test.YtokcefcjkjhnbaaCorG
import Derived.Test.YtokcefcjkjhnbaaCorF
import Derived.Test.YtokcefcjkjhnbaaTreH
namespace Go.Proofs.Ytokcefcjkjhnbaa
open Go.RowKit
set_option linter.unusedVariables false
set_option linter.unusedSimpArgs false


namespace Co
def binder (n : Co) : Bool := n.op == 14 || n.op == 13
def slots (l : List Co) : Nat → Int
  | 0 => 0
  | k + 1 => if binder (l.getD k zero) = true then max (slots l k) ((l.getD k zero).num + 1) else slots l k
def slotsOut (l : List Co) : Int × Int := if fault l ≠ 0 then (fault l, 0) else (0, slots l l.length)
theorem fault_parts {l : List Co} (h : fault l = 0) : l.length ≤ 900 ∧ nf l l.length = 0 := by
  unfold fault at h
  split at h
  · cases h
  split at h
  · rename_i h2; exact absurd h h2
  · rename_i h1 h2; exact ⟨by omega, by simpa using h2⟩
theorem num_bd {l : List Co} (h : nf l l.length = 0) {i : Nat} (hi : i < l.length) : 0 ≤ (l.getD i zero).num ∧ (l.getD i zero).num ≤ 59 := by
  have hp := (node_parts (nf_all h i hi)).2.2.2
  have h1 : 0 ≤ low (l.getD i zero).op := by unfold low; split <;> omega
  have h2 : high (l.getD i zero).op ≤ 59 := by unfold high; split <;> (try split) <;> (try split) <;> omega
  omega
end Co
end Go.Proofs.Ytokcefcjkjhnbaa
