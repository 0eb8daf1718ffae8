/-
  How many cells lists of cells have together, and what the readers of such lists are told.
  An array of values: what both ArrayValue answer, as a plain function of the lists.
  spec.ArrayValue.
-/
import Derived.Test.YtlbmpldknfcfhaaDoorV00
import Derived.Test.YtlbmpldknfcfhaaDoorV05
import Derived.Test.YtlbmpldknfcfhaaDoorV11
import Derived.Test.YtlbmpldknfcfhaaDoorV12
namespace Go.Proofs.YtlbmpldknfcfhaaDoor
open Go.RowKit
set_option linter.unusedVariables false

end Go.Proofs.YtlbmpldknfcfhaaDoor

namespace Go.Proofs.YtlbmpldknfcfhaaDoor
open Go.RowKit
set_option linter.unusedVariables false

theorem empty_list : ByteArray.empty.toList = [] := by unfold ByteArray.toList ByteArray.toList.loop; rfl
theorem fault_key {v : List M.Cl} (h : M.valueFault v = 0) : (v.getD 0 M.zero).key = ByteArray.empty := by
  refine bytes_ext ?_
  rw [empty_list]
  unfold M.valueFault at h
  split at h
  · cases h
  split at h
  · rename_i h2; exact absurd h h2
  split at h
  · cases h
  split at h
  · cases h
  · rename_i h2
    by_cases e : (v.getD 0 M.zero).key.toList = []
    · exact e
    · exact absurd (.inr e) h2
theorem fault_len {v : List M.Cl} (h : M.valueFault v = 0) : 1 ≤ v.length ∧ v.length ≤ 200 := ⟨(M.fault_zero h).1, (M.fault_zero h).2.1⟩
theorem setKey_none {v : List M.Cl} (h : M.valueFault v = 0) : setKey v ByteArray.empty = v := by
  have hk := fault_key h
  have hl := (fault_len h).1
  cases v with
  | nil => simp at hl
  | cons c r =>
    simp only [List.getD_cons_zero] at hk
    unfold setKey
    rw [← hk]

def told (l : List M.Cl) : Int × List M.Cl := if M.valueFault l = 0 then (0, l) else (M.valueFault l, [])
end Go.Proofs.YtlbmpldknfcfhaaDoor

namespace Go.Proofs.YtlbmpldknfcfhaaDoor
open Go.RowKit
set_option linter.unusedVariables false

end Go.Proofs.YtlbmpldknfcfhaaDoor
