/-
  Lists of lists of cells and lists of texts, wherever their slices lie: what those are told that read them.
  Answers that tell a code and a value, and the small makers of them.
-/
import Derived.Test.YtlbmpldknfcfhaaDoorW07
import Derived.Test.YtlbmpldknfcfhaaDoorW15
import Derived.Test.YtlbmpldknfcfhaaDoorW19
import Derived.Test.YtlbmpldknfcfhaaDoorW20
namespace Go.Proofs.YtlbmpldknfcfhaaDoor
open Go.RowKit
set_option linter.unusedVariables false

theorem row_at {w : World} {base g cap n : Nat} {e : TypeId} {cur : Array Value} {xs : List Value} {i : Nat} (hh : w.heap[g]? = some (.cells cur e (0, 0))) (ht : cur.toList.take (n * 1) = xs) (hi : i < n) : w.cell? ⟨g, i, none⟩ = xs[i]? := by
  rw [cell_of_row w g i cur e (0, 0) hh]
  have h3 : cur.toList[i]? = xs[i]? := by rw [← ht, List.getElem?_take, if_pos (by omega)]
  have h4 : cur[i]? = cur.toList[i]? := by simp
  rw [h4, h3]

end Go.Proofs.YtlbmpldknfcfhaaDoor

namespace Go.Proofs.YtlbmpldknfcfhaaDoor
open Go.RowKit
set_option linter.unusedVariables false

end Go.Proofs.YtlbmpldknfcfhaaDoor
