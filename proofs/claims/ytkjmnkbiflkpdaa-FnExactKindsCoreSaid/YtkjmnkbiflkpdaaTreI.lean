/-
  impl.TreeFault and spec.TreeFault tell the same plain code.
-/
import Derived.Test.YtkjmnkbiflkpdaaTreC
import Derived.Test.YtkjmnkbiflkpdaaTreE
import Derived.Test.YtkjmnkbiflkpdaaTreG
import Derived.Test.YtkjmnkbiflkpdaaTreH
namespace Go.Proofs.Ytkjmnkbiflkpdaa
open Go.RowKit
set_option linter.unusedVariables false

namespace Tr
theorem nf_next {l : List Nd} {k : Nat} (h : nf l k = 0) (h1 : nodeF l k = 0) : nf l (k + 1) = 0 := by rw [nf, if_pos h, h1]
theorem ops_of {l : List Nd} (h : nf l l.length = 0) : ∀ i, i < l.length → 1 ≤ (l.getD i Nd.zero).op ∧ (l.getD i Nd.zero).op ≤ 24 := fun i hi => (node_parts (nf_all h i hi)).1
theorem up_getD (n i : Nat) (h : i < n) : (up 0 n).getD i 0 = (i : Int) := by
  rw [List.getD_eq_getElem?_getD, up_get 0 n i h]; simp
end Tr

end Go.Proofs.Ytkjmnkbiflkpdaa
