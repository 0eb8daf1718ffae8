/-
  spec.l8Put, l8Reg.
  spec.l8Reg, l8Here.
  spec.l8Val: an instruction with a value, which is copied.
-/
import Derived.Test.YtgjbibkppofjfaaDoorCmK
import Derived.Test.YtgjbibkppofjfaaDoorAnyZ
import Derived.Test.YtgjbibkppofjfaaDoorAppendP
import Derived.Deep.RegionWith
import Derived.Deep.RegionHeld3
import Derived.Deep.CutRange
namespace Go.Proofs.YtgjbibkppofjfaaDoor
open Go.RowKit
set_option linter.unusedVariables false
set_option linter.unusedSimpArgs false


theorem Cm.infoIn : (Tryd.prog.info? 41).map (fun i => (i.zero, i.size, i.bytes)) = some (some (.agg #[.int .i64 0, .int .i64 0, .slice none 0 0]), 3, 40) := by kernel_rfl
theorem Cm.res_nil (w : World) (B : Nat) : Res w B (.slice none 0 0) [] := ⟨by simp, .inl ⟨rfl, rfl⟩⟩
end Go.Proofs.YtgjbibkppofjfaaDoor

namespace Go.Proofs.YtgjbibkppofjfaaDoor
open Go.RowKit
set_option linter.unusedVariables false
set_option linter.unusedSimpArgs false


end Go.Proofs.YtgjbibkppofjfaaDoor

namespace Go.Proofs.YtgjbibkppofjfaaDoor
open Go.RowKit
set_option linter.unusedVariables false
set_option linter.unusedSimpArgs false


namespace Cm
theorem owns_empty {w : World} {base g : Nat} {e : TypeId} (k : Nat) (hg : base ≤ g) (h : w.heap[g]? = some (.cells #[] e (0, 0))) : w.ownsRow base e k (.slice (some ⟨g, 0, none⟩) 0 0) 0 [] :=
  ⟨by simp, .inr ⟨g, 0, #[], rfl, hg, h, Nat.le_refl _, by unfold maxLen; omega, by simp, by simp⟩⟩
end Cm
end Go.Proofs.YtgjbibkppofjfaaDoor
