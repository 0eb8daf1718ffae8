/-
  The laws' marks: laws.markText, laws.markCellS write told numbers into a row of the call's own; laws.heldCellS finds them there.
  laws.markCellS writes told numbers into a row of the call's own, and laws.heldCellS finds them there.
-/
import Derived.Test.YtlbmpldknfcfhaaDoorV02
import Derived.Deep.LoopGhost
import Derived.Laws.IdiomStrings
namespace Go.Proofs.YtlbmpldknfcfhaaDoor
open Go.RowKit
set_option linter.unusedVariables false

end Go.Proofs.YtlbmpldknfcfhaaDoor

namespace Go.Proofs.YtlbmpldknfcfhaaDoor
open Go.RowKit
set_option linter.unusedVariables false

/-- As Words, where the row may be longer. -/
def WordsG (xs : List Value) (l : List M.Cl) (k : Nat) : Prop :=
  l.length * 5 ≤ xs.length ∧ ∀ i, i < k → xs[i * 5]? = some (.int .i64 (l.getD i M.zero).kind) ∧ xs[i * 5 + 1]? = some (.int .i64 (l.getD i M.zero).num) ∧ xs[i * 5 + 2]? = some (.string (l.getD i M.zero).text) ∧ xs[i * 5 + 3]? = some (.string (l.getD i M.zero).key) ∧ xs[i * 5 + 4]? = some (.int .i64 (l.getD i M.zero).n)

/-- A row of the call's own that begins with the cells of l. -/
def OwnG (w : World) (b : Nat) (t : TypeId) (l : List M.Cl) : Prop := ∃ xs, Own w b t xs ∧ WordsG xs l l.length
theorem OwnG.row {w : World} {b : Nat} {t : TypeId} {l : List M.Cl} (h : OwnG w b t l) : Row w b 0 l := by
  obtain ⟨xs, ho, _, hw⟩ := h
  intro i hi
  obtain ⟨h0, h1, h2, h3, h4⟩ := hw i hi
  simp only [Nat.zero_add]
  exact ⟨(ho.cell _).trans h0, (ho.cell _).trans h1, (ho.cell _).trans h2, (ho.cell _).trans h3, (ho.cell _).trans h4⟩
theorem OwnG.lt {w : World} {b : Nat} {t : TypeId} {l : List M.Cl} (h : OwnG w b t l) : b < w.heap.size := by obtain ⟨xs, ho, _⟩ := h; exact ho.lt
theorem OwnG.below {B : Nat} {w w' : World} {b : Nat} {t : TypeId} {l : List M.Cl} (h : OwnG w b t l) (hb : Below B w w') (hB : b < B) : OwnG w' b t l := by
  obtain ⟨xs, ho, hw⟩ := h; exact ⟨xs, ho.below hb hB, hw⟩
end Go.Proofs.YtlbmpldknfcfhaaDoor
