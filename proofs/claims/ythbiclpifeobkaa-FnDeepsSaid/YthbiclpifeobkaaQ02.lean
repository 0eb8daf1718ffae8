/-
  The laws' own helpers over cells: what they measure, copy and compare, each by its contract.
  laws.toCellS copies a list of cells into a row of its own; laws.eqCell and laws.eqCellS tell whether cells are alike.
  laws.eqCell and laws.eqCellS: cells that are alike are told alike.
  The laws' marks: laws.markText, laws.markCellS write told numbers into a row of the call's own; laws.heldCellS finds them there.
  laws.markCellS writes told numbers into a row of the call's own, and laws.heldCellS finds them there.
-/
import Derived.Test.YthbiclpifeobkaaQ00
import Derived.Test.YthbiclpifeobkaaQ01
import Derived.Deep.LoopGhost
import Derived.Deep.RegionWith
import Derived.Laws.IdiomStrings
namespace Go.Proofs.Ythbiclpifeobkaa
open Go.RowKit
set_option linter.unusedVariables false

end Go.Proofs.Ythbiclpifeobkaa

namespace Go.Proofs.Ythbiclpifeobkaa
open Go.RowKit
set_option linter.unusedVariables false

theorem Try.info44 : (Try.prog.info? 44).map (fun i => (i.zero, i.size, i.bytes)) = some (some (.agg #[.int .i64 0, .int .i64 0, .string ByteArray.empty, .string ByteArray.empty, .int .i64 0]), 5, 56) := by kernel_rfl
theorem Try.info24 : (Try.prog.info? 24).map (fun i => (i.zero, i.size, i.bytes)) = some (some (.slice none 0 0), 1, 24) := by kernel_rfl
theorem Try.info9 : (Try.prog.info? 9).map (fun i => (i.zero, i.size, i.bytes)) = some (some (.string ByteArray.empty), 1, 16) := by kernel_rfl

/-- What make lays for n cells. -/
def mk5 (n : Nat) : Array Value := madeCells #[.int .i64 0, .int .i64 0, .string ByteArray.empty, .string ByteArray.empty, .int .i64 0] (n * 5)
theorem size_mk5 (n : Nat) : (mk5 n).size = n * 5 := by simp [mk5, size_madeCells]

theorem make_cells (n : Nat) (hn : n ≤ 1048576) (w : World) :
    (Instr.makeSlice 24 (.int .i64 (n : Int)) (.int .i64 (n : Int))).run Try.prog w = .ok (.slice (some ⟨w.heap.size, 0, none⟩) n n) (w.alloc (.cells (mk5 n) 44)) := by
  obtain ⟨i, hi, hz⟩ := Option.map_eq_some_iff.1 Try.info44
  simp only [Prod.mk.injEq] at hz
  obtain ⟨h1, h2, h3⟩ := hz
  have := run_make (P := Try.prog) w 24 44 i _ Try.underlying24 hi h1 .i64 .i64 (n : Int) (n : Int) (by omega) (by omega) (by rw [h3]; omega) (by omega)
  rw [this, h2]
  simp only [Int.toNat_natCast]
  rfl

theorem some_of_lt {xs : List Value} {j : Nat} (h : j < xs.length) : ∃ v, xs[j]? = some v := ⟨xs[j], List.getElem?_eq_getElem h⟩

end Go.Proofs.Ythbiclpifeobkaa

namespace Go.Proofs.Ythbiclpifeobkaa
open Go.RowKit
set_option linter.unusedVariables false

end Go.Proofs.Ythbiclpifeobkaa

namespace Go.Proofs.Ythbiclpifeobkaa
open Go.RowKit
set_option linter.unusedVariables false

end Go.Proofs.Ythbiclpifeobkaa

namespace Go.Proofs.Ythbiclpifeobkaa
open Go.RowKit
set_option linter.unusedVariables false

/-- As Words, where the row may be longer. -/
def WordsG (xs : List Value) (l : List M.Cl) (k : Nat) : Prop :=
  l.length * 5 ≤ xs.length ∧ ∀ i, i < k → xs[i * 5]? = some (.int .i64 (l.getD i M.zero).kind) ∧ xs[i * 5 + 1]? = some (.int .i64 (l.getD i M.zero).num) ∧ xs[i * 5 + 2]? = some (.string (l.getD i M.zero).text) ∧ xs[i * 5 + 3]? = some (.string (l.getD i M.zero).key) ∧ xs[i * 5 + 4]? = some (.int .i64 (l.getD i M.zero).n)

/-- A row of the call's own that begins with the cells of l. -/
def OwnG (w : World) (b : Nat) (t : TypeId) (l : List M.Cl) : Prop := ∃ xs, Own w b t xs ∧ WordsG xs l l.length
theorem OwnG.row {w : World} {b : Nat} {t : TypeId} {l : List M.Cl} (h : OwnG w b t l) : Row w b 0 l := by
  obtain ⟨xs, ho, _, hw⟩ := h
  intro i hi
  obtain ⟨h0, h1, h2, h3, h4⟩ := hw i hi
  simp only [Nat.zero_add]
  exact ⟨(ho.cell _).trans h0, (ho.cell _).trans h1, (ho.cell _).trans h2, (ho.cell _).trans h3, (ho.cell _).trans h4⟩
theorem OwnG.lt {w : World} {b : Nat} {t : TypeId} {l : List M.Cl} (h : OwnG w b t l) : b < w.heap.size := by obtain ⟨xs, ho, _⟩ := h; exact ho.lt
theorem OwnG.below {B : Nat} {w w' : World} {b : Nat} {t : TypeId} {l : List M.Cl} (h : OwnG w b t l) (hb : Below B w w') (hB : b < B) : OwnG w' b t l := by
  obtain ⟨xs, ho, hw⟩ := h; exact ⟨xs, ho.below hb hB, hw⟩
end Go.Proofs.Ythbiclpifeobkaa
