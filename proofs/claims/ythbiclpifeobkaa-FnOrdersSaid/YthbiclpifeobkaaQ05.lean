/-
  The laws' own helpers over cells: what they measure, copy and compare, each by its contract.
  laws.toCellS copies a list of cells into a row of its own; laws.eqCell and laws.eqCellS tell whether cells are alike.
  laws.eqCell and laws.eqCellS: cells that are alike are told alike.
-/
import Derived.Test.YthbiclpifeobkaaQ00
import Derived.Test.YthbiclpifeobkaaQ01
import Derived.Deep.RegionWith
namespace Go.Proofs.Ythbiclpifeobkaa
open Go.RowKit
set_option linter.unusedVariables false

end Go.Proofs.Ythbiclpifeobkaa

namespace Go.Proofs.Ythbiclpifeobkaa
open Go.RowKit
set_option linter.unusedVariables false

theorem Try.info44 : (Try.prog.info? 44).map (fun i => (i.zero, i.size, i.bytes)) = some (some (.agg #[.int .i64 0, .int .i64 0, .string ByteArray.empty, .string ByteArray.empty, .int .i64 0]), 5, 56) := by kernel_rfl
theorem Try.info24 : (Try.prog.info? 24).map (fun i => (i.zero, i.size, i.bytes)) = some (some (.slice none 0 0), 1, 24) := by kernel_rfl
theorem Try.info9 : (Try.prog.info? 9).map (fun i => (i.zero, i.size, i.bytes)) = some (some (.string ByteArray.empty), 1, 16) := by kernel_rfl

/-- What make lays for n cells. -/
def mk5 (n : Nat) : Array Value := madeCells #[.int .i64 0, .int .i64 0, .string ByteArray.empty, .string ByteArray.empty, .int .i64 0] (n * 5)
theorem size_mk5 (n : Nat) : (mk5 n).size = n * 5 := by simp [mk5, size_madeCells]

theorem make_cells (n : Nat) (hn : n ≤ 1048576) (w : World) :
    (Instr.makeSlice 24 (.int .i64 (n : Int)) (.int .i64 (n : Int))).run Try.prog w = .ok (.slice (some ⟨w.heap.size, 0, none⟩) n n) (w.alloc (.cells (mk5 n) 44)) := by
  obtain ⟨i, hi, hz⟩ := Option.map_eq_some_iff.1 Try.info44
  simp only [Prod.mk.injEq] at hz
  obtain ⟨h1, h2, h3⟩ := hz
  have := run_make (P := Try.prog) w 24 44 i _ Try.underlying24 hi h1 .i64 .i64 (n : Int) (n : Int) (by omega) (by omega) (by rw [h3]; omega) (by omega)
  rw [this, h2]
  simp only [Int.toNat_natCast]
  rfl

theorem some_of_lt {xs : List Value} {j : Nat} (h : j < xs.length) : ∃ v, xs[j]? = some v := ⟨xs[j], List.getElem?_eq_getElem h⟩

end Go.Proofs.Ythbiclpifeobkaa

namespace Go.Proofs.Ythbiclpifeobkaa
open Go.RowKit
set_option linter.unusedVariables false

end Go.Proofs.Ythbiclpifeobkaa
