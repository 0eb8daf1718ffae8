/-
  The laws' own helpers over cells: what they measure, copy and compare, each by its contract.
  laws.toCellS copies a list of cells into a row of its own; laws.eqCell and laws.eqCellS tell whether cells are alike.
  laws.eqCell and laws.eqCellS: cells that are alike are told alike.
  A slice of bytes that came in as an argument.
-/
import Derived.Test.YtfcglmkbfdfaeaaS00
import Derived.Test.YtfcglmkbfdfaeaaS01
import Derived.Deep.RegionWith
import Derived.Deep.Slices
import Derived.OpenShut
import Derived.ProofKit
namespace Go.Proofs.Ytfcglmkbfdfaeaa
open Go.RowKit
set_option linter.unusedVariables false

end Go.Proofs.Ytfcglmkbfdfaeaa

namespace Go.Proofs.Ytfcglmkbfdfaeaa
open Go.RowKit
set_option linter.unusedVariables false

theorem Try.info34 : (Try.prog.info? 34).map (fun i => (i.zero, i.size, i.bytes)) = some (some (.agg #[.int .i64 0, .int .i64 0, .string ByteArray.empty, .string ByteArray.empty, .int .i64 0]), 5, 56) := by kernel_rfl
theorem Try.info24 : (Try.prog.info? 24).map (fun i => (i.zero, i.size, i.bytes)) = some (some (.slice none 0 0), 1, 24) := by kernel_rfl
theorem Try.info9 : (Try.prog.info? 9).map (fun i => (i.zero, i.size, i.bytes)) = some (some (.string ByteArray.empty), 1, 16) := by kernel_rfl

/-- What make lays for n cells. -/
def mk5 (n : Nat) : Array Value := madeCells #[.int .i64 0, .int .i64 0, .string ByteArray.empty, .string ByteArray.empty, .int .i64 0] (n * 5)
theorem size_mk5 (n : Nat) : (mk5 n).size = n * 5 := by simp [mk5, size_madeCells]

theorem make_cells (n : Nat) (hn : n ≤ 1048576) (w : World) :
    (Instr.makeSlice 24 (.int .i64 (n : Int)) (.int .i64 (n : Int))).run Try.prog w = .ok (.slice (some ⟨w.heap.size, 0, none⟩) n n) (w.alloc (.cells (mk5 n) 34)) := by
  obtain ⟨i, hi, hz⟩ := Option.map_eq_some_iff.1 Try.info34
  simp only [Prod.mk.injEq] at hz
  obtain ⟨h1, h2, h3⟩ := hz
  have := run_make (P := Try.prog) w 24 34 i _ Try.underlying24 hi h1 .i64 .i64 (n : Int) (n : Int) (by omega) (by omega) (by rw [h3]; omega) (by omega)
  rw [this, h2]
  simp only [Int.toNat_natCast]
  rfl

theorem some_of_lt {xs : List Value} {j : Nat} (h : j < xs.length) : ∃ v, xs[j]? = some v := ⟨xs[j], List.getElem?_eq_getElem h⟩

end Go.Proofs.Ytfcglmkbfdfaeaa

namespace Go.Proofs.Ytfcglmkbfdfaeaa
open Go.RowKit
set_option linter.unusedVariables false

end Go.Proofs.Ytfcglmkbfdfaeaa

namespace Go.Proofs.Ytfcglmkbfdfaeaa
open Go.RowKit Go.ChangeShapes Go.WideShapes
set_option linter.unusedVariables false
set_option linter.unusedSimpArgs false

/-- What the walks are told of a slice of bytes. -/
def Byts (w : World) (a : Option Addr) (len cap : Nat) : Prop := len ≤ cap ∧ ∀ i, i < len → ∃ b off c : Nat, a = some ⟨b, off, none⟩ ∧ b < w.heap.size ∧ c ≤ 255 ∧ w.cell? ⟨b, off + i, none⟩ = some (.int .u8 (c : Int))
theorem cellsU8 : Try.prog.cellsOf 5 = 1 := by kernel_rfl
theorem bounds_u8 {n : Int} (h : (Lit.int .u8 n).wf = true) : 0 ≤ n ∧ n ≤ 255 := by
  simp [Lit.wf, IntKind.min, IntKind.max, IntKind.signed, IntKind.bits] at h
  omega
section
variable {H : Type} {enc : TypeId × Value → H} {w : World} {base : Nat} {spare : Nat → Bool} {held : Bool}
theorem open_byts {a : Option Addr} {len cap fuel : Nat} {x : DataW H × List MemPlace} (h : DataW.trod enc Try.prog w base spare held fuel 22 [.slice a len cap] = some x) : Byts w a len cap := by
  rcases Go.Deep.open_slice Try.underlying22 h with ⟨hcs, _⟩ | ⟨ad, len', cap', m, n, D, Pl, hcs, _, hl, hm, hmm, hx, hel⟩
  · simp only [List.cons.injEq, Value.slice.injEq, and_true] at hcs
    obtain ⟨rfl, rfl, rfl⟩ := hcs
    exact ⟨by omega, fun i hi => absurd hi (by omega)⟩
  · simp only [List.cons.injEq, Value.slice.injEq, and_true] at hcs
    obtain ⟨rfl, rfl, rfl⟩ := hcs
    rw [cellsU8] at hel
    have hlm : len ≤ m := by rw [hmm]; split <;> omega
    refine ⟨by simpa using hl, fun i hi => ?_⟩
    obtain ⟨cs', h1, h2⟩ := hel i (by omega)
    obtain ⟨c, e, _, hw⟩ := DataW.trod_int Try.underlying5 h2
    subst e
    have hb := bounds_u8 hw
    obtain ⟨b, off, spot⟩ := ad
    have c0 := (World.cells?_some h1).2.2 0 (by omega)
    have hs : spot = none := by
      obtain ⟨cs0, g1, g2⟩ := hel 0 (by omega)
      obtain ⟨c', e', _, _⟩ := DataW.trod_int Try.underlying5 g2
      subst e'
      have := World.cell?_spot (((World.cells?_some g1).2.2 0 (by omega)).trans rfl)
      simpa [Addr.add] using this
    subst hs
    have hblk : b < w.heap.size := by
      have := block_lt_of_cell (c0.trans rfl)
      rw [add_plain, add_plain] at this
      exact this
    simp only [add_plain] at c0
    refine ⟨b, off, c.toNat, rfl, hblk, by omega, ?_⟩
    rw [show ((c.toNat : Nat) : Int) = c from Int.toNat_of_nonneg hb.1]
    simpa using c0
end
theorem lwBig_any (a : Option Addr) (len cap : Nat) (w : World) : Calls Try.prog 4 #[.slice a len cap] w fun e w' => e = .returned (.bool (decide (1048576 < len))) ∧ w' = w := by
  have hd := hide (show decide ((1048576 : Int) < (len : Int)) = decide (1048576 < len) by rw [decide_eq_decide]; omega)
  go_enter Try.func4, Try.ntmps4
  go_wp2_with fail
  all_goals (go_ret; exact ⟨ret_bool (by first | exact unhide hd | (simp [*] <;> omega)), rfl⟩)

end Go.Proofs.Ytfcglmkbfdfaeaa
