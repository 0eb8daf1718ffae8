/-
  The laws' own helpers over cells: what they measure, copy and compare, each by its contract.
  laws.toCellS copies a list of cells into a row of its own; laws.eqCell and laws.eqCellS tell whether cells are alike.
  laws.eqCell and laws.eqCellS: cells that are alike are told alike.
-/
import Derived.Test.YtepfdlbnnkojbaaGreatDoorText
import Derived.Test.YtepfdlbnnkojbaaGreatDoorMem
import Derived.Deep.RegionWith
namespace Go.Proofs.YtepfdlbnnkojbaaGreatDoor
open Go.RowKit
set_option linter.unusedVariables false

end Go.Proofs.YtepfdlbnnkojbaaGreatDoor

namespace Go.Proofs.YtepfdlbnnkojbaaGreatDoor
open Go.RowKit
set_option linter.unusedVariables false

theorem Tryz.info81 : (Tryz.prog.info? 81).map (fun i => (i.zero, i.size, i.bytes)) = some (some (.agg #[.int .i64 0, .int .i64 0, .string ByteArray.empty, .string ByteArray.empty, .int .i64 0]), 5, 56) := by kernel_rfl
theorem Tryz.info22 : (Tryz.prog.info? 22).map (fun i => (i.zero, i.size, i.bytes)) = some (some (.slice none 0 0), 1, 24) := by kernel_rfl
theorem Tryz.info9 : (Tryz.prog.info? 9).map (fun i => (i.zero, i.size, i.bytes)) = some (some (.string ByteArray.empty), 1, 16) := by kernel_rfl

/-- What make lays for n cells. -/
def mk5 (n : Nat) : Array Value := madeCells #[.int .i64 0, .int .i64 0, .string ByteArray.empty, .string ByteArray.empty, .int .i64 0] (n * 5)
theorem size_mk5 (n : Nat) : (mk5 n).size = n * 5 := by simp [mk5, size_madeCells]

theorem make_cells (n : Nat) (hn : n ≤ 1048576) (w : World) :
    (Instr.makeSlice 22 (.int .i64 (n : Int)) (.int .i64 (n : Int))).run Tryz.prog w = .ok (.slice (some ⟨w.heap.size, 0, none⟩) n n) (w.alloc (.cells (mk5 n) 81)) := by
  obtain ⟨i, hi, hz⟩ := Option.map_eq_some_iff.1 Tryz.info81
  simp only [Prod.mk.injEq] at hz
  obtain ⟨h1, h2, h3⟩ := hz
  have := run_make (P := Tryz.prog) w 22 81 i _ Tryz.underlying22 hi h1 .i64 .i64 (n : Int) (n : Int) (by omega) (by omega) (by rw [h3]; omega) (by omega)
  rw [this, h2]
  simp only [Int.toNat_natCast]
  rfl

theorem some_of_lt {xs : List Value} {j : Nat} (h : j < xs.length) : ∃ v, xs[j]? = some v := ⟨xs[j], List.getElem?_eq_getElem h⟩

end Go.Proofs.YtepfdlbnnkojbaaGreatDoor

namespace Go.Proofs.YtepfdlbnnkojbaaGreatDoor
open Go.RowKit
set_option linter.unusedVariables false

set_option maxHeartbeats 400000 in
theorem eqCell_same (kind num n : Int) (text key : ByteArray) (w : World) :
    Calls Tryz.prog 41 #[.agg #[.int .i64 kind, .int .i64 num, .string text, .string key, .int .i64 n], .agg #[.int .i64 kind, .int .i64 num, .string text, .string key, .int .i64 n]] w fun e w' => e = .returned (.bool true) ∧ Below w.heap.size w w' := by
  go_enter Tryz.func41, Tryz.ntmps41
  go_wp2
  go_ret
  exact ⟨rfl, ((Below.refl _ _).alloc (Nat.le_refl _) _).alloc (by simp) _⟩

set_option maxHeartbeats 800000 in
theorem eqCellS_same (b off cap b' off' cap' : Nat) (l : List M.Cl) (w : World) (hrow : Row w b off l) (hb : b < w.heap.size) (hrow' : Row w b' off' l) (hb' : b' < w.heap.size) (hcap : l.length ≤ 1048576) (h1 : l.length ≤ cap) (h2 : l.length ≤ cap') :
    Calls Tryz.prog 19 #[.slice (some ⟨b, off, none⟩) l.length cap, .slice (some ⟨b', off', none⟩) l.length cap'] w fun e w' => e = .returned (.bool true) ∧ Below w.heap.size w w' := by
  go_enter Tryz.func19, Tryz.ntmps19
  go_wp2_with fail
  go_loopw [5] (fun i wr => ∃ k : Nat, k ≤ l.length ∧ i = .int .i64 k ∧ Below w.heap.size w wr) (fun i _ => l.length - (intOf i).toNat)
  case atStart => exact ⟨0, by omega, rfl, Below.refl _ _⟩
  case round =>
    obtain ⟨k, hk, rfl, hbel⟩ := hrel
    by_cases hlt : k < l.length
    · obtain ⟨c, hc⟩ : ∃ c, c = l.getD k M.zero := ⟨_, rfl⟩
      obtain ⟨f0, f1, f2, f3, f4⟩ := (hrow.below hbel hb) k hlt
      obtain ⟨g0, g1, g2, g3, g4⟩ := (hrow'.below hbel hb') k hlt
      rw [← hc] at f0 f1 f2 f3 f4 g0 g1 g2 g3 g4
      clear hc
      go_wp2_with fail
      go_region_with (go_at_call 41; refine (eqCell_same c.kind c.num c.n c.text c.key _).mono ?_; rintro e w1 ⟨rfl, hb1⟩)
      all_goals
        go_wp2_with fail
        go_roundw
        case rel => exact ⟨k + 1, by omega, by go_num, hbel.drew.trans (hb1.mono (by exact hbel.size))⟩
        case measure => simp [intOf]; omega
    · go_wp2_with fail
      go_ret
      exact ⟨rfl, hbel⟩

end Go.Proofs.YtepfdlbnnkojbaaGreatDoor
