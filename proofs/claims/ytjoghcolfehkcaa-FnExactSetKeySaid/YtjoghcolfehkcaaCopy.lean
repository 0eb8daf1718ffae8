/-
  laws.toCellS copies a list of cells into a row of its own; laws.eqCell and laws.eqCellS tell whether cells are alike.
-/
import Derived.Test.YtjoghcolfehkcaaLib
namespace Go.Proofs.Ytjoghcolfehkcaa
open Go.RowKit
set_option linter.unusedVariables false

theorem Try.info55 : (Try.prog.info? 55).map (fun i => (i.zero, i.size, i.bytes)) = some (some (.agg #[.int .i64 0, .int .i64 0, .string ByteArray.empty, .string ByteArray.empty, .int .i64 0]), 5, 56) := by kernel_rfl
theorem Try.info24 : (Try.prog.info? 24).map (fun i => (i.zero, i.size, i.bytes)) = some (some (.slice none 0 0), 1, 24) := by kernel_rfl
theorem Try.info9 : (Try.prog.info? 9).map (fun i => (i.zero, i.size, i.bytes)) = some (some (.string ByteArray.empty), 1, 16) := by kernel_rfl

/-- What make lays for n cells. -/
def mk5 (n : Nat) : Array Value := madeCells #[.int .i64 0, .int .i64 0, .string ByteArray.empty, .string ByteArray.empty, .int .i64 0] (n * 5)
theorem size_mk5 (n : Nat) : (mk5 n).size = n * 5 := by simp [mk5, size_madeCells]

theorem make_cells (n : Nat) (hn : n ≤ 1048576) (w : World) :
    (Instr.makeSlice 24 (.int .i64 (n : Int)) (.int .i64 (n : Int))).run Try.prog w = .ok (.slice (some ⟨w.heap.size, 0, none⟩) n n) (w.alloc (.cells (mk5 n) 55)) := by
  obtain ⟨i, hi, hz⟩ := Option.map_eq_some_iff.1 Try.info55
  simp only [Prod.mk.injEq] at hz
  obtain ⟨h1, h2, h3⟩ := hz
  have := run_make (P := Try.prog) w 24 55 i _ Try.underlying24 hi h1 .i64 .i64 (n : Int) (n : Int) (by omega) (by omega) (by rw [h3]; omega) (by omega)
  rw [this, h2]
  simp only [Int.toNat_natCast]
  rfl

theorem some_of_lt {xs : List Value} {j : Nat} (h : j < xs.length) : ∃ v, xs[j]? = some v := ⟨xs[j], List.getElem?_eq_getElem h⟩

set_option maxHeartbeats 800000 in
/-- laws.toCellS of a slice that has cells. -/
theorem toCellS_any (b off cap : Nat) (l : List M.Cl) (w : World) (hrow : Row w b off l) (hb : b < w.heap.size) (hcap : cap ≤ 9223372036854775807) (hl : l.length ≤ cap) (hn : l.length ≤ 1048576) :
    Calls Try.prog 18 #[.slice (some ⟨b, off, none⟩) l.length cap] w fun e w' => e = .returned (.slice (some ⟨w.heap.size, 0, none⟩) l.length l.length) ∧ OwnRow w' w.heap.size 55 l ∧ Below w.heap.size w w' := by
  have hmk := make_cells l.length hn
  go_enter Try.func18, Try.ntmps18
  go_wp2_with fail
  go_loopw [4] (fun i wr => ∃ (k : Nat) (xs : List Value), k ≤ l.length ∧ i = .int .i64 k ∧ Own wr w.heap.size 55 xs ∧ Words xs l k ∧ Below w.heap.size w wr) (fun i _ => l.length - (intOf i).toNat)
  case atStart => exact ⟨0, (mk5 l.length).toList, by omega, rfl, ⟨_, heap_alloc_new _ _, rfl⟩, ⟨by simp [size_mk5], fun i hi => absurd hi (by omega)⟩, (Below.refl _ _).alloc (Nat.le_refl _) _⟩
  case round =>
    obtain ⟨k, xs, hk, rfl, hown, hwords, hbel⟩ := hrel
    clear hmk
    by_cases hlt : k < l.length
    · obtain ⟨c, hc⟩ : ∃ c, c = l.getD k M.zero := ⟨_, rfl⟩
      obtain ⟨f0, f1, f2, f3, f4⟩ := (hrow.below hbel hb) k hlt
      rw [← hc] at f0 f1 f2 f3 f4
      have HC := hide hc
      clear hc
      go_wp2_with fail
      refine (toCell_any c.kind c.num c.n c.text c.key _).mono ?_
      rintro e w1 ⟨rfl, hb1⟩
      have hown1 := hown.below hb1 hown.lt
      have hlen : l.length * 5 = xs.length := hwords.1.symm
      obtain ⟨v0, g0⟩ := some_of_lt (xs := xs) (j := k * 5) (by omega)
      obtain ⟨v1, g1⟩ := some_of_lt (xs := xs) (j := k * 5 + 1) (by omega)
      obtain ⟨v2, g2⟩ := some_of_lt (xs := xs) (j := k * 5 + 2) (by omega)
      obtain ⟨v3, g3⟩ := some_of_lt (xs := xs) (j := k * 5 + 3) (by omega)
      obtain ⟨v4, g4⟩ := some_of_lt (xs := xs) (j := k * 5 + 4) (by omega)
      have i0 := (hown1.cell (k * 5)).trans g0
      have i1 := (hown1.cell (k * 5 + 1)).trans g1
      have i2 := (hown1.cell (k * 5 + 2)).trans g2
      have i3 := (hown1.cell (k * 5 + 3)).trans g3
      have i4 := (hown1.cell (k * 5 + 4)).trans g4
      have z0 := hown1.frozen (k * 5)
      have z1 := hown1.frozen (k * 5 + 1)
      have z2 := hown1.frozen (k * 5 + 2)
      have z3 := hown1.frozen (k * 5 + 3)
      have z4 := hown1.frozen (k * 5 + 4)
      have HL := hide hlen
      clear hlen g0 g1 g2 g3 g4 f0 f1 f2 f3 f4
      go_wp2_with fail
      go_roundw
      case rel =>
        refine ⟨k + 1, _, by omega, by go_num, ((((hown1.set _ _).set _ _).set _ _).set _ _).set _ _, hwords.step hlt c (unhide HC), ?_⟩
        exact (((((hbel.trans (hb1.mono hbel.size)).setCell (Nat.le_refl _) _).setCell (Nat.le_refl _) _).setCell (Nat.le_refl _) _).setCell (Nat.le_refl _) _).setCell (Nat.le_refl _) _
      case measure => simp [intOf]; omega
    · have hke : k = l.length := by omega
      have hfin : OwnRow wr w.heap.size 55 l := ⟨xs, hown, hke ▸ hwords⟩
      clear hke
      go_wp2_with fail
      go_ret
      exact ⟨rfl, hfin, hbel⟩

set_option maxHeartbeats 400000 in
/-- laws.toCellS of a slice that has none. -/
theorem toCellS_none (a : Option Addr) (cap : Nat) (w : World) (hcap : cap ≤ 9223372036854775807) :
    Calls Try.prog 18 #[.slice a 0 cap] w fun e w' => e = .returned (.slice (some ⟨w.heap.size, 0, none⟩) 0 0) ∧ OwnRow w' w.heap.size 55 [] ∧ Below w.heap.size w w' := by
  have hmk : ∀ w, (Instr.makeSlice 24 (.int .i64 0) (.int .i64 0)).run Try.prog w = .ok (.slice (some ⟨w.heap.size, 0, none⟩) 0 0) (w.alloc (.cells (mk5 0) 55)) := make_cells 0 (by omega)
  go_enter Try.func18, Try.ntmps18
  go_wp2_with fail
  refine wp_loop_rounds 1 ?_
  rw [rounds_succ]
  go_wp2_with fail
  go_ret
  exact ⟨rfl, ⟨(mk5 0).toList, ⟨_, heap_alloc_new _ _, rfl⟩, ⟨by simp [size_mk5], fun i hi => absurd hi (by simp)⟩⟩, (Below.refl _ _).alloc (Nat.le_refl _) _⟩

end Go.Proofs.Ytjoghcolfehkcaa
