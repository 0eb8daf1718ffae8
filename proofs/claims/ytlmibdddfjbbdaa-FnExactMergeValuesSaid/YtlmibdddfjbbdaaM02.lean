/-
  The laws' own helpers over cells: what they measure, copy and compare, each by its contract.
  laws.toCellS copies a list of cells into a row of its own; laws.eqCell and laws.eqCellS tell whether cells are alike.
  laws.eqCell and laws.eqCellS: cells that are alike are told alike.
-/
import Derived.Test.YtlmibdddfjbbdaaM00
import Derived.Test.YtlmibdddfjbbdaaM01
import Derived.Deep.RegionWith
namespace Go.Proofs.Ytlmibdddfjbbdaa
open Go.RowKit
set_option linter.unusedVariables false

set_option maxHeartbeats 400000 in
/-- laws.toCell: the same five fields. -/
theorem toCell_any (kind num n : Int) (text key : ByteArray) (w : World) :
    Calls Try.prog 18 #[.agg #[.int .i64 kind, .int .i64 num, .string text, .string key, .int .i64 n]] w fun e w' => e = .returned (.agg #[.int .i64 kind, .int .i64 num, .string text, .string key, .int .i64 n]) ∧ Below w.heap.size w w' := by
  go_enter Try.func18, Try.ntmps18
  go_wp2
  exact bodyPost_ret (v := .agg #[.int .i64 kind, .int .i64 num, .string text, .string key, .int .i64 n]) (by simp [results, Try.results18, go_sem]) rfl ⟨rfl, (((Below.refl _ _).alloc (Nat.le_refl _) _).alloc (by simp) _).alloc (by simp <;> omega) _⟩

set_option maxHeartbeats 400000 in
/-- laws.szCell. -/
theorem szCell_any (kind num n left : Int) (text key : ByteArray) (w : World) (h0 : 0 ≤ left) (h1 : left ≤ 1048576) (ht : text.size ≤ 9223372036854775807) (hk : key.size ≤ 9223372036854775807) :
    Calls Try.prog 13 #[.agg #[.int .i64 kind, .int .i64 num, .string text, .string key, .int .i64 n], .int .i64 left] w fun e w' => ∃ r : Int, e = .returned (.int .i64 r) ∧ (r = -1 ∨ (0 ≤ r ∧ r = left - text.size - key.size)) ∧ Below w.heap.size w w' := by
  by_cases c1 : left - text.size < 0
  · go_enter Try.func13, Try.ntmps13
    go_wp2
    go_ret
    exact ⟨_, rfl, .inl rfl, (Below.refl _ _).alloc (Nat.le_refl _) _⟩
  by_cases c2 : left - text.size - key.size < 0
  · go_enter Try.func13, Try.ntmps13
    go_wp2
    go_ret
    exact ⟨_, rfl, .inl rfl, (Below.refl _ _).alloc (Nat.le_refl _) _⟩
  · go_enter Try.func13, Try.ntmps13
    go_wp2
    go_ret
    exact ⟨_, rfl, .inr ⟨by omega, rfl⟩, (Below.refl _ _).alloc (Nat.le_refl _) _⟩

set_option maxHeartbeats 400000 in
/-- laws.szCellS of a slice that has cells. -/
theorem szCellS_any (b off cap : Nat) (l : List M.Cl) (left : Int) (w : World) (hrow : Row w b off l) (hb : b < w.heap.size) (hcap : cap ≤ 9223372036854775807) (hl : l.length ≤ cap) (hok : ∀ c ∈ l, c.ok) (h0 : 0 ≤ left) (h1 : left ≤ 1048576) :
    Calls Try.prog 4 #[.slice (some ⟨b, off, none⟩) l.length cap, .int .i64 left] w fun e w' => ∃ r : Int, e = .returned (.int .i64 r) ∧ ((r < 0) ∨ (0 ≤ r ∧ r = left - l.length - szAll l)) ∧ Below w.heap.size w w' := by
  by_cases c1 : left - l.length < 0
  · go_enter Try.func4, Try.ntmps4
    go_wp2
    go_ret
    exact ⟨_, rfl, .inl (by decide), Below.refl _ _⟩
  have c2 : (l.length : Int) ≤ left := by omega
  go_enter Try.func4, Try.ntmps4
  go_wp2_with fail
  go_loopw [1, 5] (fun u i wr => ∃ (k : Nat) (q : Int), k ≤ l.length ∧ i = .int .i64 k ∧ u = .int .i64 q ∧ 0 ≤ q ∧ q ≤ 1048576 ∧ Hid (q = left - l.length - szAll (l.take k)) ∧ Below w.heap.size w wr) (fun _ i _ => l.length - (intOf i).toNat)
  case atStart => exact ⟨0, _, by omega, rfl, rfl, by omega, by omega, by simp [Hid, szAll], Below.refl _ _⟩
  case round =>
    obtain ⟨k, q, hk, rfl, rfl, hq0, hq1, hq, hbel⟩ := hrel
    by_cases hlt : k < l.length
    · obtain ⟨c, hc⟩ : ∃ c, c = l.getD k M.zero := ⟨_, rfl⟩
      have hco := hok _ (getD_mem l k hlt)
      obtain ⟨f0, f1, f2, f3, f4⟩ := (hrow.below hbel hb) k hlt
      have hst := hide (szAll_take l k hlt)
      rw [← hc] at hco f0 f1 f2 f3 f4 hst
      have hsz1 := hco.2.2.2.1
      have hsz2 := hco.2.2.2.2
      clear hco
      have HC := hide hc
      clear hc
      go_wp2_with fail
      refine (szCell_any c.kind c.num c.n q c.text c.key _ hq0 hq1 hsz1 hsz2).mono ?_
      rintro e w1 ⟨r, rfl, hr, hb1⟩
      have hb2 : Below w.heap.size w w1 := hbel.trans (hb1.mono (by exact hbel.size))
      rcases hr with rfl | ⟨hr0, hr1⟩
      · go_wp2_with fail
        go_ret
        exact ⟨_, rfl, .inl (by decide), hb2⟩
      · have hr2 : r ≤ 1048576 := by omega
        have HR := hide hr1
        clear hr1
        go_wp2_with fail
        go_roundw
        case rel =>
          refine ⟨k + 1, r, by omega, by go_num, rfl, hr0, hr2, ?_, hb2⟩
          have e1 := unhide hst
          have e2 := unhide HR
          have e3 := hq.out
          show r = _
          rw [e1]; omega
        case measure => simp [intOf]; omega
    · have hke : k = l.length := by omega
      have e3 := hq
      rw [hke, List.take_length] at e3
      clear hq hke
      go_wp2_with fail
      go_ret
      exact ⟨_, rfl, .inr ⟨hq0, e3.out⟩, hbel⟩

set_option maxHeartbeats 400000 in
/-- laws.szCellS of a slice that has none. -/
theorem szCellS_none (a : Option Addr) (cap : Nat) (left : Int) (w : World) (hcap : cap ≤ 9223372036854775807) (h0 : 0 ≤ left) (h1 : left ≤ 1048576) :
    Calls Try.prog 4 #[.slice a 0 cap, .int .i64 left] w fun e w' => e = .returned (.int .i64 left) ∧ Below w.heap.size w w' := by
  go_enter Try.func4, Try.ntmps4
  go_wp2_with fail
  refine wp_loop_rounds 1 ?_
  rw [rounds_succ]
  go_wp2_with fail
  go_ret
  exact ⟨by simp, Below.refl _ _⟩

end Go.Proofs.Ytlmibdddfjbbdaa

namespace Go.Proofs.Ytlmibdddfjbbdaa
open Go.RowKit
set_option linter.unusedVariables false

theorem Try.info41 : (Try.prog.info? 41).map (fun i => (i.zero, i.size, i.bytes)) = some (some (.agg #[.int .i64 0, .int .i64 0, .string ByteArray.empty, .string ByteArray.empty, .int .i64 0]), 5, 56) := by kernel_rfl
theorem Try.info24 : (Try.prog.info? 24).map (fun i => (i.zero, i.size, i.bytes)) = some (some (.slice none 0 0), 1, 24) := by kernel_rfl
theorem Try.info9 : (Try.prog.info? 9).map (fun i => (i.zero, i.size, i.bytes)) = some (some (.string ByteArray.empty), 1, 16) := by kernel_rfl

/-- What make lays for n cells. -/
def mk5 (n : Nat) : Array Value := madeCells #[.int .i64 0, .int .i64 0, .string ByteArray.empty, .string ByteArray.empty, .int .i64 0] (n * 5)
theorem size_mk5 (n : Nat) : (mk5 n).size = n * 5 := by simp [mk5, size_madeCells]

theorem make_cells (n : Nat) (hn : n ≤ 1048576) (w : World) :
    (Instr.makeSlice 24 (.int .i64 (n : Int)) (.int .i64 (n : Int))).run Try.prog w = .ok (.slice (some ⟨w.heap.size, 0, none⟩) n n) (w.alloc (.cells (mk5 n) 41)) := by
  obtain ⟨i, hi, hz⟩ := Option.map_eq_some_iff.1 Try.info41
  simp only [Prod.mk.injEq] at hz
  obtain ⟨h1, h2, h3⟩ := hz
  have := run_make (P := Try.prog) w 24 41 i _ Try.underlying24 hi h1 .i64 .i64 (n : Int) (n : Int) (by omega) (by omega) (by rw [h3]; omega) (by omega)
  rw [this, h2]
  simp only [Int.toNat_natCast]
  rfl

theorem some_of_lt {xs : List Value} {j : Nat} (h : j < xs.length) : ∃ v, xs[j]? = some v := ⟨xs[j], List.getElem?_eq_getElem h⟩

set_option maxHeartbeats 800000 in
/-- laws.toCellS of a slice that has cells. -/
theorem toCellS_any (b off cap : Nat) (l : List M.Cl) (w : World) (hrow : Row w b off l) (hb : b < w.heap.size) (hcap : cap ≤ 9223372036854775807) (hl : l.length ≤ cap) (hn : l.length ≤ 1048576) :
    Calls Try.prog 6 #[.slice (some ⟨b, off, none⟩) l.length cap] w fun e w' => e = .returned (.slice (some ⟨w.heap.size, 0, none⟩) l.length l.length) ∧ OwnRow w' w.heap.size 41 l ∧ Below w.heap.size w w' := by
  have hmk := make_cells l.length hn
  go_enter Try.func6, Try.ntmps6
  go_wp2_with fail
  go_loopw [4] (fun i wr => ∃ (k : Nat) (xs : List Value), k ≤ l.length ∧ i = .int .i64 k ∧ Own wr w.heap.size 41 xs ∧ Words xs l k ∧ Below w.heap.size w wr) (fun i _ => l.length - (intOf i).toNat)
  case atStart => exact ⟨0, (mk5 l.length).toList, by omega, rfl, ⟨_, heap_alloc_new _ _, rfl⟩, ⟨by simp [size_mk5], fun i hi => absurd hi (by omega)⟩, (Below.refl _ _).alloc (Nat.le_refl _) _⟩
  case round =>
    obtain ⟨k, xs, hk, rfl, hown, hwords, hbel⟩ := hrel
    clear hmk
    by_cases hlt : k < l.length
    · obtain ⟨c, hc⟩ : ∃ c, c = l.getD k M.zero := ⟨_, rfl⟩
      obtain ⟨f0, f1, f2, f3, f4⟩ := (hrow.below hbel hb) k hlt
      rw [← hc] at f0 f1 f2 f3 f4
      have HC := hide hc
      clear hc
      go_wp2_with fail
      refine (toCell_any c.kind c.num c.n c.text c.key _).mono ?_
      rintro e w1 ⟨rfl, hb1⟩
      have hown1 := hown.below hb1 hown.lt
      have hlen : l.length * 5 = xs.length := hwords.1.symm
      obtain ⟨v0, g0⟩ := some_of_lt (xs := xs) (j := k * 5) (by omega)
      obtain ⟨v1, g1⟩ := some_of_lt (xs := xs) (j := k * 5 + 1) (by omega)
      obtain ⟨v2, g2⟩ := some_of_lt (xs := xs) (j := k * 5 + 2) (by omega)
      obtain ⟨v3, g3⟩ := some_of_lt (xs := xs) (j := k * 5 + 3) (by omega)
      obtain ⟨v4, g4⟩ := some_of_lt (xs := xs) (j := k * 5 + 4) (by omega)
      have i0 := (hown1.cell (k * 5)).trans g0
      have i1 := (hown1.cell (k * 5 + 1)).trans g1
      have i2 := (hown1.cell (k * 5 + 2)).trans g2
      have i3 := (hown1.cell (k * 5 + 3)).trans g3
      have i4 := (hown1.cell (k * 5 + 4)).trans g4
      have z0 := hown1.frozen (k * 5)
      have z1 := hown1.frozen (k * 5 + 1)
      have z2 := hown1.frozen (k * 5 + 2)
      have z3 := hown1.frozen (k * 5 + 3)
      have z4 := hown1.frozen (k * 5 + 4)
      have HL := hide hlen
      clear hlen g0 g1 g2 g3 g4 f0 f1 f2 f3 f4
      go_wp2_with fail
      go_roundw
      case rel =>
        refine ⟨k + 1, _, by omega, by go_num, ((((hown1.set _ _).set _ _).set _ _).set _ _).set _ _, hwords.step hlt c (unhide HC), ?_⟩
        exact (((((hbel.trans (hb1.mono hbel.size)).setCell (Nat.le_refl _) _).setCell (Nat.le_refl _) _).setCell (Nat.le_refl _) _).setCell (Nat.le_refl _) _).setCell (Nat.le_refl _) _
      case measure => simp [intOf]; omega
    · have hke : k = l.length := by omega
      have hfin : OwnRow wr w.heap.size 41 l := ⟨xs, hown, hke ▸ hwords⟩
      clear hke
      go_wp2_with fail
      go_ret
      exact ⟨rfl, hfin, hbel⟩

set_option maxHeartbeats 400000 in
/-- laws.toCellS of a slice that has none. -/
theorem toCellS_none (a : Option Addr) (cap : Nat) (w : World) (hcap : cap ≤ 9223372036854775807) :
    Calls Try.prog 6 #[.slice a 0 cap] w fun e w' => e = .returned (.slice (some ⟨w.heap.size, 0, none⟩) 0 0) ∧ OwnRow w' w.heap.size 41 [] ∧ Below w.heap.size w w' := by
  have hmk : ∀ w, (Instr.makeSlice 24 (.int .i64 0) (.int .i64 0)).run Try.prog w = .ok (.slice (some ⟨w.heap.size, 0, none⟩) 0 0) (w.alloc (.cells (mk5 0) 41)) := make_cells 0 (by omega)
  go_enter Try.func6, Try.ntmps6
  go_wp2_with fail
  refine wp_loop_rounds 1 ?_
  rw [rounds_succ]
  go_wp2_with fail
  go_ret
  exact ⟨rfl, ⟨(mk5 0).toList, ⟨_, heap_alloc_new _ _, rfl⟩, ⟨by simp [size_mk5], fun i hi => absurd hi (by simp)⟩⟩, (Below.refl _ _).alloc (Nat.le_refl _) _⟩

end Go.Proofs.Ytlmibdddfjbbdaa

namespace Go.Proofs.Ytlmibdddfjbbdaa
open Go.RowKit
set_option linter.unusedVariables false

set_option maxHeartbeats 400000 in
theorem eqCell_same (kind num n : Int) (text key : ByteArray) (w : World) :
    Calls Try.prog 22 #[.agg #[.int .i64 kind, .int .i64 num, .string text, .string key, .int .i64 n], .agg #[.int .i64 kind, .int .i64 num, .string text, .string key, .int .i64 n]] w fun e w' => e = .returned (.bool true) ∧ Below w.heap.size w w' := by
  go_enter Try.func22, Try.ntmps22
  go_wp2
  go_ret
  exact ⟨rfl, ((Below.refl _ _).alloc (Nat.le_refl _) _).alloc (by simp) _⟩

set_option maxHeartbeats 800000 in
theorem eqCellS_same (b off cap b' off' cap' : Nat) (l : List M.Cl) (w : World) (hrow : Row w b off l) (hb : b < w.heap.size) (hrow' : Row w b' off' l) (hb' : b' < w.heap.size) (hcap : l.length ≤ 1048576) (h1 : l.length ≤ cap) (h2 : l.length ≤ cap') :
    Calls Try.prog 9 #[.slice (some ⟨b, off, none⟩) l.length cap, .slice (some ⟨b', off', none⟩) l.length cap'] w fun e w' => e = .returned (.bool true) ∧ Below w.heap.size w w' := by
  go_enter Try.func9, Try.ntmps9
  go_wp2_with fail
  go_loopw [5] (fun i wr => ∃ k : Nat, k ≤ l.length ∧ i = .int .i64 k ∧ Below w.heap.size w wr) (fun i _ => l.length - (intOf i).toNat)
  case atStart => exact ⟨0, by omega, rfl, Below.refl _ _⟩
  case round =>
    obtain ⟨k, hk, rfl, hbel⟩ := hrel
    by_cases hlt : k < l.length
    · obtain ⟨c, hc⟩ : ∃ c, c = l.getD k M.zero := ⟨_, rfl⟩
      obtain ⟨f0, f1, f2, f3, f4⟩ := (hrow.below hbel hb) k hlt
      obtain ⟨g0, g1, g2, g3, g4⟩ := (hrow'.below hbel hb') k hlt
      rw [← hc] at f0 f1 f2 f3 f4 g0 g1 g2 g3 g4
      clear hc
      go_wp2_with fail
      go_region_with (go_at_call 22; refine (eqCell_same c.kind c.num c.n c.text c.key _).mono ?_; rintro e w1 ⟨rfl, hb1⟩)
      all_goals
        go_wp2_with fail
        go_roundw
        case rel => exact ⟨k + 1, by omega, by go_num, hbel.drew.trans (hb1.mono (by exact hbel.size))⟩
        case measure => simp [intOf]; omega
    · go_wp2_with fail
      go_ret
      exact ⟨rfl, hbel⟩

end Go.Proofs.Ytlmibdddfjbbdaa
