/-
  The laws' own helpers over cells: what they measure, copy and compare, each by its contract.
  laws.toCellS copies a list of cells into a row of its own; laws.eqCell and laws.eqCellS tell whether cells are alike.
  laws.eqCell and laws.eqCellS: cells that are alike are told alike.
  A slice of bytes that came in as an argument.
  spec.EndAt and impl.EndAt answer alike; laws.eqIntResult tells it.
-/
import Derived.Test.YthbiclpifeobkaaS00
import Derived.Test.YthbiclpifeobkaaS01
import Derived.Test.YthbiclpifeobkaaS09
import Derived.Deep.RegionWith
import Derived.Deep.Slices
import Derived.OpenShut
import Derived.ProofKit
namespace Go.Proofs.Ythbiclpifeobkaa
open Go.RowKit
set_option linter.unusedVariables false

end Go.Proofs.Ythbiclpifeobkaa

namespace Go.Proofs.Ythbiclpifeobkaa
open Go.RowKit
set_option linter.unusedVariables false

theorem Try.info44 : (Try.prog.info? 44).map (fun i => (i.zero, i.size, i.bytes)) = some (some (.agg #[.int .i64 0, .int .i64 0, .string ByteArray.empty, .string ByteArray.empty, .int .i64 0]), 5, 56) := by kernel_rfl
theorem Try.info24 : (Try.prog.info? 24).map (fun i => (i.zero, i.size, i.bytes)) = some (some (.slice none 0 0), 1, 24) := by kernel_rfl
theorem Try.info9 : (Try.prog.info? 9).map (fun i => (i.zero, i.size, i.bytes)) = some (some (.string ByteArray.empty), 1, 16) := by kernel_rfl

/-- What make lays for n cells. -/
def mk5 (n : Nat) : Array Value := madeCells #[.int .i64 0, .int .i64 0, .string ByteArray.empty, .string ByteArray.empty, .int .i64 0] (n * 5)
theorem size_mk5 (n : Nat) : (mk5 n).size = n * 5 := by simp [mk5, size_madeCells]

theorem make_cells (n : Nat) (hn : n ≤ 1048576) (w : World) :
    (Instr.makeSlice 24 (.int .i64 (n : Int)) (.int .i64 (n : Int))).run Try.prog w = .ok (.slice (some ⟨w.heap.size, 0, none⟩) n n) (w.alloc (.cells (mk5 n) 44)) := by
  obtain ⟨i, hi, hz⟩ := Option.map_eq_some_iff.1 Try.info44
  simp only [Prod.mk.injEq] at hz
  obtain ⟨h1, h2, h3⟩ := hz
  have := run_make (P := Try.prog) w 24 44 i _ Try.underlying24 hi h1 .i64 .i64 (n : Int) (n : Int) (by omega) (by omega) (by rw [h3]; omega) (by omega)
  rw [this, h2]
  simp only [Int.toNat_natCast]
  rfl

theorem some_of_lt {xs : List Value} {j : Nat} (h : j < xs.length) : ∃ v, xs[j]? = some v := ⟨xs[j], List.getElem?_eq_getElem h⟩

end Go.Proofs.Ythbiclpifeobkaa

namespace Go.Proofs.Ythbiclpifeobkaa
open Go.RowKit
set_option linter.unusedVariables false

end Go.Proofs.Ythbiclpifeobkaa

namespace Go.Proofs.Ythbiclpifeobkaa
open Go.RowKit Go.ChangeShapes Go.WideShapes
set_option linter.unusedVariables false
set_option linter.unusedSimpArgs false

/-- What the walks are told of a slice of bytes. -/
def Byts (w : World) (a : Option Addr) (len cap : Nat) : Prop := len ≤ cap ∧ ∀ i, i < len → ∃ b off c : Nat, a = some ⟨b, off, none⟩ ∧ b < w.heap.size ∧ c ≤ 255 ∧ w.cell? ⟨b, off + i, none⟩ = some (.int .u8 (c : Int))
theorem cellsU8 : Try.prog.cellsOf 5 = 1 := by kernel_rfl
theorem bounds_u8 {n : Int} (h : (Lit.int .u8 n).wf = true) : 0 ≤ n ∧ n ≤ 255 := by
  simp [Lit.wf, IntKind.min, IntKind.max, IntKind.signed, IntKind.bits] at h
  omega
section
variable {H : Type} {enc : TypeId × Value → H} {w : World} {base : Nat} {spare : Nat → Bool} {held : Bool}
theorem open_byts {a : Option Addr} {len cap fuel : Nat} {x : DataW H × List MemPlace} (h : DataW.trod enc Try.prog w base spare held fuel 22 [.slice a len cap] = some x) : Byts w a len cap := by
  rcases Go.Deep.open_slice Try.underlying22 h with ⟨hcs, _⟩ | ⟨ad, len', cap', m, n, D, Pl, hcs, _, hl, hm, hmm, hx, hel⟩
  · simp only [List.cons.injEq, Value.slice.injEq, and_true] at hcs
    obtain ⟨rfl, rfl, rfl⟩ := hcs
    exact ⟨by omega, fun i hi => absurd hi (by omega)⟩
  · simp only [List.cons.injEq, Value.slice.injEq, and_true] at hcs
    obtain ⟨rfl, rfl, rfl⟩ := hcs
    rw [cellsU8] at hel
    have hlm : len ≤ m := by rw [hmm]; split <;> omega
    refine ⟨by simpa using hl, fun i hi => ?_⟩
    obtain ⟨cs', h1, h2⟩ := hel i (by omega)
    obtain ⟨c, e, _, hw⟩ := DataW.trod_int Try.underlying5 h2
    subst e
    have hb := bounds_u8 hw
    obtain ⟨b, off, spot⟩ := ad
    have c0 := (World.cells?_some h1).2.2 0 (by omega)
    have hs : spot = none := by
      obtain ⟨cs0, g1, g2⟩ := hel 0 (by omega)
      obtain ⟨c', e', _, _⟩ := DataW.trod_int Try.underlying5 g2
      subst e'
      have := World.cell?_spot (((World.cells?_some g1).2.2 0 (by omega)).trans rfl)
      simpa [Addr.add] using this
    subst hs
    have hblk : b < w.heap.size := by
      have := block_lt_of_cell (c0.trans rfl)
      rw [add_plain, add_plain] at this
      exact this
    simp only [add_plain] at c0
    refine ⟨b, off, c.toNat, rfl, hblk, by omega, ?_⟩
    rw [show ((c.toNat : Nat) : Int) = c from Int.toNat_of_nonneg hb.1]
    simpa using c0
end
theorem lwBig_any (a : Option Addr) (len cap : Nat) (w : World) : Calls Try.prog 8 #[.slice a len cap] w fun e w' => e = .returned (.bool (decide (1048576 < len))) ∧ w' = w := by
  have hd := hide (show decide ((1048576 : Int) < (len : Int)) = decide (1048576 < len) by rw [decide_eq_decide]; omega)
  go_enter Try.func8, Try.ntmps8
  go_wp2_with fail
  all_goals (go_ret; exact ⟨ret_bool (by first | exact unhide hd | (simp [*] <;> omega)), rfl⟩)

end Go.Proofs.Ythbiclpifeobkaa

namespace Go.Proofs.Ythbiclpifeobkaa
open Go.RowKit
set_option linter.unusedVariables false

/-- What EndAt answers. -/
def endAtOut (v : List M.Cl) (at' : Int) : Int × Int := if asked v at' ≠ 0 then (asked v at', 0) else (0, (M.endOf v at'.toNat : Int))
theorem endAt_bad {v : List M.Cl} {at' : Int} (h : asked v at' ≠ 0) : endAtOut v at' = (asked v at', 0) := by unfold endAtOut; rw [if_pos h]
theorem endAt_ok {v : List M.Cl} {at' : Int} (h : asked v at' = 0) : endAtOut v at' = (0, (M.endOf v at'.toNat : Int)) := by unfold endAtOut; rw [if_neg (by simp [h])]

set_option maxHeartbeats 1000000 in
theorem implEndAt_any (v : List M.Cl) (b off cap : Nat) (at' : Int) (w : World) (hrow : Row w b off v) (hb : b < w.heap.size) (hn : v.length ≤ 1048576) (hcap : v.length ≤ cap) (hok : ∀ c ∈ v, c.ok) :
    Calls Try.prog 22 #[.slice (some ⟨b, off, none⟩) v.length cap, .int .i64 at'] w fun e w' => e = .returned (.agg #[.int .i64 (endAtOut v at').1, .int .i64 (endAtOut v at').2]) ∧ Below w.heap.size w w' := by
  have OK := hide hok
  clear hok
  have B0 : ∀ o, Below w.heap.size w (w.alloc o) := fun o => (Below.refl _ _).alloc (Nat.le_refl _) _
  have HB0 := hide B0
  clear B0
  go_enter Try.func22, Try.ntmps22
  go_wp2_with fail
  refine (placeFault_any v b off cap at' _ (hrow.below ((unhide HB0) _) hb) (by simp; omega) hn hcap (unhide OK)).mono ?_
  rintro e1 w1 ⟨rfl, hb1⟩
  have hR : Own w1 w.heap.size 48 [.int .i64 0, .int .i64 0] := Own.below ⟨_, heap_alloc_new _ _, rfl⟩ hb1 (by simp)
  have B1 : Below w.heap.size w w1 := ((unhide HB0) _).trans (hb1.mono (by simp))
  have r0 := hR.cell 0
  have r1 := hR.cell 1
  have z0 := hR.frozen 0
  have z1 := hR.frozen 1
  simp only [List.getElem?_cons_zero, List.getElem?_cons_succ] at r0 r1
  generalize hq : asked v at' = q
  by_cases hz : q = 0
  · subst hz
    have fin := hide (endAt_ok hq)
    obtain ⟨hv, a0, a1⟩ := asked_zero hq
    have HV := hide hv
    clear hq hv
    obtain ⟨a, rfl⟩ := Int.eq_ofNat_of_zero_le a0
    rw [Int.toNat_natCast] at fin
    clear r0 r1 z0 z1
    go_wp2_with fail
    refine (endOf_any v b off cap a _ (unhide HV) (by omega) (hrow.below B1 hb) (Nat.lt_of_lt_of_le hb B1.size) hcap).mono ?_
    rintro e2 w2 ⟨rfl, hw2⟩
    subst hw2
    have hR2 := hR
    have B2 := B1
    have r0 := hR2.cell 0
    have r1 := hR2.cell 1
    have z0 := hR2.frozen 0
    have z1 := hR2.frozen 1
    simp only [List.getElem?_cons_zero, List.getElem?_cons_succ] at r0 r1
    go_wp2_with fail
    refine bodyPost_ret (v := .agg #[.int .i64 0, .int .i64 (M.endOf v a)]) (by simp [results, Try.results22, go_sem, r0, r1]) rfl ⟨by rw [unhide fin], ?_⟩
    exact (B2.setCell (Nat.le_refl _) _).setCell (Nat.le_refl _) _
  · have fin := hide ((endAt_bad (v := v) (at' := at') (by rw [hq]; exact hz)).trans (by rw [hq]))
    have hz' : (q == 0) = false := by simp [hz]
    clear hq
    go_wp2_with fail
    refine bodyPost_ret (v := .agg #[.int .i64 q, .int .i64 0]) (by simp [results, Try.results22, go_sem, r0, r1]) rfl ⟨by rw [unhide fin], ?_⟩
    exact (B1.setCell (Nat.le_refl _) _).setCell (Nat.le_refl _) _

end Go.Proofs.Ythbiclpifeobkaa
