/-
  spec.EndAt and impl.EndAt answer alike; laws.eqIntResult tells it.
-/
import Derived.Test.YthkofafbnbjbbaeEndT
import Derived.Test.YthkofafbnbjbbaeArg
namespace Go.Proofs.Ythkofafbnbjbbae
open Go.RowKit
set_option linter.unusedVariables false

/-- What EndAt answers. -/
def endAtOut (v : List M.Cl) (at' : Int) : Int × Int := if asked v at' ≠ 0 then (asked v at', 0) else (0, (M.endOf v at'.toNat : Int))
theorem endAt_bad {v : List M.Cl} {at' : Int} (h : asked v at' ≠ 0) : endAtOut v at' = (asked v at', 0) := by unfold endAtOut; rw [if_pos h]
theorem endAt_ok {v : List M.Cl} {at' : Int} (h : asked v at' = 0) : endAtOut v at' = (0, (M.endOf v at'.toNat : Int)) := by unfold endAtOut; rw [if_neg (by simp [h])]

set_option maxHeartbeats 1000000 in
theorem eqIntResult_same (x y : Int) (w : World) :
    Calls Try.prog 12 #[.agg #[.int .i64 x, .int .i64 y], .agg #[.int .i64 x, .int .i64 y]] w fun e w' => e = .returned (.bool true) ∧ Below w.heap.size w w' := by
  go_enter Try.func12, Try.ntmps12
  go_wp2
  go_ret
  exact ⟨rfl, ((Below.refl _ _).alloc (Nat.le_refl _) _).alloc (by simp) _⟩

set_option maxHeartbeats 1000000 in
theorem specEndAt_any (v : List M.Cl) (b off cap : Nat) (at' : Int) (w : World) (hrow : Row w b off v) (hb : b < w.heap.size) (hn : v.length ≤ 1048576) (hcap : v.length ≤ cap) (hok : ∀ c ∈ v, c.ok) :
    Calls Try.prog 10 #[.slice (some ⟨b, off, none⟩) v.length cap, .int .i64 at'] w fun e w' => e = .returned (.agg #[.int .i64 (endAtOut v at').1, .int .i64 (endAtOut v at').2]) ∧ Below w.heap.size w w' := by
  have OK := hide hok
  clear hok
  have B0 : ∀ o, Below w.heap.size w (w.alloc o) := fun o => (Below.refl _ _).alloc (Nat.le_refl _) _
  have HB0 := hide B0
  clear B0
  go_enter Try.func10, Try.ntmps10
  go_wp2_with fail
  refine (l1Asked_any v b off cap at' _ (hrow.below ((unhide HB0) _) hb) (by simp; omega) hn hcap (unhide OK)).mono ?_
  rintro e1 w1 ⟨rfl, hb1⟩
  have hR : Own w1 w.heap.size 30 [.int .i64 0, .int .i64 0] := Own.below ⟨_, heap_alloc_new _ _, rfl⟩ hb1 (by simp)
  have B1 : Below w.heap.size w w1 := ((unhide HB0) _).trans (hb1.mono (by simp))
  have r0 := hR.cell 0
  have r1 := hR.cell 1
  have z0 := hR.frozen 0
  have z1 := hR.frozen 1
  simp only [List.getElem?_cons_zero, List.getElem?_cons_succ] at r0 r1
  generalize hq : asked v at' = q
  by_cases hz : q = 0
  · subst hz
    have fin := hide (endAt_ok hq)
    obtain ⟨hv, a0, a1⟩ := asked_zero hq
    have HV := hide hv
    clear hq hv
    obtain ⟨a, rfl⟩ := Int.eq_ofNat_of_zero_le a0
    rw [Int.toNat_natCast] at fin
    clear r0 r1 z0 z1
    go_wp2_with fail
    refine (l1End_any v b off cap a _ (unhide HV) (by omega) (hrow.below B1 hb) (Nat.lt_of_lt_of_le hb B1.size) hcap (unhide OK)).mono ?_
    rintro e2 w2 ⟨rfl, hb2⟩
    have hR2 := hR.below hb2 hR.lt
    have B2 : Below w.heap.size w w2 := B1.trans (hb2.mono B1.size)
    have r0 := hR2.cell 0
    have r1 := hR2.cell 1
    have z0 := hR2.frozen 0
    have z1 := hR2.frozen 1
    simp only [List.getElem?_cons_zero, List.getElem?_cons_succ] at r0 r1
    go_wp2_with fail
    refine bodyPost_ret (v := .agg #[.int .i64 0, .int .i64 (M.endOf v a)]) (by simp [results, Try.results10, go_sem, r0, r1]) rfl ⟨by rw [unhide fin], ?_⟩
    exact (B2.setCell (Nat.le_refl _) _).setCell (Nat.le_refl _) _
  · have fin := hide ((endAt_bad (v := v) (at' := at') (by rw [hq]; exact hz)).trans (by rw [hq]))
    have hz' : (q == 0) = false := by simp [hz]
    clear hq
    go_wp2_with fail
    refine bodyPost_ret (v := .agg #[.int .i64 q, .int .i64 0]) (by simp [results, Try.results10, go_sem, r0, r1]) rfl ⟨by rw [unhide fin], ?_⟩
    exact (B1.setCell (Nat.le_refl _) _).setCell (Nat.le_refl _) _

set_option maxHeartbeats 1000000 in
theorem implEndAt_any (v : List M.Cl) (b off cap : Nat) (at' : Int) (w : World) (hrow : Row w b off v) (hb : b < w.heap.size) (hn : v.length ≤ 1048576) (hcap : v.length ≤ cap) (hok : ∀ c ∈ v, c.ok) :
    Calls Try.prog 11 #[.slice (some ⟨b, off, none⟩) v.length cap, .int .i64 at'] w fun e w' => e = .returned (.agg #[.int .i64 (endAtOut v at').1, .int .i64 (endAtOut v at').2]) ∧ Below w.heap.size w w' := by
  have OK := hide hok
  clear hok
  have B0 : ∀ o, Below w.heap.size w (w.alloc o) := fun o => (Below.refl _ _).alloc (Nat.le_refl _) _
  have HB0 := hide B0
  clear B0
  go_enter Try.func11, Try.ntmps11
  go_wp2_with fail
  refine (placeFault_any v b off cap at' _ (hrow.below ((unhide HB0) _) hb) (by simp; omega) hn hcap (unhide OK)).mono ?_
  rintro e1 w1 ⟨rfl, hb1⟩
  have hR : Own w1 w.heap.size 30 [.int .i64 0, .int .i64 0] := Own.below ⟨_, heap_alloc_new _ _, rfl⟩ hb1 (by simp)
  have B1 : Below w.heap.size w w1 := ((unhide HB0) _).trans (hb1.mono (by simp))
  have r0 := hR.cell 0
  have r1 := hR.cell 1
  have z0 := hR.frozen 0
  have z1 := hR.frozen 1
  simp only [List.getElem?_cons_zero, List.getElem?_cons_succ] at r0 r1
  generalize hq : asked v at' = q
  by_cases hz : q = 0
  · subst hz
    have fin := hide (endAt_ok hq)
    obtain ⟨hv, a0, a1⟩ := asked_zero hq
    have HV := hide hv
    clear hq hv
    obtain ⟨a, rfl⟩ := Int.eq_ofNat_of_zero_le a0
    rw [Int.toNat_natCast] at fin
    clear r0 r1 z0 z1
    go_wp2_with fail
    refine (endOf_any v b off cap a _ (unhide HV) (by omega) (hrow.below B1 hb) (Nat.lt_of_lt_of_le hb B1.size) hcap).mono ?_
    rintro e2 w2 ⟨rfl, hw2⟩
    subst hw2
    have hR2 := hR
    have B2 := B1
    have r0 := hR2.cell 0
    have r1 := hR2.cell 1
    have z0 := hR2.frozen 0
    have z1 := hR2.frozen 1
    simp only [List.getElem?_cons_zero, List.getElem?_cons_succ] at r0 r1
    go_wp2_with fail
    refine bodyPost_ret (v := .agg #[.int .i64 0, .int .i64 (M.endOf v a)]) (by simp [results, Try.results11, go_sem, r0, r1]) rfl ⟨by rw [unhide fin], ?_⟩
    exact (B2.setCell (Nat.le_refl _) _).setCell (Nat.le_refl _) _
  · have fin := hide ((endAt_bad (v := v) (at' := at') (by rw [hq]; exact hz)).trans (by rw [hq]))
    have hz' : (q == 0) = false := by simp [hz]
    clear hq
    go_wp2_with fail
    refine bodyPost_ret (v := .agg #[.int .i64 q, .int .i64 0]) (by simp [results, Try.results11, go_sem, r0, r1]) rfl ⟨by rw [unhide fin], ?_⟩
    exact (B1.setCell (Nat.le_refl _) _).setCell (Nat.le_refl _) _

end Go.Proofs.Ythkofafbnbjbbae
