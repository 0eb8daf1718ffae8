/-
  spec.ChildrenAt and impl.ChildrenAt answer alike.
-/
import Derived.Test.YthbiclpifeobkaaS24
namespace Go.Proofs.Ythbiclpifeobkaa
open Go.RowKit
set_option linter.unusedVariables false

/-- What ChildrenAt answers. -/
def childOut (v : List M.Cl) (at' : Int) : Int × List Int := if asked v at' ≠ 0 then (asked v at', []) else (0, firstPl v at'.toNat (M.arity v at'.toNat))
theorem child_bad {v : List M.Cl} {at' : Int} (h : asked v at' ≠ 0) : childOut v at' = (asked v at', []) := by unfold childOut; rw [if_pos h]
theorem child_ok {v : List M.Cl} {at' : Int} (h : asked v at' = 0) : childOut v at' = (0, firstPl v at'.toNat (M.arity v at'.toNat)) := by unfold childOut; rw [if_neg (by simp [h])]

set_option maxHeartbeats 1000000 in
theorem implChildrenAt_any (v : List M.Cl) (b off cap : Nat) (at' : Int) (w : World) (hrow : Row w b off v) (hb : b < w.heap.size) (hn : v.length ≤ 1048576) (hcap : v.length ≤ cap) (hok : ∀ c ∈ v, c.ok) :
    Calls Try.prog 18 #[.slice (some ⟨b, off, none⟩) v.length cap, .int .i64 at'] w fun e w' => ∃ s, e = .returned (.agg #[.int .i64 (childOut v at').1, s]) ∧ ResI w' w.heap.size s (childOut v at').2 ∧ Below w.heap.size w w' := by
  have OK := hide hok
  clear hok
  have B0 : ∀ o, Below w.heap.size w (w.alloc o) := fun o => (Below.refl _ _).alloc (Nat.le_refl _) _
  have HB0 := hide B0
  clear B0
  go_enter Try.func18, Try.ntmps18
  go_wp2_with fail
  refine (placeFault_any v b off cap at' _ (hrow.below ((unhide HB0) _) hb) (by simp; omega) hn hcap (unhide OK)).mono ?_
  rintro e1 w1 ⟨rfl, hb1⟩
  have hR : Own w1 w.heap.size 37 [.int .i64 0, .slice none 0 0] := Own.below ⟨_, heap_alloc_new _ _, rfl⟩ hb1 (by simp)
  have B1 : Below w.heap.size w w1 := ((unhide HB0) _).trans (hb1.mono (by simp))
  generalize hq : asked v at' = q
  by_cases hz : q = 0
  · subst hz
    have fin := hide (child_ok hq)
    obtain ⟨hv, a0, a1⟩ := asked_zero hq
    have HV := hide hv
    clear hq hv
    obtain ⟨a, rfl⟩ := Int.eq_ofNat_of_zero_le a0
    rw [Int.toNat_natCast] at fin
    go_wp2_with fail
    refine (childPlaces_any v b off cap a _ (unhide HV) (by omega) (hrow.below B1 hb) (Nat.lt_of_lt_of_le hb B1.size) hcap).mono ?_
    rintro e2 w2 ⟨s, rfl, hr2, hb2⟩
    have hR2 := hR.below hb2 hR.lt
    have B2 : Below w.heap.size w w2 := B1.trans (hb2.mono B1.size)
    have r0 := hR2.cell 0
    have r1 := hR2.cell 1
    have z0 := hR2.frozen 0
    have z1 := hR2.frozen 1
    simp only [List.getElem?_cons_zero, List.getElem?_cons_succ] at r0 r1
    have hne : ∀ b, s.ownBlock = some b → b ≠ w.heap.size := fun b h => by have := hr2.base b h; have := hR.lt; omega
    have hr3 : ∀ x y, ResI ((w2.setCell ⟨w.heap.size, 0, none⟩ x).setCell ⟨w.heap.size, 1, none⟩ y) w.heap.size s (firstPl v a (M.arity v a)) := fun x y => ((hr2.mono B1.size).setOther _ _ hne).setOther _ _ hne
    have HR3 := hide hr3
    have hsh := hr2.shape
    obtain ⟨a1, m1, c1, rfl⟩ := hsh
    clear hr2 hr3 hb2 hne
    go_wp2_with fail
    refine bodyPost_ret (v := .agg #[.int .i64 0, .slice a1 m1 c1]) (by simp [results, Try.results18, go_sem, r0, r1]) rfl ⟨.slice a1 m1 c1, by rw [unhide fin], ?_, ?_⟩
    · rw [unhide fin]; exact (unhide HR3) _ _
    · exact (B2.setCell (Nat.le_refl _) _).setCell (Nat.le_refl _) _
  · have fin := hide ((child_bad (v := v) (at' := at') (by rw [hq]; exact hz)).trans (by rw [hq]))
    have hz' : (q == 0) = false := by simp [hz]
    have r0 := hR.cell 0
    have r1 := hR.cell 1
    have z0 := hR.frozen 0
    have z1 := hR.frozen 1
    simp only [List.getElem?_cons_zero, List.getElem?_cons_succ] at r0 r1
    clear hq
    go_wp2_with fail
    refine bodyPost_ret (v := .agg #[.int .i64 q, .slice none 0 0]) (by simp [results, Try.results18, go_sem, r0, r1]) rfl ⟨.slice none 0 0, by rw [unhide fin], ?_, ?_⟩
    · rw [unhide fin]; exact ⟨by simp, .inl ⟨rfl, rfl⟩⟩
    · exact (B1.setCell (Nat.le_refl _) _).setCell (Nat.le_refl _) _

end Go.Proofs.Ythbiclpifeobkaa
