/-
  impl.orderOf, and the six orders of the table.
  impl.opTable$1: the sum of two values, by sumOf.
  slices.ContainsFunc with the function that is true of what is equal.
  spec.l3Among: a value among others.
  The difference of two numbers, and of what has none.
  spec.l3Sub of two numbers, and of what has no difference.
  What is left of an array without the elements of another one, plainly.
-/
import Derived.Test.YtemehbjlfiebdaaGreatX17
import Derived.Test.YtemehbjlfiebdaaGreatX37
import Derived.Test.YtemehbjlfiebdaaGreatX43
import Derived.Test.YtemehbjlfiebdaaGreatX45
import Derived.Test.YtemehbjlfiebdaaGreatX49
namespace Go.Proofs.YtemehbjlfiebdaaGreat
open Go.RowKit
set_option linter.unusedVariables false

set_option maxHeartbeats 1000000 in
theorem orderOf_any (v : List M.Cl) (b off cap : Nat) (u : List M.Cl) (b' off' cap' : Nat) (w : World) (hv : M.valueFault v = 0) (hu : M.valueFault u = 0) (hrow : Row w b off v) (hb : b < w.heap.size) (hn : v.length ≤ 1048576) (hcap : v.length ≤ cap) (hok : ∀ c ∈ v, c.ok) (hrow' : Row w b' off' u) (hb' : b' < w.heap.size) (hn' : u.length ≤ 1048576) (hcap' : u.length ≤ cap') (hok' : ∀ c ∈ u, c.ok) :
    Calls Tryz.prog 41 #[.slice (some ⟨b, off, none⟩) v.length cap, .slice (some ⟨b', off', none⟩) u.length cap'] w fun e w' => e = .returned (.int .i64 (cmpL v.length v u)) ∧ Below w.heap.size w w' := by
  have h1 := (M.fault_zero hv).1
  have h2 := (M.fault_zero hu).1
  have HC := hide (compareAt_any v u b off cap b' off' cap' v.length hv hu hcap hcap' 0 0 w (by omega) (by omega) (by have h3 := part_len hv (show 0 < v.length by omega); have h4 := (end_gt hv (show 0 < v.length by omega)).2; omega) hrow hb hrow' hb')
  rw [cmpL_whole hv hu] at HC
  clear hv hu hok hok' hrow hrow'
  generalize cmpL v.length v u = c at *
  go_enter Tryz.func41, Tryz.ntmps41
  go_wp2_with fail
  refine (unhide HC).mono ?_
  rintro e1 w1 ⟨rfl, hb1⟩
  go_wp2_with fail
  go_ret
  exact ⟨rfl, hb1⟩

set_option maxHeartbeats 1000000 in
theorem order2_any (v : List M.Cl) (b off cap : Nat) (u : List M.Cl) (b' off' cap' : Nat) (w : World) (hv : M.valueFault v = 0) (hu : M.valueFault u = 0) (hrow : Row w b off v) (hb : b < w.heap.size) (hn : v.length ≤ 1048576) (hcap : v.length ≤ cap) (hok : ∀ c ∈ v, c.ok) (hrow' : Row w b' off' u) (hb' : b' < w.heap.size) (hn' : u.length ≤ 1048576) (hcap' : u.length ≤ cap') (hok' : ∀ c ∈ u, c.ok) :
    Calls Tryz.prog 39 #[.slice (some ⟨b, off, none⟩) v.length cap, .slice (some ⟨b', off', none⟩) u.length cap'] w (Ans w (0, [boolCl ((cmpL v.length v u) == 0)])) := by
  obtain ⟨w0, hw0⟩ : ∃ w0, w0 = w.alloc (.cells #[.int .i64 0, .slice none 0 0] 28) := ⟨_, rfl⟩
  have HR0 : Own w0 w.heap.size 28 [.int .i64 0, .slice none 0 0] := by rw [hw0]; exact ⟨_, heap_alloc_new _ _, rfl⟩
  have B00 : Below w.heap.size w w0 := by rw [hw0]; exact (Below.refl _ _).alloc (Nat.le_refl _) _
  have HC := hide (orderOf_any v b off cap u b' off' cap' w0 hv hu (hrow.below B00 hb) (Nat.lt_of_lt_of_le hb B00.size) hn hcap hok (hrow'.below B00 hb') (Nat.lt_of_lt_of_le hb' B00.size) hn' hcap' hok')
  clear hv hu hok hok' hrow hrow'
  generalize cmpL v.length v u = c at *
  go_enter Tryz.func39, Tryz.ntmps39
  go_wp2_with fail
  rw [← hw0]
  clear hw0
  refine (unhide HC).mono ?_
  rintro e1 w1 ⟨rfl, hb1⟩
  have hR1 := HR0.below hb1 HR0.lt
  have B1 : Below w.heap.size w w1 := B00.trans (hb1.mono B00.size)
  clear hb1
  go_wp2_with fail
  refine (boolResult_any _ _).mono ?_
  rintro ec wc ⟨sc, rfl, hrc, hbc⟩
  have hRc := hR1.below hbc hR1.lt
  have r0 := hRc.cell 0
  have r1 := hRc.cell 1
  have z0 := hRc.frozen 0
  have z1 := hRc.frozen 1
  simp only [List.getElem?_cons_zero, List.getElem?_cons_succ] at r0 r1
  have HE := hide (Ans.store hrc B1 hR1.lt hbc)
  obtain ⟨ac, mc, cc, rfl⟩ := hrc.shape
  clear hrc hbc
  go_wp2_with fail
  refine bodyPost_ret (v := .agg #[.int .i64 0, .slice ac mc cc]) (by simp [results, Tryz.results39, go_sem, r0, r1]) rfl (ans_of rfl ((unhide HE) _ _).1 ((unhide HE) _ _).2)

set_option maxHeartbeats 1000000 in
theorem order3_any (v : List M.Cl) (b off cap : Nat) (u : List M.Cl) (b' off' cap' : Nat) (w : World) (hv : M.valueFault v = 0) (hu : M.valueFault u = 0) (hrow : Row w b off v) (hb : b < w.heap.size) (hn : v.length ≤ 1048576) (hcap : v.length ≤ cap) (hok : ∀ c ∈ v, c.ok) (hrow' : Row w b' off' u) (hb' : b' < w.heap.size) (hn' : u.length ≤ 1048576) (hcap' : u.length ≤ cap') (hok' : ∀ c ∈ u, c.ok) :
    Calls Tryz.prog 42 #[.slice (some ⟨b, off, none⟩) v.length cap, .slice (some ⟨b', off', none⟩) u.length cap'] w (Ans w (0, [boolCl ((cmpL v.length v u) != 0)])) := by
  obtain ⟨w0, hw0⟩ : ∃ w0, w0 = w.alloc (.cells #[.int .i64 0, .slice none 0 0] 28) := ⟨_, rfl⟩
  have HR0 : Own w0 w.heap.size 28 [.int .i64 0, .slice none 0 0] := by rw [hw0]; exact ⟨_, heap_alloc_new _ _, rfl⟩
  have B00 : Below w.heap.size w w0 := by rw [hw0]; exact (Below.refl _ _).alloc (Nat.le_refl _) _
  have HC := hide (orderOf_any v b off cap u b' off' cap' w0 hv hu (hrow.below B00 hb) (Nat.lt_of_lt_of_le hb B00.size) hn hcap hok (hrow'.below B00 hb') (Nat.lt_of_lt_of_le hb' B00.size) hn' hcap' hok')
  clear hv hu hok hok' hrow hrow'
  generalize cmpL v.length v u = c at *
  go_enter Tryz.func42, Tryz.ntmps42
  go_wp2_with fail
  rw [← hw0]
  clear hw0
  refine (unhide HC).mono ?_
  rintro e1 w1 ⟨rfl, hb1⟩
  have hR1 := HR0.below hb1 HR0.lt
  have B1 : Below w.heap.size w w1 := B00.trans (hb1.mono B00.size)
  clear hb1
  go_wp2_with fail
  refine (boolResult_any _ _).mono ?_
  rintro ec wc ⟨sc, rfl, hrc, hbc⟩
  have hRc := hR1.below hbc hR1.lt
  have r0 := hRc.cell 0
  have r1 := hRc.cell 1
  have z0 := hRc.frozen 0
  have z1 := hRc.frozen 1
  simp only [List.getElem?_cons_zero, List.getElem?_cons_succ] at r0 r1
  have HE := hide (Ans.store hrc B1 hR1.lt hbc)
  obtain ⟨ac, mc, cc, rfl⟩ := hrc.shape
  clear hrc hbc
  go_wp2_with fail
  refine bodyPost_ret (v := .agg #[.int .i64 0, .slice ac mc cc]) (by simp [results, Tryz.results42, go_sem, r0, r1]) rfl (ans_of rfl ((unhide HE) _ _).1 ((unhide HE) _ _).2)

set_option maxHeartbeats 1000000 in
theorem order4_any (v : List M.Cl) (b off cap : Nat) (u : List M.Cl) (b' off' cap' : Nat) (w : World) (hv : M.valueFault v = 0) (hu : M.valueFault u = 0) (hrow : Row w b off v) (hb : b < w.heap.size) (hn : v.length ≤ 1048576) (hcap : v.length ≤ cap) (hok : ∀ c ∈ v, c.ok) (hrow' : Row w b' off' u) (hb' : b' < w.heap.size) (hn' : u.length ≤ 1048576) (hcap' : u.length ≤ cap') (hok' : ∀ c ∈ u, c.ok) :
    Calls Tryz.prog 43 #[.slice (some ⟨b, off, none⟩) v.length cap, .slice (some ⟨b', off', none⟩) u.length cap'] w (Ans w (0, [boolCl (decide ((cmpL v.length v u) < 0))])) := by
  obtain ⟨w0, hw0⟩ : ∃ w0, w0 = w.alloc (.cells #[.int .i64 0, .slice none 0 0] 28) := ⟨_, rfl⟩
  have HR0 : Own w0 w.heap.size 28 [.int .i64 0, .slice none 0 0] := by rw [hw0]; exact ⟨_, heap_alloc_new _ _, rfl⟩
  have B00 : Below w.heap.size w w0 := by rw [hw0]; exact (Below.refl _ _).alloc (Nat.le_refl _) _
  have HC := hide (orderOf_any v b off cap u b' off' cap' w0 hv hu (hrow.below B00 hb) (Nat.lt_of_lt_of_le hb B00.size) hn hcap hok (hrow'.below B00 hb') (Nat.lt_of_lt_of_le hb' B00.size) hn' hcap' hok')
  clear hv hu hok hok' hrow hrow'
  generalize cmpL v.length v u = c at *
  go_enter Tryz.func43, Tryz.ntmps43
  go_wp2_with fail
  rw [← hw0]
  clear hw0
  refine (unhide HC).mono ?_
  rintro e1 w1 ⟨rfl, hb1⟩
  have hR1 := HR0.below hb1 HR0.lt
  have B1 : Below w.heap.size w w1 := B00.trans (hb1.mono B00.size)
  clear hb1
  go_wp2_with fail
  refine (boolResult_any _ _).mono ?_
  rintro ec wc ⟨sc, rfl, hrc, hbc⟩
  have hRc := hR1.below hbc hR1.lt
  have r0 := hRc.cell 0
  have r1 := hRc.cell 1
  have z0 := hRc.frozen 0
  have z1 := hRc.frozen 1
  simp only [List.getElem?_cons_zero, List.getElem?_cons_succ] at r0 r1
  have HE := hide (Ans.store hrc B1 hR1.lt hbc)
  obtain ⟨ac, mc, cc, rfl⟩ := hrc.shape
  clear hrc hbc
  go_wp2_with fail
  refine bodyPost_ret (v := .agg #[.int .i64 0, .slice ac mc cc]) (by simp [results, Tryz.results43, go_sem, r0, r1]) rfl (ans_of rfl ((unhide HE) _ _).1 ((unhide HE) _ _).2)

set_option maxHeartbeats 1000000 in
theorem order5_any (v : List M.Cl) (b off cap : Nat) (u : List M.Cl) (b' off' cap' : Nat) (w : World) (hv : M.valueFault v = 0) (hu : M.valueFault u = 0) (hrow : Row w b off v) (hb : b < w.heap.size) (hn : v.length ≤ 1048576) (hcap : v.length ≤ cap) (hok : ∀ c ∈ v, c.ok) (hrow' : Row w b' off' u) (hb' : b' < w.heap.size) (hn' : u.length ≤ 1048576) (hcap' : u.length ≤ cap') (hok' : ∀ c ∈ u, c.ok) :
    Calls Tryz.prog 44 #[.slice (some ⟨b, off, none⟩) v.length cap, .slice (some ⟨b', off', none⟩) u.length cap'] w (Ans w (0, [boolCl (decide ((cmpL v.length v u) ≤ 0))])) := by
  obtain ⟨w0, hw0⟩ : ∃ w0, w0 = w.alloc (.cells #[.int .i64 0, .slice none 0 0] 28) := ⟨_, rfl⟩
  have HR0 : Own w0 w.heap.size 28 [.int .i64 0, .slice none 0 0] := by rw [hw0]; exact ⟨_, heap_alloc_new _ _, rfl⟩
  have B00 : Below w.heap.size w w0 := by rw [hw0]; exact (Below.refl _ _).alloc (Nat.le_refl _) _
  have HC := hide (orderOf_any v b off cap u b' off' cap' w0 hv hu (hrow.below B00 hb) (Nat.lt_of_lt_of_le hb B00.size) hn hcap hok (hrow'.below B00 hb') (Nat.lt_of_lt_of_le hb' B00.size) hn' hcap' hok')
  clear hv hu hok hok' hrow hrow'
  generalize cmpL v.length v u = c at *
  go_enter Tryz.func44, Tryz.ntmps44
  go_wp2_with fail
  rw [← hw0]
  clear hw0
  refine (unhide HC).mono ?_
  rintro e1 w1 ⟨rfl, hb1⟩
  have hR1 := HR0.below hb1 HR0.lt
  have B1 : Below w.heap.size w w1 := B00.trans (hb1.mono B00.size)
  clear hb1
  go_wp2_with fail
  refine (boolResult_any _ _).mono ?_
  rintro ec wc ⟨sc, rfl, hrc, hbc⟩
  have hRc := hR1.below hbc hR1.lt
  have r0 := hRc.cell 0
  have r1 := hRc.cell 1
  have z0 := hRc.frozen 0
  have z1 := hRc.frozen 1
  simp only [List.getElem?_cons_zero, List.getElem?_cons_succ] at r0 r1
  have HE := hide (Ans.store hrc B1 hR1.lt hbc)
  obtain ⟨ac, mc, cc, rfl⟩ := hrc.shape
  clear hrc hbc
  go_wp2_with fail
  refine bodyPost_ret (v := .agg #[.int .i64 0, .slice ac mc cc]) (by simp [results, Tryz.results44, go_sem, r0, r1]) rfl (ans_of rfl ((unhide HE) _ _).1 ((unhide HE) _ _).2)

set_option maxHeartbeats 1000000 in
theorem order6_any (v : List M.Cl) (b off cap : Nat) (u : List M.Cl) (b' off' cap' : Nat) (w : World) (hv : M.valueFault v = 0) (hu : M.valueFault u = 0) (hrow : Row w b off v) (hb : b < w.heap.size) (hn : v.length ≤ 1048576) (hcap : v.length ≤ cap) (hok : ∀ c ∈ v, c.ok) (hrow' : Row w b' off' u) (hb' : b' < w.heap.size) (hn' : u.length ≤ 1048576) (hcap' : u.length ≤ cap') (hok' : ∀ c ∈ u, c.ok) :
    Calls Tryz.prog 45 #[.slice (some ⟨b, off, none⟩) v.length cap, .slice (some ⟨b', off', none⟩) u.length cap'] w (Ans w (0, [boolCl (decide ((cmpL v.length v u) > 0))])) := by
  obtain ⟨w0, hw0⟩ : ∃ w0, w0 = w.alloc (.cells #[.int .i64 0, .slice none 0 0] 28) := ⟨_, rfl⟩
  have HR0 : Own w0 w.heap.size 28 [.int .i64 0, .slice none 0 0] := by rw [hw0]; exact ⟨_, heap_alloc_new _ _, rfl⟩
  have B00 : Below w.heap.size w w0 := by rw [hw0]; exact (Below.refl _ _).alloc (Nat.le_refl _) _
  have HC := hide (orderOf_any v b off cap u b' off' cap' w0 hv hu (hrow.below B00 hb) (Nat.lt_of_lt_of_le hb B00.size) hn hcap hok (hrow'.below B00 hb') (Nat.lt_of_lt_of_le hb' B00.size) hn' hcap' hok')
  clear hv hu hok hok' hrow hrow'
  generalize cmpL v.length v u = c at *
  go_enter Tryz.func45, Tryz.ntmps45
  go_wp2_with fail
  rw [← hw0]
  clear hw0
  refine (unhide HC).mono ?_
  rintro e1 w1 ⟨rfl, hb1⟩
  have hR1 := HR0.below hb1 HR0.lt
  have B1 : Below w.heap.size w w1 := B00.trans (hb1.mono B00.size)
  clear hb1
  go_wp2_with fail
  refine (boolResult_any _ _).mono ?_
  rintro ec wc ⟨sc, rfl, hrc, hbc⟩
  have hRc := hR1.below hbc hR1.lt
  have r0 := hRc.cell 0
  have r1 := hRc.cell 1
  have z0 := hRc.frozen 0
  have z1 := hRc.frozen 1
  simp only [List.getElem?_cons_zero, List.getElem?_cons_succ] at r0 r1
  have HE := hide (Ans.store hrc B1 hR1.lt hbc)
  obtain ⟨ac, mc, cc, rfl⟩ := hrc.shape
  clear hrc hbc
  go_wp2_with fail
  refine bodyPost_ret (v := .agg #[.int .i64 0, .slice ac mc cc]) (by simp [results, Tryz.results45, go_sem, r0, r1]) rfl (ans_of rfl ((unhide HE) _ _).1 ((unhide HE) _ _).2)

set_option maxHeartbeats 1000000 in
theorem order7_any (v : List M.Cl) (b off cap : Nat) (u : List M.Cl) (b' off' cap' : Nat) (w : World) (hv : M.valueFault v = 0) (hu : M.valueFault u = 0) (hrow : Row w b off v) (hb : b < w.heap.size) (hn : v.length ≤ 1048576) (hcap : v.length ≤ cap) (hok : ∀ c ∈ v, c.ok) (hrow' : Row w b' off' u) (hb' : b' < w.heap.size) (hn' : u.length ≤ 1048576) (hcap' : u.length ≤ cap') (hok' : ∀ c ∈ u, c.ok) :
    Calls Tryz.prog 46 #[.slice (some ⟨b, off, none⟩) v.length cap, .slice (some ⟨b', off', none⟩) u.length cap'] w (Ans w (0, [boolCl (decide ((cmpL v.length v u) ≥ 0))])) := by
  obtain ⟨w0, hw0⟩ : ∃ w0, w0 = w.alloc (.cells #[.int .i64 0, .slice none 0 0] 28) := ⟨_, rfl⟩
  have HR0 : Own w0 w.heap.size 28 [.int .i64 0, .slice none 0 0] := by rw [hw0]; exact ⟨_, heap_alloc_new _ _, rfl⟩
  have B00 : Below w.heap.size w w0 := by rw [hw0]; exact (Below.refl _ _).alloc (Nat.le_refl _) _
  have HC := hide (orderOf_any v b off cap u b' off' cap' w0 hv hu (hrow.below B00 hb) (Nat.lt_of_lt_of_le hb B00.size) hn hcap hok (hrow'.below B00 hb') (Nat.lt_of_lt_of_le hb' B00.size) hn' hcap' hok')
  clear hv hu hok hok' hrow hrow'
  generalize cmpL v.length v u = c at *
  go_enter Tryz.func46, Tryz.ntmps46
  go_wp2_with fail
  rw [← hw0]
  clear hw0
  refine (unhide HC).mono ?_
  rintro e1 w1 ⟨rfl, hb1⟩
  have hR1 := HR0.below hb1 HR0.lt
  have B1 : Below w.heap.size w w1 := B00.trans (hb1.mono B00.size)
  clear hb1
  go_wp2_with fail
  refine (boolResult_any _ _).mono ?_
  rintro ec wc ⟨sc, rfl, hrc, hbc⟩
  have hRc := hR1.below hbc hR1.lt
  have r0 := hRc.cell 0
  have r1 := hRc.cell 1
  have z0 := hRc.frozen 0
  have z1 := hRc.frozen 1
  simp only [List.getElem?_cons_zero, List.getElem?_cons_succ] at r0 r1
  have HE := hide (Ans.store hrc B1 hR1.lt hbc)
  obtain ⟨ac, mc, cc, rfl⟩ := hrc.shape
  clear hrc hbc
  go_wp2_with fail
  refine bodyPost_ret (v := .agg #[.int .i64 0, .slice ac mc cc]) (by simp [results, Tryz.results46, go_sem, r0, r1]) rfl (ans_of rfl ((unhide HE) _ _).1 ((unhide HE) _ _).2)

end Go.Proofs.YtemehbjlfiebdaaGreat

namespace Go.Proofs.YtemehbjlfiebdaaGreat
open Go.RowKit
set_option linter.unusedVariables false

theorem sum_two (v u : List M.Cl) : sumK [v, u] 2 = addIn v u := by
  have h1 : sumK [v, u] 1 = (0, v) := (sumK_go rfl).trans (add_l rfl)
  rw [sumK_go (by rw [h1]), h1]
  rfl
theorem two_seen {w0 w2 : World} {g : Nat} {v u : List M.Cl} {b off cap b' off' cap' : Nat} (hg : g = w0.heap.size) (hw : w2 = w0.alloc (.cells #[.slice (some ⟨b, off, none⟩) v.length cap, .slice (some ⟨b', off', none⟩) u.length cap'] 24)) (hrow : Row w0 b off v) (hb : b < w0.heap.size) (hcap : v.length ≤ cap) (hrow' : Row w0 b' off' u) (hb' : b' < w0.heap.size) (hcap' : u.length ≤ cap') (bs : Nat) (hbs : w2.heap.size < bs) : Vw w2 bs (.slice (some ⟨g, 0, none⟩) 2 2) [v, u] := by
  subst hg hw
  have hB := (Below.refl w0.heap.size w0).alloc (Nat.le_refl _) (.cells #[.slice (some ⟨b, off, none⟩) v.length cap, .slice (some ⟨b', off', none⟩) u.length cap'] 24)
  have hO : Own (w0.alloc (.cells #[.slice (some ⟨b, off, none⟩) v.length cap, .slice (some ⟨b', off', none⟩) u.length cap'] 24)) w0.heap.size 24 [.slice (some ⟨b, off, none⟩) v.length cap, .slice (some ⟨b', off', none⟩) u.length cap'] := ⟨_, heap_alloc_new _ _, rfl⟩
  have hl := hO.lt
  refine ⟨_, 2, rfl, fun i hi => ?_⟩
  simp only [List.length_cons, List.length_nil] at hi
  obtain rfl | rfl : i = 0 ∨ i = 1 := by omega
  · exact ⟨w0.heap.size, 0, b, off, cap, rfl, by omega, by omega, hl, by omega, hO.cell 0, hcap, hrow.below hB hb⟩
  · exact ⟨w0.heap.size, 0, b', off', cap', rfl, by omega, by omega, hl, by omega, hO.cell 1, hcap', hrow'.below hB hb'⟩

set_option maxHeartbeats 1000000 in
theorem table1_any (v : List M.Cl) (b off cap : Nat) (u : List M.Cl) (b' off' cap' : Nat) (w : World) (hv : M.valueFault v = 0) (hu : M.valueFault u = 0) (hrow : Row w b off v) (hb : b < w.heap.size) (hn : v.length ≤ 1048576) (hcap : v.length ≤ cap) (hok : ∀ c ∈ v, c.ok) (hrow' : Row w b' off' u) (hb' : b' < w.heap.size) (hn' : u.length ≤ 1048576) (hcap' : u.length ≤ cap') (hok' : ∀ c ∈ u, c.ok) :
    Calls Tryz.prog 35 #[.slice (some ⟨b, off, none⟩) v.length cap, .slice (some ⟨b', off', none⟩) u.length cap'] w (Ans w (addIn v u)) := by
  obtain ⟨w0, hw0⟩ : ∃ w0, w0 = w.alloc (.cells #[.int .i64 0, .slice none 0 0] 28) := ⟨_, rfl⟩
  have HR0 : Own w0 w.heap.size 28 [.int .i64 0, .slice none 0 0] := by rw [hw0]; exact ⟨_, heap_alloc_new _ _, rfl⟩
  have B00 : Below w.heap.size w w0 := by rw [hw0]; exact (Below.refl _ _).alloc (Nat.le_refl _) _
  have hs0 : w0.heap.size = w.heap.size + 1 := by rw [hw0]; simp
  have HS : Hid (∀ w2, w2 = w0.alloc (.cells #[.slice (some ⟨b, off, none⟩) v.length cap, .slice (some ⟨b', off', none⟩) u.length cap'] 24) → Calls Tryz.prog 36 #[.slice (some ⟨w.heap.size + 1, 0, none⟩) 2 2] w2 (Ans w2 (addIn v u)) ∧ Own w2 w.heap.size 28 [.int .i64 0, .slice none 0 0] ∧ Below w.heap.size w w2) := fun w2 hw2 => by
    refine ⟨?_, by rw [hw2]; exact HR0.alloc _, by rw [hw2]; exact B00.alloc B00.size _⟩
    rw [← sum_two v u]
    refine sumOf_any _ [v, u] w2 (two_seen hs0.symm hw2 (hrow.below B00 hb) (Nat.lt_of_lt_of_le hb B00.size) hcap (hrow'.below B00 hb') (Nat.lt_of_lt_of_le hb' B00.size) hcap') (by simp) (fun j hj => ?_) (fun j hj => ?_)
    all_goals
      simp only [List.length_cons, List.length_nil] at hj
      obtain rfl | rfl : j = 0 ∨ j = 1 := by omega
    · exact hv
    · exact hu
    · exact hok
    · exact hok'
  generalize addIn v u = R at *
  obtain ⟨rc, rl⟩ := R
  clear hv hu hok hok' hrow hrow' hs0 HR0 B00
  go_enter Tryz.func35, Tryz.ntmps35
  go_wp2_with fail
  rw [← hw0]
  clear hw0
  obtain ⟨HC, hR1, B1⟩ := HS.out _ rfl
  refine HC.mono ?_
  rintro ec wc ⟨sc, rfl, hrc, hbc⟩
  have hRc := hR1.below hbc hR1.lt
  have r0 := hRc.cell 0
  have r1 := hRc.cell 1
  have z0 := hRc.frozen 0
  have z1 := hRc.frozen 1
  simp only [List.getElem?_cons_zero, List.getElem?_cons_succ] at r0 r1
  have HE := hide (Ans.store hrc B1 hR1.lt hbc)
  obtain ⟨ac, mc, cc, rfl⟩ := hrc.shape
  clear hrc hbc HC
  go_wp2_with fail
  refine bodyPost_ret (v := .agg #[.int .i64 rc, .slice ac mc cc]) (by simp [results, Tryz.results35, go_sem, r0, r1]) rfl (ans_of rfl ((unhide HE) _ _).1 ((unhide HE) _ _).2)

end Go.Proofs.YtemehbjlfiebdaaGreat

namespace Go.Proofs.YtemehbjlfiebdaaGreat
open Go.RowKit
set_option linter.unusedVariables false

set_option maxHeartbeats 1000000 in
theorem sameAs_any (kb : Nat) (v : List M.Cl) (b off cap : Nat) (u : List M.Cl) (b' off' cap' : Nat) (w : World) (hv : M.valueFault v = 0) (hu : M.valueFault u = 0) (hrow : Row w b off v) (hb : b < w.heap.size) (hn : v.length ≤ 1048576) (hcap : v.length ≤ cap) (hok : ∀ c ∈ v, c.ok) (hrow' : Row w b' off' u) (hb' : b' < w.heap.size) (hn' : u.length ≤ 1048576) (hcap' : u.length ≤ cap') (hok' : ∀ c ∈ u, c.ok) (hk : w.cell? ⟨kb, 0, none⟩ = some (.slice (some ⟨b, off, none⟩) v.length cap)) :
    Calls Tryz.prog 88 #[.slice (some ⟨b', off', none⟩) u.length cap', .pointer (some ⟨kb, 0, none⟩)] w fun e w' => e = .returned (.bool (cmpL v.length v u == 0)) ∧ Below w.heap.size w w' := by
  have HC := hide (orderOf_any v b off cap u b' off' cap' w hv hu hrow hb hn hcap hok hrow' hb' hn' hcap' hok')
  clear hv hu hok hok' hrow hrow'
  generalize cmpL v.length v u = c at *
  go_enter Tryz.func88, Tryz.ntmps88
  go_wp2_with fail
  refine (unhide HC).mono ?_
  rintro e1 w1 ⟨rfl, hb1⟩
  go_wp2_with fail
  go_ret
  exact ⟨rfl, hb1⟩
/-- The first of the lists that is equal to v, or -1. -/
def firstSame (ps : List (List M.Cl)) (v : List M.Cl) (r : Int) : Prop := (∃ k : Nat, k < ps.length ∧ r = k ∧ cmpL v.length v (ps.getD k []) = 0) ∨ (r = -1 ∧ ∀ k, k < ps.length → cmpL v.length v (ps.getD k []) ≠ 0)

set_option maxRecDepth 100000 in
set_option maxHeartbeats 2000000 in
theorem indexSame_any (s : Value) (ps : List (List M.Cl)) (bs kb : Nat) (v : List M.Cl) (b off cap : Nat) (w : World) (hp : Vw w bs s ps) (hn : ps.length ≤ 200) (hpv : ∀ j, j < ps.length → M.valueFault (ps.getD j []) = 0) (hpo : OkS ps) (hv : M.valueFault v = 0) (hrow : Row w b off v) (hb : b < w.heap.size) (hcap : v.length ≤ cap) (hok : ∀ c ∈ v, c.ok) (hkb : kb < w.heap.size) (hk : w.cell? ⟨kb, 0, none⟩ = some (.slice (some ⟨b, off, none⟩) v.length cap)) :
    Calls Tryz.prog 99 #[s, .func (.func 88) #[] #[.pointer (some ⟨kb, 0, none⟩)]] w fun e w' => (∃ r, e = .returned (.int .i64 r) ∧ firstSame ps v r) ∧ Below w.heap.size w w' := by
  obtain ⟨a, c, rfl, hat⟩ := hp
  have hvl := (fault_len hv).2
  have HC : Hid (∀ k wr, k < ps.length → Below w.heap.size w wr → ∃ g o β ω γ : Nat, a = some ⟨g, o, none⟩ ∧ wr.cell? ⟨g, o + k, none⟩ = some (.slice (some ⟨β, ω, none⟩) (ps.getD k []).length γ) ∧ Calls Tryz.prog 88 #[.slice (some ⟨β, ω, none⟩) (ps.getD k []).length γ, .pointer (some ⟨kb, 0, none⟩)] wr fun e w' => e = .returned (.bool (cmpL v.length v (ps.getD k []) == 0)) ∧ Below wr.heap.size wr w') := fun k wr hk' hB => by
    obtain ⟨g, o, β, ω, γ, q1, _, _, q4, q5, q6, q7, q8⟩ := hat k hk'
    have hpl := (fault_len (hpv k hk')).2
    exact ⟨g, o, β, ω, γ, q1, (hB.cell q4).trans q6, sameAs_any kb v b off cap _ β ω γ wr hv (hpv k hk') (hrow.below hB hb) (Nat.lt_of_lt_of_le hb hB.size) (by omega) hcap hok (q8.below hB q5) (Nat.lt_of_lt_of_le q5 hB.size) (by omega) q7 (hpo k hk') ((hB.cell hkb).trans hk)⟩
  clear hat hpv hpo hv hrow hok hk
  obtain ⟨m, hm⟩ : ∃ m, m = ps.length := ⟨_, rfl⟩
  have HM := hide hm
  rw [← hm] at hn ⊢
  clear hm
  go_enter Tryz.func99, Tryz.ntmps99
  go_wp2_with fail
  go_loopg [8] m (fun gh s8 wr => ∃ k : Nat, Hid (gh = m - k) ∧ s8 = .int .i64 k ∧ k ≤ m ∧ Hid (∀ j, j < k → cmpL v.length v (ps.getD j []) ≠ 0) ∧ Below w.heap.size w wr)
  case atStart => exact ⟨0, rfl, rfl, by omega, fun j hj => absurd hj (by omega), Below.refl _ _⟩
  case round =>
    obtain ⟨k, hg, rfl, hk, hall, hbel⟩ := hrel
    by_cases hlt : k < m
    · have hlt2 : k < ps.length := by rw [← unhide HM]; exact hlt
      obtain ⟨g, o, β, ω, γ, ha, f, hc⟩ := HC.out k wr hlt2 hbel
      subst ha
      have HQ := hide hc
      clear hc
      have hnext : Hid (cmpL v.length v (ps.getD k []) ≠ 0 → ∀ j, j < k + 1 → cmpL v.length v (ps.getD j []) ≠ 0) := fun h j hj => by
        by_cases e : j = k
        · subst e; exact h
        · exact hall.out j (by omega)
      have hhit : Hid (cmpL v.length v (ps.getD k []) = 0 → firstSame ps v k) := fun h => .inl ⟨k, hlt2, rfl, h⟩
      clear hlt2 HC
      generalize cmpL v.length v (ps.getD k []) = q at hnext hhit HQ
      generalize (ps.getD k []).length = x2 at f HQ
      go_wp2_with fail
      refine (unhide HQ).mono ?_
      rintro e7 w7 ⟨rfl, hb7⟩
      have B7 : Below w.heap.size w w7 := hbel.trans (hb7.mono hbel.size)
      clear hb7 f HQ
      by_cases h0 : q = 0
      · have fin := hide (hhit.out h0)
        subst h0
        go_wp2_with fail
        go_ret
        exact ⟨⟨_, rfl, unhide fin⟩, B7⟩
      · have hn2 := hide (hnext.out h0)
        have d0 : (q == 0) = false := by simpa using h0
        go_wp2_with fail
        go_roundg (m - (k + 1))
        case rel => exact ⟨k + 1, rfl, by go_num, by omega, unhide hn2, B7⟩
        case measure => have := hg.out; omega
    · have hke : k = m := by omega
      subst hke
      have fin : Hid (firstSame ps v (-1)) := .inr ⟨rfl, by rw [← unhide HM]; exact hall.out⟩
      go_wp2_with fail
      go_ret
      exact ⟨⟨_, rfl, unhide fin⟩, hbel⟩
set_option maxHeartbeats 1000000 in
theorem containsSame_any (s : Value) (ps : List (List M.Cl)) (bs kb : Nat) (v : List M.Cl) (b off cap : Nat) (w : World) (hp : Vw w bs s ps) (hn : ps.length ≤ 200) (hpv : ∀ j, j < ps.length → M.valueFault (ps.getD j []) = 0) (hpo : OkS ps) (hv : M.valueFault v = 0) (hrow : Row w b off v) (hb : b < w.heap.size) (hcap : v.length ≤ cap) (hok : ∀ c ∈ v, c.ok) (hkb : kb < w.heap.size) (hk : w.cell? ⟨kb, 0, none⟩ = some (.slice (some ⟨b, off, none⟩) v.length cap)) :
    Calls Tryz.prog 89 #[s, .func (.func 88) #[] #[.pointer (some ⟨kb, 0, none⟩)]] w fun e w' => (∃ q, e = .returned (.bool q) ∧ (q = true ↔ ∃ k, k < ps.length ∧ cmpL v.length v (ps.getD k []) = 0)) ∧ Below w.heap.size w w' := by
  have HC := hide (indexSame_any s ps bs kb v b off cap w hp hn hpv hpo hv hrow hb hcap hok hkb hk)
  clear hp hpv hpo hv hrow hok hk
  go_enter Tryz.func89, Tryz.ntmps89
  go_wp2_with fail
  refine (unhide HC).mono ?_
  rintro e1 w1 ⟨⟨r, rfl, hr⟩, hb1⟩
  have fin : Hid (decide (0 ≤ r) = true ↔ ∃ k, k < ps.length ∧ cmpL v.length v (ps.getD k []) = 0) := by
    rcases hr with ⟨k, h1, h2, h3⟩ | ⟨h1, h2⟩
    · exact ⟨fun _ => ⟨k, h1, h3⟩, fun _ => by simp; omega⟩
    · exact ⟨fun h => by simp at h; omega, fun ⟨k, h3, h4⟩ => absurd h4 (h2 k h3)⟩
  clear hr
  go_wp2_with fail
  go_ret
  exact ⟨⟨_, rfl, unhide fin⟩, hb1⟩

end Go.Proofs.YtemehbjlfiebdaaGreat

namespace Go.Proofs.YtemehbjlfiebdaaGreat
open Go.RowKit
set_option linter.unusedVariables false

/-- v is among the lists. -/
def among (ps : List (List M.Cl)) (v : List M.Cl) : Bool := ps.any fun p => cmpL p.length p v == 0
theorem among_hit {ps : List (List M.Cl)} {v : List M.Cl} {k : Nat} (hk : k < ps.length) (h : cmpL (ps.getD k []).length (ps.getD k []) v = 0) : among ps v = true := by
  unfold among
  rw [List.any_eq_true]
  refine ⟨ps.getD k [], ?_, by show (cmpL (ps.getD k []).length (ps.getD k []) v == 0) = true; rw [h]; rfl⟩
  rw [List.getD_eq_getElem?_getD, List.getElem?_eq_getElem hk]
  exact List.getElem_mem hk
theorem among_none {ps : List (List M.Cl)} {v : List M.Cl} (h : ∀ k, k < ps.length → cmpL (ps.getD k []).length (ps.getD k []) v ≠ 0) : among ps v = false := by
  unfold among
  rw [List.any_eq_false]
  intro p hp
  obtain ⟨k, hk, rfl⟩ := List.getElem_of_mem hp
  have := h k hk
  rw [List.getD_eq_getElem?_getD, List.getElem?_eq_getElem hk] at this
  simpa using this

set_option maxRecDepth 100000 in
set_option maxHeartbeats 2000000 in
theorem l3Among_any (s : Value) (ps : List (List M.Cl)) (bs : Nat) (v : List M.Cl) (b off cap : Nat) (w : World) (hp : Vw w bs s ps) (hn : ps.length ≤ 200) (hpv : ∀ j, j < ps.length → M.valueFault (ps.getD j []) = 0) (hpo : OkS ps) (hv : M.valueFault v = 0) (hrow : Row w b off v) (hb : b < w.heap.size) (hcap : v.length ≤ cap) (hok : ∀ c ∈ v, c.ok) :
    Calls Tryz.prog 74 #[s, .slice (some ⟨b, off, none⟩) v.length cap] w fun e w' => e = .returned (.bool (among ps v)) ∧ Below w.heap.size w w' := by
  obtain ⟨a, c, rfl, hat⟩ := hp
  have HC : Hid (∀ k wr, k < ps.length → Below w.heap.size w wr → ∃ g o β ω γ : Nat, a = some ⟨g, o, none⟩ ∧ wr.cell? ⟨g, o + k, none⟩ = some (.slice (some ⟨β, ω, none⟩) (ps.getD k []).length γ) ∧ Calls Tryz.prog 50 #[.slice (some ⟨β, ω, none⟩) (ps.getD k []).length γ, .slice (some ⟨b, off, none⟩) v.length cap] wr fun e w' => e = .returned (.int .i64 (cmpL (ps.getD k []).length (ps.getD k []) v)) ∧ Below wr.heap.size wr w') := fun k wr hk hB => by
    obtain ⟨g, o, β, ω, γ, q1, _, _, q4, q5, q6, q7, q8⟩ := hat k hk
    exact ⟨g, o, β, ω, γ, q1, (hB.cell q4).trans q6, l1Compare_any _ _ _ _ _ _ _ _ _ wr (hpv k hk) hv (Nat.le_refl _) (q8.below hB q5) (Nat.lt_of_lt_of_le q5 hB.size) q7 (hpo k hk) (hrow.below hB hb) (Nat.lt_of_lt_of_le hb hB.size) hcap hok⟩
  have HIT := hide (fun k hk h => among_hit (ps := ps) (v := v) (k := k) hk h)
  have NON := hide (fun h => among_none (ps := ps) (v := v) h)
  clear hat hpv hpo hv hrow hok
  obtain ⟨m, hm⟩ : ∃ m, m = ps.length := ⟨_, rfl⟩
  have HM := hide hm
  rw [← hm] at hn ⊢
  clear hm
  go_enter Tryz.func74, Tryz.ntmps74
  go_wp2_with fail
  go_loopg [5] m (fun gh s5 wr => ∃ k : Nat, Hid (gh = m - k) ∧ s5 = .int .i64 k ∧ k ≤ m ∧ Hid (∀ j, j < k → cmpL (ps.getD j []).length (ps.getD j []) v ≠ 0) ∧ Below w.heap.size w wr)
  case atStart => exact ⟨0, rfl, rfl, by omega, fun j hj => absurd hj (by omega), Below.refl _ _⟩
  case round =>
    obtain ⟨k, hg, rfl, hk, hall, hbel⟩ := hrel
    by_cases hlt : k < m
    · have hlt2 : k < ps.length := by rw [← unhide HM]; exact hlt
      obtain ⟨g, o, β, ω, γ, ha, f, hc⟩ := HC.out k wr hlt2 hbel
      subst ha
      have HQ := hide hc
      clear hc
      have hnext : Hid (cmpL (ps.getD k []).length (ps.getD k []) v ≠ 0 → ∀ j, j < k + 1 → cmpL (ps.getD j []).length (ps.getD j []) v ≠ 0) := fun h j hj => by
        by_cases e : j = k
        · subst e; exact h
        · exact hall.out j (by omega)
      have hhit := hide ((unhide HIT) k hlt2)
      clear hlt2 HC
      generalize cmpL (ps.getD k []).length (ps.getD k []) v = q at hnext hhit HQ
      generalize (ps.getD k []).length = x2 at f HQ
      go_wp2_with fail
      refine (unhide HQ).mono ?_
      rintro e7 w7 ⟨rfl, hb7⟩
      have B7 : Below w.heap.size w w7 := hbel.trans (hb7.mono hbel.size)
      clear hb7 f HQ
      by_cases h0 : q = 0
      · have fin := hide ((unhide hhit) h0)
        subst h0
        go_wp2_with fail
        go_ret
        exact ⟨(congrArg (fun q => Ending.returned (Value.bool q)) (unhide fin)).symm, B7⟩
      · have hn2 := hide (hnext.out h0)
        have d0 : (q == 0) = false := by simpa using h0
        go_wp2_with fail
        go_roundg (m - (k + 1))
        case rel => exact ⟨k + 1, rfl, by go_num, by omega, unhide hn2, B7⟩
        case measure => have := hg.out; omega
    · have hke : k = m := by omega
      subst hke
      have fin := hide ((unhide NON) (by rw [← unhide HM]; exact hall.out))
      go_wp2_with fail
      go_ret
      exact ⟨(congrArg (fun q => Ending.returned (Value.bool q)) (unhide fin)).symm, hbel⟩

end Go.Proofs.YtemehbjlfiebdaaGreat

namespace Go.Proofs.YtemehbjlfiebdaaGreat
open Go.RowKit
set_option linter.unusedVariables false

/-- The difference of two values. -/
def subIn (v u : List M.Cl) : Int × List M.Cl :=
  if (v.getD 0 M.zero).kind = 3 ∧ (u.getD 0 M.zero).kind = 3 then numOut ((v.getD 0 M.zero).num - (u.getD 0 M.zero).num)
  else if (v.getD 0 M.zero).kind = 5 ∧ (u.getD 0 M.zero).kind = 5 then (0, arrV ((subs v 0).filter fun p => !among (subs u 0) p))
  else (6, [])
theorem sub_3 {v u : List M.Cl} (h : (v.getD 0 M.zero).kind = 3) (h2 : (u.getD 0 M.zero).kind = 3) : subIn v u = numOut ((v.getD 0 M.zero).num - (u.getD 0 M.zero).num) := if_pos ⟨h, h2⟩
theorem sub_5 {v u : List M.Cl} (h : (v.getD 0 M.zero).kind = 5) (h2 : (u.getD 0 M.zero).kind = 5) : subIn v u = (0, arrV ((subs v 0).filter fun p => !among (subs u 0) p)) := by unfold subIn; rw [if_neg (by omega), if_pos ⟨h, h2⟩]
theorem sub_k {v u : List M.Cl} (h : ¬ ((v.getD 0 M.zero).kind = 3 ∧ (u.getD 0 M.zero).kind = 3)) (h2 : ¬ ((v.getD 0 M.zero).kind = 5 ∧ (u.getD 0 M.zero).kind = 5)) : subIn v u = (6, []) := by unfold subIn; rw [if_neg h, if_neg h2]

set_option maxRecDepth 100000 in
set_option maxHeartbeats 4000000 in
theorem subImpl_num (v : List M.Cl) (b off cap : Nat) (u : List M.Cl) (b' off' cap' : Nat) (w : World) (hv : M.valueFault v = 0) (hu : M.valueFault u = 0) (hrow : Row w b off v) (hb : b < w.heap.size) (hn : v.length ≤ 1048576) (hcap : v.length ≤ cap) (hok : ∀ c ∈ v, c.ok) (hrow' : Row w b' off' u) (hb' : b' < w.heap.size) (hn' : u.length ≤ 1048576) (hcap' : u.length ≤ cap') (hok' : ∀ c ∈ u, c.ok) (k3 : (v.getD 0 M.zero).kind = 3) (k3' : (u.getD 0 M.zero).kind = 3) :
    Calls Tryz.prog 37 #[.slice (some ⟨b, off, none⟩) v.length cap, .slice (some ⟨b', off', none⟩) u.length cap'] w (Ans w (subIn v u)) := by
  have fin := hide (sub_3 k3 k3')
  have hl1 := (M.fault_zero hv).1
  have hl1' := (M.fault_zero hu).1
  have hl2 := (M.fault_zero hv).2.1
  have hl2' := (M.fault_zero hu).2.1
  obtain ⟨w0, hw0⟩ : ∃ w0, w0 = w.alloc (.cells #[.int .i64 0, .slice none 0 0] 28) := ⟨_, rfl⟩
  have HR0 : Own w0 w.heap.size 28 [.int .i64 0, .slice none 0 0] := by rw [hw0]; exact ⟨_, heap_alloc_new _ _, rfl⟩
  have B00 : Below w.heap.size w w0 := by rw [hw0]; exact (Below.refl _ _).alloc (Nat.le_refl _) _
  obtain ⟨f0, f1, _, _, _⟩ := (hrow.below B00 hb) 0 (by omega)
  obtain ⟨g0, g1, _, _, _⟩ := (hrow'.below B00 hb') 0 (by omega)
  simp only [Nat.zero_mul, Nat.add_zero] at f0 f1 g0 g1
  obtain ⟨_, _, x1, x2, _, _, _, _⟩ := code_bd (M.first_zero (M.fault_zero hv).2.2.1 _ (getD_mem v 0 (by omega)))
  obtain ⟨_, _, y1, y2, _, _, _, _⟩ := code_bd (M.first_zero (M.fault_zero hu).2.2.1 _ (getD_mem u 0 (by omega)))
  clear hv hu hok hok' hrow hrow' hcap hcap' hn hn'
  rw [k3] at f0
  rw [k3'] at g0
  clear k3 k3'
  have HA := hide (areBoth_yes 3 b off v.length cap b' off' u.length cap' w0 (by omega) (by omega) f0 g0)
  generalize v.getD 0 M.zero = c at *
  generalize u.getD 0 M.zero = d at *
  generalize c.num = x at *
  generalize d.num = y at *
  have HW := hide (show IntKind.i64.wrap (x - y) = x - y from IntWalk.i64_in _ ⟨by omega, by omega⟩)
  generalize hR2 : numOut (x - y) = R at *
  obtain ⟨rc, rl⟩ := R
  have HR2 := hide hR2
  clear hR2
  go_enter Tryz.func37, Tryz.ntmps37
  go_wp2_with fail
  rw [← hw0]
  clear hw0
  refine (unhide HA).mono ?_
  rintro e1 w1 ⟨rfl, hw1⟩
  have hw2 := hw1.symm
  clear hw1
  subst hw2
  go_wp2_with fail
  go_region_with (go_at_call 9; rw [unhide HW]; refine (numberValue_any _ _).mono ?_; rintro e7 w7 ⟨s7, rfl, hr7, hb7⟩; rw [unhide HR2] at hr7 ⊢; have hR7 := HR0.drew.below hb7 HR0.drew.lt; have r0 := hR7.cell 0; have r1 := hR7.cell 1; have z0 := hR7.frozen 0; have z1 := hR7.frozen 1; simp only [List.getElem?_cons_zero, List.getElem?_cons_succ] at r0 r1; have HE := hide (Ans.storeC hr7 (show w.heap.size < _ from by exact HR0.lt) (B00.drew.trans (hb7.mono (by exact B00.size)))); obtain ⟨ac, mc, cc, rfl⟩ := hr7.shape)
  all_goals
    go_wp2_with fail
    refine bodyPost_ret (v := .agg #[.int .i64 rc, .slice ac mc cc]) (by simp [results, Tryz.results37, go_sem, r0, r1]) rfl (ans_of (unhide fin) ((unhide HE) _ _).1 ((unhide HE) _ _).2)

set_option maxRecDepth 100000 in
set_option maxHeartbeats 4000000 in
theorem subImpl_no (v : List M.Cl) (b off cap : Nat) (u : List M.Cl) (b' off' cap' : Nat) (w : World) (hv : M.valueFault v = 0) (hu : M.valueFault u = 0) (hrow : Row w b off v) (hb : b < w.heap.size) (hn : v.length ≤ 1048576) (hcap : v.length ≤ cap) (hok : ∀ c ∈ v, c.ok) (hrow' : Row w b' off' u) (hb' : b' < w.heap.size) (hn' : u.length ≤ 1048576) (hcap' : u.length ≤ cap') (hok' : ∀ c ∈ u, c.ok) (h3 : ¬ ((v.getD 0 M.zero).kind = 3 ∧ (u.getD 0 M.zero).kind = 3)) (h5 : ¬ ((v.getD 0 M.zero).kind = 5 ∧ (u.getD 0 M.zero).kind = 5)) :
    Calls Tryz.prog 37 #[.slice (some ⟨b, off, none⟩) v.length cap, .slice (some ⟨b', off', none⟩) u.length cap'] w (Ans w (subIn v u)) := by
  have fin := hide (sub_k h3 h5)
  have hl1 := (M.fault_zero hv).1
  have hl1' := (M.fault_zero hu).1
  have hl2 := (M.fault_zero hv).2.1
  have hl2' := (M.fault_zero hu).2.1
  obtain ⟨w0, hw0⟩ : ∃ w0, w0 = w.alloc (.cells #[.int .i64 0, .slice none 0 0] 28) := ⟨_, rfl⟩
  have HR0 : Own w0 w.heap.size 28 [.int .i64 0, .slice none 0 0] := by rw [hw0]; exact ⟨_, heap_alloc_new _ _, rfl⟩
  have B00 : Below w.heap.size w w0 := by rw [hw0]; exact (Below.refl _ _).alloc (Nat.le_refl _) _
  obtain ⟨f0, f1, _, _, _⟩ := (hrow.below B00 hb) 0 (by omega)
  obtain ⟨g0, g1, _, _, _⟩ := (hrow'.below B00 hb') 0 (by omega)
  simp only [Nat.zero_mul, Nat.add_zero] at f0 f1 g0 g1
  obtain ⟨_, _, x1, x2, _, _, _, _⟩ := code_bd (M.first_zero (M.fault_zero hv).2.2.1 _ (getD_mem v 0 (by omega)))
  obtain ⟨_, _, y1, y2, _, _, _, _⟩ := code_bd (M.first_zero (M.fault_zero hu).2.2.1 _ (getD_mem u 0 (by omega)))
  clear hv hu hok hok' hrow hrow' hcap hcap' hn hn'
  have HA := hide (areBoth_no 3 _ _ b off v.length cap b' off' u.length cap' w0 (by omega) (by omega) f0 g0 (by omega))
  have HB := hide (areBoth_no 5 _ _ b off v.length cap b' off' u.length cap' w0 (by omega) (by omega) f0 g0 (by omega))
  have r0 := HR0.cell 0
  have r1 := HR0.cell 1
  have z0 := HR0.frozen 0
  have z1 := HR0.frozen 1
  simp only [List.getElem?_cons_zero, List.getElem?_cons_succ] at r0 r1
  clear f0 f1 g0 g1 h3 h5
  go_enter Tryz.func37, Tryz.ntmps37
  go_wp2_with fail
  rw [← hw0]
  clear hw0
  refine (unhide HA).mono ?_
  rintro e1 w1 ⟨rfl, hw1⟩
  have hw2 := hw1.symm
  clear hw1
  subst hw2
  go_wp2_with fail
  refine (unhide HB).mono ?_
  rintro e2 w2 ⟨rfl, hw3⟩
  have hw4 := hw3.symm
  clear hw3
  subst hw4
  go_wp2_with fail
  refine bodyPost_ret (v := .agg #[.int .i64 6, .slice none 0 0]) (by simp [results, Tryz.results37, go_sem, r0, r1]) rfl (ans_of (unhide fin) (resNil _ _) (store_below B00 _ _))

end Go.Proofs.YtemehbjlfiebdaaGreat

namespace Go.Proofs.YtemehbjlfiebdaaGreat
open Go.RowKit
set_option linter.unusedVariables false

set_option maxRecDepth 100000 in
set_option maxHeartbeats 4000000 in
theorem subSpec_num (v : List M.Cl) (b off cap : Nat) (u : List M.Cl) (b' off' cap' : Nat) (w : World) (hv : M.valueFault v = 0) (hu : M.valueFault u = 0) (hrow : Row w b off v) (hb : b < w.heap.size) (hn : v.length ≤ 1048576) (hcap : v.length ≤ cap) (hok : ∀ c ∈ v, c.ok) (hrow' : Row w b' off' u) (hb' : b' < w.heap.size) (hn' : u.length ≤ 1048576) (hcap' : u.length ≤ cap') (hok' : ∀ c ∈ u, c.ok) (k3 : (v.getD 0 M.zero).kind = 3) (k3' : (u.getD 0 M.zero).kind = 3) :
    Calls Tryz.prog 52 #[.slice (some ⟨b, off, none⟩) v.length cap, .slice (some ⟨b', off', none⟩) u.length cap'] w (Ans w (subIn v u)) := by
  have fin := hide (sub_3 k3 k3')
  have hl1 := (M.fault_zero hv).1
  have hl1' := (M.fault_zero hu).1
  have hl2 := (M.fault_zero hv).2.1
  have hl2' := (M.fault_zero hu).2.1
  obtain ⟨w0, hw0⟩ : ∃ w0, w0 = w.alloc (.cells #[.int .i64 0, .slice none 0 0] 28) := ⟨_, rfl⟩
  have HR0 : Own w0 w.heap.size 28 [.int .i64 0, .slice none 0 0] := by rw [hw0]; exact ⟨_, heap_alloc_new _ _, rfl⟩
  have B00 : Below w.heap.size w w0 := by rw [hw0]; exact (Below.refl _ _).alloc (Nat.le_refl _) _
  obtain ⟨f0, f1, _, _, _⟩ := (hrow.below B00 hb) 0 (by omega)
  obtain ⟨g0, g1, _, _, _⟩ := (hrow'.below B00 hb') 0 (by omega)
  simp only [Nat.zero_mul, Nat.add_zero] at f0 f1 g0 g1
  obtain ⟨_, _, x1, x2, _, _, _, _⟩ := code_bd (M.first_zero (M.fault_zero hv).2.2.1 _ (getD_mem v 0 (by omega)))
  obtain ⟨_, _, y1, y2, _, _, _, _⟩ := code_bd (M.first_zero (M.fault_zero hu).2.2.1 _ (getD_mem u 0 (by omega)))
  clear hv hu hok hok' hrow hrow' hcap hcap' hn hn'
  rw [k3] at f0
  rw [k3'] at g0
  clear k3 k3'
  generalize v.getD 0 M.zero = c at *
  generalize u.getD 0 M.zero = d at *
  generalize c.num = x at *
  generalize d.num = y at *
  have HW := hide (show IntKind.i64.wrap (x - y) = x - y from IntWalk.i64_in _ ⟨by omega, by omega⟩)
  generalize hR2 : numOut (x - y) = R at *
  obtain ⟨rc, rl⟩ := R
  have HR2 := hide hR2
  clear hR2
  have f0' := f0
  have g0' := g0
  rw [hw0] at f0' g0'
  go_enter Tryz.func52, Tryz.ntmps52
  go_wp2_with fail
  rw [← hw0]
  clear hw0 f0' g0'
  go_region_with (first | (go_at_call 16; rw [unhide HW]; refine (l1Number_any _ _).mono ?_; rintro e1 w1 ⟨s1, rfl, hr1, hb1⟩; have hR1 := HR0.drew.below hb1 HR0.drew.lt; have hsz1 := hb1.size; have hb1' := hb1; have HT := hide (specTold_any s1 _ [numCl (x - y)] w1 hr1 hb1.size (by simp) (by simp) (fun c hc => num_okc hc (by omega) (by omega))); rw [told_num] at HT; obtain ⟨a1, m1, c1, rfl⟩ := hr1.shape; rw [unhide HR2] at HT) | (go_at_call 73; refine (unhide HT).mono ?_; rintro e7 w7 ⟨s7, rfl, hr7, hb7⟩; have hR7 := hR1.below hb7 hR1.lt; have r0 := hR7.cell 0; have r1 := hR7.cell 1; have z0 := hR7.frozen 0; have z1 := hR7.frozen 1; simp only [List.getElem?_cons_zero, List.getElem?_cons_succ] at r0 r1; have HE := hide (Ans.storeC hr7 (show w.heap.size < _ from by exact HR0.lt) ((B00.drew.trans (hb1'.mono (by exact B00.size))).trans (hb7.mono (by have := B00.size; have := hb1'.size; exact Nat.le_trans B00.size hb1'.size)))); obtain ⟨ac, mc, cc, rfl⟩ := hr7.shape))
  all_goals
    go_wp2_with fail
    refine bodyPost_ret (v := .agg #[.int .i64 rc, .slice ac mc cc]) (by simp [results, Tryz.results52, go_sem, r0, r1]) rfl (ans_of (unhide fin) ((unhide HE) _ _).1 ((unhide HE) _ _).2)

end Go.Proofs.YtemehbjlfiebdaaGreat

namespace Go.Proofs.YtemehbjlfiebdaaGreat
open Go.RowKit
set_option linter.unusedVariables false

theorem lex_zero {α : Type} (cmp : α → α → Int) (d : α) (A B : List α) : lex cmp A B = 0 ↔ A.length = B.length ∧ ∀ j, j < A.length → cmp (A.getD j d) (B.getD j d) = 0 := by
  induction A generalizing B with
  | nil => cases B with
    | nil => simp [lex]
    | cons y ys => simp [lex]
  | cons x xs ih =>
    cases B with
    | nil => simp [lex]
    | cons y ys =>
      rw [lex]
      by_cases h : cmp x y = 0
      · rw [if_neg (by simp [h]), ih ys]
        constructor
        · rintro ⟨h1, h2⟩
          refine ⟨by simp [h1], fun j hj => ?_⟩
          cases j with
          | zero => rw [List.getD_cons_zero, List.getD_cons_zero]; exact h
          | succ j => rw [List.getD_cons_succ, List.getD_cons_succ]; exact h2 j (by simpa using hj)
        · rintro ⟨h1, h2⟩
          refine ⟨by simpa using h1, fun j hj => ?_⟩
          have := h2 (j + 1) (by simpa using hj)
          rwa [List.getD_cons_succ, List.getD_cons_succ] at this
      · rw [if_pos h]
        constructor
        · intro g; exact absurd g h
        · rintro ⟨_, h2⟩
          have := h2 0 (by simp)
          rw [List.getD_cons_zero, List.getD_cons_zero] at this
          exact absurd this h
theorem cmpK_zero (a b : ByteArray) : cmpK a b = 0 ↔ a.toList = b.toList := ⟨cmpK_eq, fun h => by unfold cmpK; rw [h, bytesLess_irrefl]; simp⟩
theorem sgn_zero (a b : Int) : sgn a b = 0 ↔ a = b := ⟨sgn_eq, fun h => by subst h; exact sgn_self a⟩
theorem cmpL_sym : ∀ (f g : Nat) (P Q : List M.Cl), M.valueFault P = 0 → M.valueFault Q = 0 → (∀ c ∈ P, c.ok) → (∀ c ∈ Q, c.ok) → P.length ≤ f → Q.length ≤ g → cmpL f P Q = 0 → cmpL g Q P = 0 := by
  intro f
  induction f with
  | zero => intro g P Q hP hQ _ _ h1 _ _; have := (M.fault_zero hP).1; omega
  | succ f ih =>
    intro g P Q hP hQ okP okQ h1 h2 h
    have lP := (M.fault_zero hP).1
    have lQ := (M.fault_zero hQ).1
    obtain ⟨g, rfl⟩ : ∃ g', g = g' + 1 := ⟨g - 1, by omega⟩
    have hsub : lex (cmpL f) (subs P 0) (subs Q 0) = 0 → lex (cmpL g) (subs Q 0) (subs P 0) = 0 := fun e => by
      obtain ⟨e1, e2⟩ := (lex_zero _ [] _ _).1 e
      refine (lex_zero _ [] _ _).2 ⟨e1.symm, fun j hj => ?_⟩
      have mP : (subs P 0).getD j [] ∈ subs P 0 := by rw [List.getD_eq_getElem?_getD, List.getElem?_eq_getElem (by omega)]; exact List.getElem_mem _
      have mQ : (subs Q 0).getD j [] ∈ subs Q 0 := by rw [List.getD_eq_getElem?_getD, List.getElem?_eq_getElem (by omega)]; exact List.getElem_mem _
      obtain ⟨a1, a2, a3⟩ := subs_ok hP okP (a := 0) (by omega) _ mP
      obtain ⟨b1, b2, b3⟩ := subs_ok hQ okQ (a := 0) (by omega) _ mQ
      exact ih g _ _ a1 b1 a3 b3 (by omega) (by omega) (e2 j (by omega))
    simp only [cmpL] at h ⊢
    by_cases hk : (P.getD 0 M.zero).kind = (Q.getD 0 M.zero).kind
    · rw [if_neg (fun e => e hk)] at h
      rw [if_neg (fun e => e hk.symm), ← hk]
      by_cases k3 : (P.getD 0 M.zero).kind = 3
      · rw [if_pos k3] at h ⊢
        exact (sgn_zero _ _).2 ((sgn_zero _ _).1 h).symm
      rw [if_neg k3] at h ⊢
      by_cases k4 : (P.getD 0 M.zero).kind = 4
      · rw [if_pos k4] at h ⊢
        exact (cmpK_zero _ _).2 ((cmpK_zero _ _).1 h).symm
      rw [if_neg k4] at h ⊢
      by_cases k5 : (P.getD 0 M.zero).kind = 5
      · rw [if_pos k5] at h ⊢
        exact hsub h
      rw [if_neg k5] at h ⊢
      by_cases k6 : (P.getD 0 M.zero).kind = 6
      · rw [if_pos k6] at h ⊢
        by_cases e : lex cmpK (keysAt P 0) (keysAt Q 0) = 0
        · rw [if_neg (fun q => q e)] at h
          have e' : lex cmpK (keysAt Q 0) (keysAt P 0) = 0 := by
            obtain ⟨e1, e2⟩ := (lex_zero _ ByteArray.empty _ _).1 e
            exact (lex_zero _ ByteArray.empty _ _).2 ⟨e1.symm, fun j hj => (cmpK_zero _ _).2 ((cmpK_zero _ _).1 (e2 j (by omega))).symm⟩
          rw [if_neg (fun q => q e')]
          exact hsub h
        · rw [if_pos e] at h
          exact absurd h e
      rw [if_neg k6]
    · rw [if_pos hk] at h
      split at h <;> cases h
theorem cmpL_sym_iff {P Q : List M.Cl} (hP : M.valueFault P = 0) (hQ : M.valueFault Q = 0) (okP : ∀ c ∈ P, c.ok) (okQ : ∀ c ∈ Q, c.ok) : cmpL P.length P Q = 0 ↔ cmpL Q.length Q P = 0 :=
  ⟨cmpL_sym _ _ _ _ hP hQ okP okQ (Nat.le_refl _) (Nat.le_refl _), cmpL_sym _ _ _ _ hQ hP okQ okP (Nat.le_refl _) (Nat.le_refl _)⟩
theorem among_iff {ps : List (List M.Cl)} {v : List M.Cl} (hv : M.valueFault v = 0) (okv : ∀ c ∈ v, c.ok) (hps : ∀ j, j < ps.length → M.valueFault (ps.getD j []) = 0) (okp : OkS ps) : among ps v = true ↔ ∃ k, k < ps.length ∧ cmpL v.length v (ps.getD k []) = 0 := by
  constructor
  · intro h
    cases hc : among ps v with
    | false => rw [hc] at h; cases h
    | true =>
      by_cases e : ∃ k, k < ps.length ∧ cmpL v.length v (ps.getD k []) = 0
      · exact e
      · have := among_none (ps := ps) (v := v) (fun k hk h2 => e ⟨k, hk, (cmpL_sym_iff (hps k hk) hv (okp k hk) okv).1 h2⟩)
        rw [this] at hc; cases hc
  · rintro ⟨k, hk, h⟩
    exact among_hit hk ((cmpL_sym_iff hv (hps k hk) okv (okp k hk)).1 h)

/-- What is left of the first k lists. -/
def leftOf (ps qs : List (List M.Cl)) (k : Nat) : List (List M.Cl) := (ps.take k).filter fun p => !among qs p
theorem left_zero (ps qs : List (List M.Cl)) : leftOf ps qs 0 = [] := rfl
theorem left_whole (ps qs : List (List M.Cl)) : leftOf ps qs ps.length = ps.filter fun p => !among qs p := by unfold leftOf; rw [List.take_length]
theorem take_next (ps : List (List M.Cl)) (k : Nat) (hk : k < ps.length) : ps.take (k + 1) = ps.take k ++ [ps.getD k []] := by
  rw [List.take_add_one, List.getElem?_eq_getElem hk, List.getD_eq_getElem?_getD, List.getElem?_eq_getElem hk]; rfl
theorem left_yes {ps qs : List (List M.Cl)} {k : Nat} (hk : k < ps.length) (h : among qs (ps.getD k []) = true) : leftOf ps qs (k + 1) = leftOf ps qs k := by
  unfold leftOf; rw [take_next ps k hk, List.filter_append, List.filter_cons_of_neg (by rw [h]; decide), List.filter_nil, List.append_nil]
theorem left_no {ps qs : List (List M.Cl)} {k : Nat} (hk : k < ps.length) (h : among qs (ps.getD k []) = false) : leftOf ps qs (k + 1) = leftOf ps qs k ++ [ps.getD k []] := by
  unfold leftOf; rw [take_next ps k hk, List.filter_append, List.filter_cons_of_pos (by rw [h]; rfl), List.filter_nil]
theorem left_length (ps qs : List (List M.Cl)) (k : Nat) : (leftOf ps qs k).length ≤ k := by
  have h1 := List.length_filter_le (fun p => !among qs p) (ps.take k)
  have h2 := List.length_take_le k ps
  unfold leftOf
  omega
theorem left_at {ps qs : List (List M.Cl)} {k j : Nat} (hj : j < (leftOf ps qs k).length) : ∃ i, i < ps.length ∧ (leftOf ps qs k).getD j [] = ps.getD i [] := by
  have hm : (leftOf ps qs k).getD j [] ∈ leftOf ps qs k := by rw [List.getD_eq_getElem?_getD, List.getElem?_eq_getElem hj]; exact List.getElem_mem _
  have hm2 := List.mem_of_mem_take (List.mem_filter.1 hm).1
  obtain ⟨i, hi, he⟩ := List.getElem_of_mem hm2
  exact ⟨i, hi, by rw [← he, List.getD_eq_getElem?_getD, List.getElem?_eq_getElem hi]; rfl⟩
theorem sum_filter (l : List (List M.Cl)) (f : List M.Cl → Bool) : ((l.filter f).map List.length).sum ≤ (l.map List.length).sum := by
  induction l with
  | nil => simp
  | cons a r ih =>
    cases h : f a with
    | true => rw [List.filter_cons_of_pos h]; simp only [List.map_cons, List.sum_cons]; omega
    | false => rw [List.filter_cons_of_neg (by rw [h]; decide)]; simp only [List.map_cons, List.sum_cons]; omega
theorem tot_subs {v : List M.Cl} (hv : M.valueFault v = 0) (k : Nat) (hk : k ≤ M.arity v 0) : tot (subs v 0) k + 1 ≤ M.iter v k 1 := by
  have hl := (M.fault_zero hv).1
  obtain ⟨h1, h2, h3, _⟩ := M.places_in hv 0 (by omega)
  induction k with
  | zero => rw [tot_zero]; show 0 + 1 ≤ 1; omega
  | succ k ih =>
    have := ih (by omega)
    have h5 := h1 k (by omega)
    simp only [Nat.zero_add] at h5
    have hg := end_gt hv (a := M.iter v k 1) (by omega)
    rw [M.iter_next, tot_succ _ k (by rw [subs_length]; omega)]
    have e : (subs v 0).getD k [] = part v (M.iter v k 1) := by simp [subs, M.places, List.getD_eq_getElem?_getD, show k < M.arity v 0 by omega]
    rw [e, part_len hv (by omega)]
    omega
theorem tot_parts {v : List M.Cl} (hv : M.valueFault v = 0) : tot (subs v 0) (subs v 0).length + 1 ≤ 200 := by
  have hl := (M.fault_zero hv).1
  have hl2 := (M.fault_zero hv).2.1
  obtain ⟨h1, h2, h3, _⟩ := M.places_in hv 0 (by omega)
  have := tot_subs hv (M.arity v 0) (Nat.le_refl _)
  simp only [Nat.zero_add] at h2
  rw [h2] at this
  rw [subs_length]
  omega
theorem left_facts {v : List M.Cl} (qs : List (List M.Cl)) (hv : M.valueFault v = 0) (hok : ∀ c ∈ v, c.ok) (k : Nat) : (leftOf (subs v 0) qs k).length ≤ k ∧ (∀ j, j < (leftOf (subs v 0) qs k).length → M.valueFault ((leftOf (subs v 0) qs k).getD j []) = 0) ∧ OkS (leftOf (subs v 0) qs k) := by
  have hall := subs_all hv hok
  refine ⟨left_length _ _ _, fun j hj => ?_, fun j hj => ?_⟩
  · obtain ⟨i, hi, e⟩ := left_at hj
    rw [e]; exact hall.2.1 i hi
  · obtain ⟨i, hi, e⟩ := left_at hj
    rw [e]; exact hall.2.2.1 i hi
theorem left_valid {v : List M.Cl} (qs : List (List M.Cl)) (hv : M.valueFault v = 0) (hok : ∀ c ∈ v, c.ok) : M.valueFault (arrV (leftOf (subs v 0) qs (subs v 0).length)) = 0 := by
  have hall := subs_all hv hok
  have hf := left_facts qs hv hok (subs v 0).length
  have ht := tot_parts hv
  refine arr_valid hf.2.1 (fun j hj => ?_) ?_ (by omega)
  · obtain ⟨i, hi, e⟩ := left_at hj
    rw [e]
    obtain ⟨d, h1, h2⟩ := subs_laid hv hi
    exact laid_of (hall.2.1 i hi) h1 h2
  · rw [left_whole]
    have h3 := sum_filter (subs v 0) (fun p => !among qs p)
    unfold tot at ht ⊢
    rw [List.take_length] at ht ⊢
    omega

end Go.Proofs.YtemehbjlfiebdaaGreat
