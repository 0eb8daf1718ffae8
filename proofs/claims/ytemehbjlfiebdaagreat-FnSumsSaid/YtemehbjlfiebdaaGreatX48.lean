/-
  impl.addTwo.
-/
import Derived.Test.YtemehbjlfiebdaaGreatX41
import Derived.Test.YtemehbjlfiebdaaGreatX47
import Derived.Deep.RegionHeld
namespace Go.Proofs.YtemehbjlfiebdaaGreat
open Go.RowKit
set_option linter.unusedVariables false

set_option maxRecDepth 100000 in
set_option maxHeartbeats 8000000 in
theorem addImpl_nl (v : List M.Cl) (b off cap : Nat) (u : List M.Cl) (b' off' cap' : Nat) (w : World) (hv : M.valueFault v = 0) (hu : M.valueFault u = 0) (hrow : Row w b off v) (hb : b < w.heap.size) (hn : v.length ≤ 1048576) (hcap : v.length ≤ cap) (hok : ∀ c ∈ v, c.ok) (hrow' : Row w b' off' u) (hb' : b' < w.heap.size) (hn' : u.length ≤ 1048576) (hcap' : u.length ≤ cap') (hok' : ∀ c ∈ u, c.ok) (k0 : (v.getD 0 M.zero).kind = 0) :
    Calls Tryz.prog 61 #[.slice (some ⟨b, off, none⟩) v.length cap, .slice (some ⟨b', off', none⟩) u.length cap'] w (Ans w (addIn v u)) := by
  have hl1 := (M.fault_zero hv).1
  have hl1' := (M.fault_zero hu).1
  have hl2 := (M.fault_zero hv).2.1
  have hl2' := (M.fault_zero hu).2.1
  have B0 : ∀ o, Below w.heap.size w (w.alloc o) := fun o => (Below.refl _ _).alloc (Nat.le_refl _) o
  have HB0 := hide B0
  clear B0
  obtain ⟨w0, hw0⟩ : ∃ w0, w0 = w.alloc (.cells #[.int .i64 0, .slice none 0 0] 28) := ⟨_, rfl⟩
  have HR0 : Own w0 w.heap.size 28 [.int .i64 0, .slice none 0 0] := by rw [hw0]; exact ⟨_, heap_alloc_new _ _, rfl⟩
  have B00 : Below w.heap.size w w0 := by rw [hw0]; exact (unhide HB0) _
  have hs0 : w0.heap.size = w.heap.size + 1 := by rw [hw0]; simp
  obtain ⟨f0, f1, f2, _, _⟩ := (hrow.below B00 hb) 0 (by omega)
  obtain ⟨g0, g1, g2, _, _⟩ := (hrow'.below B00 hb') 0 (by omega)
  simp only [Nat.zero_mul, Nat.add_zero] at f0 f1 f2 g0 g1 g2
  have hcv := code_bd (M.first_zero (M.fault_zero hv).2.2.1 _ (getD_mem v 0 (by omega)))
  have hcu := code_bd (M.first_zero (M.fault_zero hu).2.2.1 _ (getD_mem u 0 (by omega)))
  have fin := hide (add_l (u := u) k0)
  clear hv hu hok hok' hcv hcu
  rw [k0] at f0
  clear k0
  have HCL := hide (clone_any u b' off' cap' w0 (hrow'.below B00 hb') (Nat.lt_of_lt_of_le hb' B00.size) hn')
  rw [hw0] at f0 f1 f2 g0 g1 g2
  go_enter Tryz.func61, Tryz.ntmps61
  go_wp2_with fail
  rw [← hw0]
  clear hw0 f0 f1 f2 g0 g1 g2 hs0
  refine (unhide HCL).mono ?_
  rintro ec wc ⟨sc, rfl, hrc, hbc⟩
  have hRc := HR0.below hbc HR0.lt
  have r0 := hRc.cell 0
  have r1 := hRc.cell 1
  have z0 := hRc.frozen 0
  have z1 := hRc.frozen 1
  simp only [List.getElem?_cons_zero, List.getElem?_cons_succ] at r0 r1
  have HE := hide (Ans.store hrc B00 HR0.lt hbc)
  obtain ⟨ac, mc, cc, rfl⟩ := hrc.shape
  clear hrc hbc
  go_wp2_with fail
  refine bodyPost_ret (v := .agg #[.int .i64 0, .slice ac mc cc]) (by simp [results, Tryz.results61, go_sem, r0, r1]) rfl (ans_of (unhide fin) ((unhide HE) _ _).1 ((unhide HE) _ _).2)

set_option maxRecDepth 100000 in
set_option maxHeartbeats 8000000 in
theorem addImpl_nr (v : List M.Cl) (b off cap : Nat) (u : List M.Cl) (b' off' cap' : Nat) (w : World) (hv : M.valueFault v = 0) (hu : M.valueFault u = 0) (hrow : Row w b off v) (hb : b < w.heap.size) (hn : v.length ≤ 1048576) (hcap : v.length ≤ cap) (hok : ∀ c ∈ v, c.ok) (hrow' : Row w b' off' u) (hb' : b' < w.heap.size) (hn' : u.length ≤ 1048576) (hcap' : u.length ≤ cap') (hok' : ∀ c ∈ u, c.ok) (k0 : (v.getD 0 M.zero).kind ≠ 0) (k1 : (u.getD 0 M.zero).kind = 0) :
    Calls Tryz.prog 61 #[.slice (some ⟨b, off, none⟩) v.length cap, .slice (some ⟨b', off', none⟩) u.length cap'] w (Ans w (addIn v u)) := by
  have hl1 := (M.fault_zero hv).1
  have hl1' := (M.fault_zero hu).1
  have hl2 := (M.fault_zero hv).2.1
  have hl2' := (M.fault_zero hu).2.1
  have B0 : ∀ o, Below w.heap.size w (w.alloc o) := fun o => (Below.refl _ _).alloc (Nat.le_refl _) o
  have HB0 := hide B0
  clear B0
  obtain ⟨w0, hw0⟩ : ∃ w0, w0 = w.alloc (.cells #[.int .i64 0, .slice none 0 0] 28) := ⟨_, rfl⟩
  have HR0 : Own w0 w.heap.size 28 [.int .i64 0, .slice none 0 0] := by rw [hw0]; exact ⟨_, heap_alloc_new _ _, rfl⟩
  have B00 : Below w.heap.size w w0 := by rw [hw0]; exact (unhide HB0) _
  have hs0 : w0.heap.size = w.heap.size + 1 := by rw [hw0]; simp
  obtain ⟨f0, f1, f2, _, _⟩ := (hrow.below B00 hb) 0 (by omega)
  obtain ⟨g0, g1, g2, _, _⟩ := (hrow'.below B00 hb') 0 (by omega)
  simp only [Nat.zero_mul, Nat.add_zero] at f0 f1 f2 g0 g1 g2
  have hcv := code_bd (M.first_zero (M.fault_zero hv).2.2.1 _ (getD_mem v 0 (by omega)))
  have hcu := code_bd (M.first_zero (M.fault_zero hu).2.2.1 _ (getD_mem u 0 (by omega)))
  have fin := hide (add_r k0 k1)
  clear hv hu hok hok' hcv hcu
  rw [k1] at g0
  generalize v.getD 0 M.zero = c at *
  have e0 : (c.kind == 0) = false := by simp [k0]
  clear k0 k1
  have HCL := hide (clone_any v b off cap w0 (hrow.below B00 hb) (Nat.lt_of_lt_of_le hb B00.size) hn)
  rw [hw0] at f0 f1 f2 g0 g1 g2
  go_enter Tryz.func61, Tryz.ntmps61
  go_wp2_with fail
  rw [← hw0]
  clear hw0 f0 f1 f2 g0 g1 g2 hs0
  refine (unhide HCL).mono ?_
  rintro ec wc ⟨sc, rfl, hrc, hbc⟩
  have hRc := HR0.below hbc HR0.lt
  have r0 := hRc.cell 0
  have r1 := hRc.cell 1
  have z0 := hRc.frozen 0
  have z1 := hRc.frozen 1
  simp only [List.getElem?_cons_zero, List.getElem?_cons_succ] at r0 r1
  have HE := hide (Ans.store hrc B00 HR0.lt hbc)
  obtain ⟨ac, mc, cc, rfl⟩ := hrc.shape
  clear hrc hbc
  go_wp2_with fail
  refine bodyPost_ret (v := .agg #[.int .i64 0, .slice ac mc cc]) (by simp [results, Tryz.results61, go_sem, r0, r1]) rfl (ans_of (unhide fin) ((unhide HE) _ _).1 ((unhide HE) _ _).2)

set_option maxRecDepth 100000 in
set_option maxHeartbeats 8000000 in
theorem addImpl_no (v : List M.Cl) (b off cap : Nat) (u : List M.Cl) (b' off' cap' : Nat) (w : World) (hv : M.valueFault v = 0) (hu : M.valueFault u = 0) (hrow : Row w b off v) (hb : b < w.heap.size) (hn : v.length ≤ 1048576) (hcap : v.length ≤ cap) (hok : ∀ c ∈ v, c.ok) (hrow' : Row w b' off' u) (hb' : b' < w.heap.size) (hn' : u.length ≤ 1048576) (hcap' : u.length ≤ cap') (hok' : ∀ c ∈ u, c.ok) (k0 : (v.getD 0 M.zero).kind ≠ 0) (k1 : (u.getD 0 M.zero).kind ≠ 0) (hno : (v.getD 0 M.zero).kind ≠ (u.getD 0 M.zero).kind ∨ (v.getD 0 M.zero).kind = 1 ∨ (v.getD 0 M.zero).kind = 2) :
    Calls Tryz.prog 61 #[.slice (some ⟨b, off, none⟩) v.length cap, .slice (some ⟨b', off', none⟩) u.length cap'] w (Ans w (addIn v u)) := by
  have hl1 := (M.fault_zero hv).1
  have hl1' := (M.fault_zero hu).1
  have hl2 := (M.fault_zero hv).2.1
  have hl2' := (M.fault_zero hu).2.1
  have B0 : ∀ o, Below w.heap.size w (w.alloc o) := fun o => (Below.refl _ _).alloc (Nat.le_refl _) o
  have HB0 := hide B0
  clear B0
  obtain ⟨w0, hw0⟩ : ∃ w0, w0 = w.alloc (.cells #[.int .i64 0, .slice none 0 0] 28) := ⟨_, rfl⟩
  have HR0 : Own w0 w.heap.size 28 [.int .i64 0, .slice none 0 0] := by rw [hw0]; exact ⟨_, heap_alloc_new _ _, rfl⟩
  have B00 : Below w.heap.size w w0 := by rw [hw0]; exact (unhide HB0) _
  have hs0 : w0.heap.size = w.heap.size + 1 := by rw [hw0]; simp
  obtain ⟨f0, f1, f2, _, _⟩ := (hrow.below B00 hb) 0 (by omega)
  obtain ⟨g0, g1, g2, _, _⟩ := (hrow'.below B00 hb') 0 (by omega)
  simp only [Nat.zero_mul, Nat.add_zero] at f0 f1 f2 g0 g1 g2
  have hcv := code_bd (M.first_zero (M.fault_zero hv).2.2.1 _ (getD_mem v 0 (by omega)))
  have hcu := code_bd (M.first_zero (M.fault_zero hu).2.2.1 _ (getD_mem u 0 (by omega)))
  have fin := hide (show addIn v u = (6, []) by
    by_cases e : (v.getD 0 M.zero).kind = (u.getD 0 M.zero).kind
    · exact add_b e k0 (by omega) (by omega) (by omega) (by omega)
    · exact add_k k0 k1 e)
  clear hv hu hok hok' hcv hcu
  generalize v.getD 0 M.zero = c at *
  generalize u.getD 0 M.zero = d at *
  have e0 : (c.kind == 0) = false := by simp [k0]
  have e1 : (d.kind == 0) = false := by simp [k1]
  have HNO := hide (fun k hk => areBoth_no k c.kind d.kind b off v.length cap b' off' u.length cap' w0 (by omega) (by omega) f0 g0 hk)
  have q3 : c.kind ≠ 3 ∨ d.kind ≠ 3 := by omega
  have q4 : c.kind ≠ 4 ∨ d.kind ≠ 4 := by omega
  have q5 : c.kind ≠ 5 ∨ d.kind ≠ 5 := by omega
  have q6 : c.kind ≠ 6 ∨ d.kind ≠ 6 := by omega
  have Q3 := hide q3
  have Q4 := hide q4
  have Q5 := hide q5
  have Q6 := hide q6
  have r0 := HR0.cell 0
  have r1 := HR0.cell 1
  have z0 := HR0.frozen 0
  have z1 := HR0.frozen 1
  simp only [List.getElem?_cons_zero, List.getElem?_cons_succ] at r0 r1
  clear q3 q4 q5 q6 hno k0 k1
  rw [hw0] at f0 f1 f2 g0 g1 g2
  go_enter Tryz.func61, Tryz.ntmps61
  go_wp2_with fail
  rw [← hw0]
  clear hw0 f0 f1 f2 g0 g1 g2 hs0
  refine ((unhide HNO) 3 (unhide Q3)).mono ?_
  rintro ea3 wa3 ⟨rfl, hwa3⟩
  have hwb3 := hwa3.symm
  clear hwa3
  subst hwb3
  go_wp2_with fail
  refine ((unhide HNO) 4 (unhide Q4)).mono ?_
  rintro ea4 wa4 ⟨rfl, hwa4⟩
  have hwb4 := hwa4.symm
  clear hwa4
  subst hwb4
  go_wp2_with fail
  refine ((unhide HNO) 5 (unhide Q5)).mono ?_
  rintro ea5 wa5 ⟨rfl, hwa5⟩
  have hwb5 := hwa5.symm
  clear hwa5
  subst hwb5
  go_wp2_with fail
  refine ((unhide HNO) 6 (unhide Q6)).mono ?_
  rintro ea6 wa6 ⟨rfl, hwa6⟩
  have hwb6 := hwa6.symm
  clear hwa6
  subst hwb6
  go_wp2_with fail
  refine bodyPost_ret (v := .agg #[.int .i64 6, .slice none 0 0]) (by simp [results, Tryz.results61, go_sem, r0, r1]) rfl (ans_of (unhide fin) (resNil _ _) (store_below B00 _ _))

set_option maxRecDepth 100000 in
set_option maxHeartbeats 8000000 in
theorem addImpl_num (v : List M.Cl) (b off cap : Nat) (u : List M.Cl) (b' off' cap' : Nat) (w : World) (hv : M.valueFault v = 0) (hu : M.valueFault u = 0) (hrow : Row w b off v) (hb : b < w.heap.size) (hn : v.length ≤ 1048576) (hcap : v.length ≤ cap) (hok : ∀ c ∈ v, c.ok) (hrow' : Row w b' off' u) (hb' : b' < w.heap.size) (hn' : u.length ≤ 1048576) (hcap' : u.length ≤ cap') (hok' : ∀ c ∈ u, c.ok) (k3 : (v.getD 0 M.zero).kind = 3) (k3' : (u.getD 0 M.zero).kind = 3) :
    Calls Tryz.prog 61 #[.slice (some ⟨b, off, none⟩) v.length cap, .slice (some ⟨b', off', none⟩) u.length cap'] w (Ans w (addIn v u)) := by
  have hl1 := (M.fault_zero hv).1
  have hl1' := (M.fault_zero hu).1
  have hl2 := (M.fault_zero hv).2.1
  have hl2' := (M.fault_zero hu).2.1
  have B0 : ∀ o, Below w.heap.size w (w.alloc o) := fun o => (Below.refl _ _).alloc (Nat.le_refl _) o
  have HB0 := hide B0
  clear B0
  obtain ⟨w0, hw0⟩ : ∃ w0, w0 = w.alloc (.cells #[.int .i64 0, .slice none 0 0] 28) := ⟨_, rfl⟩
  have HR0 : Own w0 w.heap.size 28 [.int .i64 0, .slice none 0 0] := by rw [hw0]; exact ⟨_, heap_alloc_new _ _, rfl⟩
  have B00 : Below w.heap.size w w0 := by rw [hw0]; exact (unhide HB0) _
  have hs0 : w0.heap.size = w.heap.size + 1 := by rw [hw0]; simp
  obtain ⟨f0, f1, f2, _, _⟩ := (hrow.below B00 hb) 0 (by omega)
  obtain ⟨g0, g1, g2, _, _⟩ := (hrow'.below B00 hb') 0 (by omega)
  simp only [Nat.zero_mul, Nat.add_zero] at f0 f1 f2 g0 g1 g2
  have hcv := code_bd (M.first_zero (M.fault_zero hv).2.2.1 _ (getD_mem v 0 (by omega)))
  have hcu := code_bd (M.first_zero (M.fault_zero hu).2.2.1 _ (getD_mem u 0 (by omega)))
  have fin := hide ((add_3 k3 k3').trans (told_num _))
  rw [k3] at f0
  rw [k3'] at g0
  obtain ⟨_, _, x1, x2, _, _, x3, _⟩ := hcv
  obtain ⟨_, _, y1, y2, _, _, y3, _⟩ := hcu
  have x4 := textOk_size x3
  have y4 := textOk_size y3
  clear hv hu hok hok' k3 k3' x3 y3
  generalize v.getD 0 M.zero = c at *
  generalize u.getD 0 M.zero = d at *
  have hwrp : IntKind.i64.wrap (c.num + d.num) = c.num + d.num := IntWalk.i64_in _ ⟨by omega, by omega⟩
  have HSZ := hide (show (c.text ++ d.text).size = c.text.size + d.text.size by simp)
  have HNO := hide (fun k hk => areBoth_no k 3 3 b off v.length cap b' off' u.length cap' w0 (by omega) (by omega) f0 g0 (.inl hk))
  have HYES := hide (areBoth_yes 3 b off v.length cap b' off' u.length cap' w0 (by omega) (by omega) f0 g0)
  generalize hR2 : numOut (c.num + d.num) = R at *
  obtain ⟨rc, rl⟩ := R
  have HR2 := hide hR2
  clear hR2
  have f19 := f1
  have g19 := g1
  rw [hw0] at f0 f1 f2 g0 g1 g2
  go_enter Tryz.func61, Tryz.ntmps61
  go_wp2_with fail
  rw [← hw0]
  clear hw0 f0 f1 f2 g0 g1 g2 hs0
  refine (unhide HYES).mono ?_
  rintro ea3 wa3 ⟨rfl, hwa3⟩
  have hwb3 := hwa3.symm
  clear hwa3
  subst hwb3
  go_wp2_with fail
  go_region_with (go_at_call 9; skip; refine (numberValue_any _ _).mono ?_; rintro e7 w7 ⟨s7, rfl, hr7, hb7⟩; rw [unhide HR2] at hr7 ⊢; have hR7 := HR0.drew.below hb7 HR0.drew.lt; have r0 := hR7.cell 0; have r1 := hR7.cell 1; have z0 := hR7.frozen 0; have z1 := hR7.frozen 1; simp only [List.getElem?_cons_zero, List.getElem?_cons_succ] at r0 r1; have HE := hide (Ans.storeC hr7 (show w.heap.size < _ from by exact HR0.lt) (B00.drew.trans (hb7.mono (by exact B00.size)))); obtain ⟨ac, mc, cc, rfl⟩ := hr7.shape)
  all_goals
    go_wp2_with fail
    refine bodyPost_ret (v := .agg #[.int .i64 rc, .slice ac mc cc]) (by simp [results, Tryz.results61, go_sem, r0, r1]) rfl (ans_of (unhide fin) ((unhide HE) _ _).1 ((unhide HE) _ _).2)

set_option maxRecDepth 100000 in
set_option maxHeartbeats 8000000 in
theorem addImpl_str (v : List M.Cl) (b off cap : Nat) (u : List M.Cl) (b' off' cap' : Nat) (w : World) (hv : M.valueFault v = 0) (hu : M.valueFault u = 0) (hrow : Row w b off v) (hb : b < w.heap.size) (hn : v.length ≤ 1048576) (hcap : v.length ≤ cap) (hok : ∀ c ∈ v, c.ok) (hrow' : Row w b' off' u) (hb' : b' < w.heap.size) (hn' : u.length ≤ 1048576) (hcap' : u.length ≤ cap') (hok' : ∀ c ∈ u, c.ok) (k3 : (v.getD 0 M.zero).kind = 4) (k3' : (u.getD 0 M.zero).kind = 4) :
    Calls Tryz.prog 61 #[.slice (some ⟨b, off, none⟩) v.length cap, .slice (some ⟨b', off', none⟩) u.length cap'] w (Ans w (addIn v u)) := by
  have hl1 := (M.fault_zero hv).1
  have hl1' := (M.fault_zero hu).1
  have hl2 := (M.fault_zero hv).2.1
  have hl2' := (M.fault_zero hu).2.1
  have B0 : ∀ o, Below w.heap.size w (w.alloc o) := fun o => (Below.refl _ _).alloc (Nat.le_refl _) o
  have HB0 := hide B0
  clear B0
  obtain ⟨w0, hw0⟩ : ∃ w0, w0 = w.alloc (.cells #[.int .i64 0, .slice none 0 0] 28) := ⟨_, rfl⟩
  have HR0 : Own w0 w.heap.size 28 [.int .i64 0, .slice none 0 0] := by rw [hw0]; exact ⟨_, heap_alloc_new _ _, rfl⟩
  have B00 : Below w.heap.size w w0 := by rw [hw0]; exact (unhide HB0) _
  have hs0 : w0.heap.size = w.heap.size + 1 := by rw [hw0]; simp
  obtain ⟨f0, f1, f2, _, _⟩ := (hrow.below B00 hb) 0 (by omega)
  obtain ⟨g0, g1, g2, _, _⟩ := (hrow'.below B00 hb') 0 (by omega)
  simp only [Nat.zero_mul, Nat.add_zero] at f0 f1 f2 g0 g1 g2
  have hcv := code_bd (M.first_zero (M.fault_zero hv).2.2.1 _ (getD_mem v 0 (by omega)))
  have hcu := code_bd (M.first_zero (M.fault_zero hu).2.2.1 _ (getD_mem u 0 (by omega)))
  have fin := hide ((add_4 k3 k3').trans (told_str _))
  rw [k3] at f0
  rw [k3'] at g0
  obtain ⟨_, _, x1, x2, _, _, x3, _⟩ := hcv
  obtain ⟨_, _, y1, y2, _, _, y3, _⟩ := hcu
  have x4 := textOk_size x3
  have y4 := textOk_size y3
  clear hv hu hok hok' k3 k3' x3 y3
  generalize v.getD 0 M.zero = c at *
  generalize u.getD 0 M.zero = d at *
  have hwrp : IntKind.i64.wrap (c.num + d.num) = c.num + d.num := IntWalk.i64_in _ ⟨by omega, by omega⟩
  have HSZ := hide (show (c.text ++ d.text).size = c.text.size + d.text.size by simp)
  have HNO := hide (fun k hk => areBoth_no k 4 4 b off v.length cap b' off' u.length cap' w0 (by omega) (by omega) f0 g0 (.inl hk))
  have HYES := hide (areBoth_yes 4 b off v.length cap b' off' u.length cap' w0 (by omega) (by omega) f0 g0)
  generalize hR2 : strOut (c.text ++ d.text) = R at *
  obtain ⟨rc, rl⟩ := R
  have HR2 := hide hR2
  clear hR2
  have f19 := f2
  have g19 := g2
  rw [hw0] at f0 f1 f2 g0 g1 g2
  go_enter Tryz.func61, Tryz.ntmps61
  go_wp2_with fail
  rw [← hw0]
  clear hw0 f0 f1 f2 g0 g1 g2 hs0
  refine ((unhide HNO) 3 (by decide)).mono ?_
  rintro ea3 wa3 ⟨rfl, hwa3⟩
  have hwb3 := hwa3.symm
  clear hwa3
  subst hwb3
  go_wp2_with fail
  refine (unhide HYES).mono ?_
  rintro ea4 wa4 ⟨rfl, hwa4⟩
  have hwb4 := hwa4.symm
  clear hwa4
  subst hwb4
  go_wp2_with fail
  go_region_with (go_at_call 82; skip; refine (stringValue_any _ _ (by rw [unhide HSZ]; omega)).mono ?_; rintro e7 w7 ⟨s7, rfl, hr7, hb7⟩; rw [unhide HR2] at hr7 ⊢; have hR7 := HR0.drew.below hb7 HR0.drew.lt; have r0 := hR7.cell 0; have r1 := hR7.cell 1; have z0 := hR7.frozen 0; have z1 := hR7.frozen 1; simp only [List.getElem?_cons_zero, List.getElem?_cons_succ] at r0 r1; have HE := hide (Ans.storeC hr7 (show w.heap.size < _ from by exact HR0.lt) (B00.drew.trans (hb7.mono (by exact B00.size)))); obtain ⟨ac, mc, cc, rfl⟩ := hr7.shape)
  all_goals
    go_wp2_with fail
    refine bodyPost_ret (v := .agg #[.int .i64 rc, .slice ac mc cc]) (by simp [results, Tryz.results61, go_sem, r0, r1]) rfl (ans_of (unhide fin) ((unhide HE) _ _).1 ((unhide HE) _ _).2)

set_option maxHeartbeats 1000000 in
theorem addTwo_any (v : List M.Cl) (b off cap : Nat) (u : List M.Cl) (b' off' cap' : Nat) (w : World) (hv : M.valueFault v = 0) (hu : M.valueFault u = 0) (hrow : Row w b off v) (hb : b < w.heap.size) (hn : v.length ≤ 1048576) (hcap : v.length ≤ cap) (hok : ∀ c ∈ v, c.ok) (hrow' : Row w b' off' u) (hb' : b' < w.heap.size) (hn' : u.length ≤ 1048576) (hcap' : u.length ≤ cap') (hok' : ∀ c ∈ u, c.ok) :
    Calls Tryz.prog 61 #[.slice (some ⟨b, off, none⟩) v.length cap, .slice (some ⟨b', off', none⟩) u.length cap'] w (Ans w (addIn v u)) := by
  by_cases k0 : (v.getD 0 M.zero).kind = 0
  · exact addImpl_nl v b off cap u b' off' cap' w hv hu hrow hb hn hcap hok hrow' hb' hn' hcap' hok' k0
  by_cases k1 : (u.getD 0 M.zero).kind = 0
  · exact addImpl_nr v b off cap u b' off' cap' w hv hu hrow hb hn hcap hok hrow' hb' hn' hcap' hok' k0 k1
  by_cases hno : (v.getD 0 M.zero).kind ≠ (u.getD 0 M.zero).kind ∨ (v.getD 0 M.zero).kind = 1 ∨ (v.getD 0 M.zero).kind = 2
  · exact addImpl_no v b off cap u b' off' cap' w hv hu hrow hb hn hcap hok hrow' hb' hn' hcap' hok' k0 k1 hno
  have hl1 := (M.fault_zero hv).1
  have hcv := code_bd (M.first_zero (M.fault_zero hv).2.2.1 _ (getD_mem v 0 (by omega)))
  by_cases k3 : (v.getD 0 M.zero).kind = 3
  · exact addImpl_num v b off cap u b' off' cap' w hv hu hrow hb hn hcap hok hrow' hb' hn' hcap' hok' k3 (by omega)
  by_cases k4 : (v.getD 0 M.zero).kind = 4
  · exact addImpl_str v b off cap u b' off' cap' w hv hu hrow hb hn hcap hok hrow' hb' hn' hcap' hok' k4 (by omega)
  by_cases k5 : (v.getD 0 M.zero).kind = 5
  · exact addImpl_arr v b off cap u b' off' cap' w hv hu hrow hb hn hcap hok hrow' hb' hn' hcap' hok' k5 (by omega)
  · exact addImpl_obj v b off cap u b' off' cap' w hv hu hrow hb hn hcap hok hrow' hb' hn' hcap' hok' (by omega) (by omega)

end Go.Proofs.YtemehbjlfiebdaaGreat
