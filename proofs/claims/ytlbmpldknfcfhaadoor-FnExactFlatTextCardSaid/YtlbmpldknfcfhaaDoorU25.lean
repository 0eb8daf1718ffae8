/-
  spec.LengthOf and impl.LengthOf.
  spec.GetAt and impl.GetAt.
-/
import Derived.Test.YtlbmpldknfcfhaaDoorU19
import Derived.Test.YtlbmpldknfcfhaaDoorU21
import Derived.Test.YtlbmpldknfcfhaaDoorU24
namespace Go.Proofs.YtlbmpldknfcfhaaDoor
open Go.RowKit
set_option linter.unusedVariables false

/-- The size of a number. -/
def size (n : Int) : Int := if n < 0 then -n else n
/-- What is known of a cell that has no fault. -/
theorem code_bd {c : M.Cl} (h : M.cellCode c = 0) : 0 ≤ c.kind ∧ c.kind ≤ 6 ∧ -1000000000000000 ≤ c.num ∧ c.num ≤ 1000000000000000 ∧ 0 ≤ c.n ∧ c.n ≤ 200 ∧ M.textOk c.text = true ∧ M.textOk c.key = true := by
  unfold M.cellCode at h
  split at h
  · cases h
  split at h
  · cases h
  split at h
  · cases h
  split at h
  · rename_i h4; exact ⟨by omega, by omega, by omega, by omega, by omega, by omega, h4.1, h4.2⟩
  · cases h
theorem textOk_size {s : ByteArray} (h : M.textOk s = true) : s.size ≤ 60 := by
  unfold M.textOk at h
  rw [Bool.and_eq_true] at h
  exact of_decide_eq_true h.1

end Go.Proofs.YtlbmpldknfcfhaaDoor

namespace Go.Proofs.YtlbmpldknfcfhaaDoor
open Go.RowKit
set_option linter.unusedVariables false

def atIn (v : List M.Cl) (c : M.Cl) : Int × List M.Cl := if c.kind = 4 then getOut v c.text else if c.kind = 3 then idxOut v c.num else (6, [])
def gaOut (v u : List M.Cl) : Int × List M.Cl := if bothOut v u ≠ 0 then (bothOut v u, []) else atIn v (u.getD 0 M.zero)
theorem ga_bad {v u : List M.Cl} (h : bothOut v u ≠ 0) : gaOut v u = (bothOut v u, []) := if_pos h
theorem ga_ok {v u : List M.Cl} (h : bothOut v u = 0) : gaOut v u = atIn v (u.getD 0 M.zero) := by unfold gaOut; rw [if_neg (by simp [h])]
theorem at_4 {v : List M.Cl} {c : M.Cl} (h : c.kind = 4) : atIn v c = getOut v c.text := if_pos h
theorem at_3 {v : List M.Cl} {c : M.Cl} (h : c.kind = 3) : atIn v c = idxOut v c.num := by unfold atIn; rw [if_neg (by omega), if_pos h]
theorem at_no {v : List M.Cl} {c : M.Cl} (h4 : c.kind ≠ 4) (h3 : c.kind ≠ 3) : atIn v c = (6, []) := by unfold atIn; rw [if_neg h4, if_neg h3]

set_option maxHeartbeats 2000000 in
theorem l3At_any (v : List M.Cl) (b off cap : Nat) (u : List M.Cl) (b' off' cap' : Nat) (w : World) (hv : M.valueFault v = 0) (hu : M.valueFault u = 0) (hrow : Row w b off v) (hb : b < w.heap.size) (hn : v.length ≤ 1048576) (hcap : v.length ≤ cap) (hok : ∀ c ∈ v, c.ok) (hrow' : Row w b' off' u) (hb' : b' < w.heap.size) (hn' : u.length ≤ 1048576) (hcap' : u.length ≤ cap') (hok' : ∀ c ∈ u, c.ok) :
    Calls Tryd.prog 68 #[.slice (some ⟨b, off, none⟩) v.length cap, .slice (some ⟨b', off', none⟩) u.length cap'] w (Ans w (atIn v (u.getD 0 M.zero))) := by
  have hl1 := (M.fault_zero hu).1
  have hcd := M.first_zero (M.fault_zero hu).2.2.1 _ (getD_mem u 0 (by omega))
  obtain ⟨c0, c1, c2, c3, c4, c5, c6, _⟩ := code_bd hcd
  have B0 : ∀ o, Below w.heap.size w (w.alloc o) := fun o => (Below.refl _ _).alloc (Nat.le_refl _) o
  have HB0 := hide B0
  clear B0
  have hR0 : Own (w.alloc (.cells #[.int .i64 0, .slice none 0 0] 56)) w.heap.size 56 [.int .i64 0, .slice none 0 0] := ⟨_, heap_alloc_new _ _, rfl⟩
  have HR0 := hide hR0
  have HG := hide (fun key w' (r : Row w' b off v) hb' => l3Get_any v b off cap key w' hv r hb' hcap hok)
  have HX := hide (fun n w' (r : Row w' b off v) hb' n0 n1 => l3Index_any v b off cap n w' hv r hb' hcap hok n0 n1)
  obtain ⟨q0, q1, q2, _, _⟩ := hrow' 0 (by omega)
  simp only [Nat.zero_mul, Nat.add_zero] at q0 q1 q2
  generalize u.getD 0 M.zero = c at *
  have f0 : ∀ o, (w.alloc o).cell? ⟨b', off', none⟩ = some (.int .i64 c.kind) := fun o => (((unhide HB0) o).cell hb').trans q0
  have f1 : ∀ o, (w.alloc o).cell? ⟨b', off' + 1, none⟩ = some (.int .i64 c.num) := fun o => (((unhide HB0) o).cell hb').trans q1
  have f2 : ∀ o, (w.alloc o).cell? ⟨b', off' + 2, none⟩ = some (.string c.text) := fun o => (((unhide HB0) o).cell hb').trans q2
  have HRA := hide (fun o => hrow.below ((unhide HB0) o) hb)
  have HBA := hide (show ∀ o, b < (w.alloc o).heap.size from fun o => by simp; omega)
  clear q0 q1 q2 hv hu hok hok' hrow hrow' hcd c6 hR0
  by_cases k4 : c.kind = 4
  · have fin := hide (at_4 (v := v) k4)
    rw [k4] at f0
    clear k4
    generalize hR2 : getOut v c.text = R at *
    obtain ⟨rc, rl⟩ := R
    have HR2 := hide hR2
    clear hR2
    go_enter Tryd.func68, Tryd.ntmps68
    go_wp2_with fail
    refine ((unhide HG) _ _ ((unhide HRA) _) ((unhide HBA) _)).mono ?_
    rintro ec wc ⟨sc, rfl, hrc, hbc⟩
    have hRc := (unhide HR0).below hbc (unhide HR0).lt
    have r0 := hRc.cell 0
    have r1 := hRc.cell 1
    have z0 := hRc.frozen 0
    have z1 := hRc.frozen 1
    simp only [List.getElem?_cons_zero, List.getElem?_cons_succ] at r0 r1
    rw [unhide HR2] at hrc ⊢
    have HE := hide (Ans.store hrc ((unhide HB0) _) (unhide HR0).lt hbc)
    obtain ⟨ac, mc, cc, rfl⟩ := hrc.shape
    clear f0 f1 f2 hrc hbc
    go_wp2_with fail
    refine bodyPost_ret (v := .agg #[.int .i64 rc, .slice ac mc cc]) (by simp [results, Tryd.results68, go_sem, r0, r1]) rfl (ans_of (unhide fin) ((unhide HE) _ _).1 ((unhide HE) _ _).2)
  by_cases k3 : c.kind = 3
  · have fin := hide (at_3 (v := v) k3)
    rw [k3] at f0
    clear k3 k4
    generalize hR2 : idxOut v c.num = R at *
    obtain ⟨rc, rl⟩ := R
    have HR2 := hide hR2
    clear hR2
    go_enter Tryd.func68, Tryd.ntmps68
    go_wp2_with fail
    refine ((unhide HX) _ _ ((unhide HRA) _) ((unhide HBA) _) (by omega) (by omega)).mono ?_
    rintro ec wc ⟨sc, rfl, hrc, hbc⟩
    have hRc := (unhide HR0).below hbc (unhide HR0).lt
    have r0 := hRc.cell 0
    have r1 := hRc.cell 1
    have z0 := hRc.frozen 0
    have z1 := hRc.frozen 1
    simp only [List.getElem?_cons_zero, List.getElem?_cons_succ] at r0 r1
    rw [unhide HR2] at hrc ⊢
    have HE := hide (Ans.store hrc ((unhide HB0) _) (unhide HR0).lt hbc)
    obtain ⟨ac, mc, cc, rfl⟩ := hrc.shape
    clear f0 f1 f2 hrc hbc
    go_wp2_with fail
    refine bodyPost_ret (v := .agg #[.int .i64 rc, .slice ac mc cc]) (by simp [results, Tryd.results68, go_sem, r0, r1]) rfl (ans_of (unhide fin) ((unhide HE) _ _).1 ((unhide HE) _ _).2)
  · have fin := hide (at_no (v := v) k4 k3)
    have e4 : (c.kind == 4) = false := by simp [k4]
    have e3 : (c.kind == 3) = false := by simp [k3]
    clear k3 k4
    go_enter Tryd.func68, Tryd.ntmps68
    go_wp2_with fail
    refine (l3Bad_any _ _).mono ?_
    rintro ec wc ⟨sc, rfl, hrc, hbc⟩
    have hRc := (unhide HR0).below hbc (unhide HR0).lt
    have r0 := hRc.cell 0
    have r1 := hRc.cell 1
    have z0 := hRc.frozen 0
    have z1 := hRc.frozen 1
    simp only [List.getElem?_cons_zero, List.getElem?_cons_succ] at r0 r1
    have HE := hide (Ans.store hrc ((unhide HB0) _) (unhide HR0).lt hbc)
    obtain ⟨ac, mc, cc, rfl⟩ := hrc.shape
    clear f0 f1 f2 e4 e3 hrc hbc
    go_wp2_with fail
    refine bodyPost_ret (v := .agg #[.int .i64 6, .slice ac mc cc]) (by simp [results, Tryd.results68, go_sem, r0, r1]) rfl (ans_of (unhide fin) ((unhide HE) _ _).1 ((unhide HE) _ _).2)

set_option maxRecDepth 100000 in
set_option maxHeartbeats 2000000 in
theorem implGetAt_any (v : List M.Cl) (b off cap : Nat) (u : List M.Cl) (b' off' cap' : Nat) (w : World) (hrow : Row w b off v) (hb : b < w.heap.size) (hn : v.length ≤ 1048576) (hcap : v.length ≤ cap) (hok : ∀ c ∈ v, c.ok) (hrow' : Row w b' off' u) (hb' : b' < w.heap.size) (hn' : u.length ≤ 1048576) (hcap' : u.length ≤ cap') (hok' : ∀ c ∈ u, c.ok) :
    Calls Tryd.prog 73 #[.slice (some ⟨b, off, none⟩) v.length cap, .slice (some ⟨b', off', none⟩) u.length cap'] w (Ans w (gaOut v u)) := by
  have OK := hide hok
  have B0 : ∀ o, Below w.heap.size w (w.alloc o) := fun o => (Below.refl _ _).alloc (Nat.le_refl _) o
  have HB0 := hide B0
  clear B0
  have HKF := hide (fun o => firstFaultV_any (some ⟨w.heap.size + 1, 0, none⟩) 2 [v, u] ((w.alloc o).alloc (.cells #[.slice (some ⟨b, off, none⟩) v.length cap, .slice (some ⟨b', off', none⟩) u.length cap'] 27)) (LV.two (w.alloc o) (w.heap.size + 1) b off cap b' off' cap' v u 27 (by simp) (hrow.below ((unhide HB0) _) hb) (by simp; omega) hcap (hrow'.below ((unhide HB0) _) hb') (by simp; omega) hcap') (by simp) (by simp) (len_two hn hn') (okS_two hok hok'))
  simp only [List.length_cons, List.length_nil, Nat.zero_add, firstBad_both] at HKF
  clear hok hok'
  go_enter Tryd.func73, Tryd.ntmps73
  go_wp2_with fail
  refine ((unhide HKF) _).mono ?_
  rintro e1 w1 ⟨rfl, hb1⟩
  have hR : Own w1 w.heap.size 56 [.int .i64 0, .slice none 0 0] := Own.below (Own.alloc ⟨_, heap_alloc_new _ _, rfl⟩ _) hb1 (by simp; omega)
  have B1 : Below w.heap.size w w1 := (((unhide HB0) _).alloc (by simp) _).trans (hb1.mono (by simp; omega))
  have hrow1 := hrow.below B1 hb
  have hb1' : b < w1.heap.size := Nat.lt_of_lt_of_le hb B1.size
  have hrow2 := hrow'.below B1 hb'
  have hb2' : b' < w1.heap.size := Nat.lt_of_lt_of_le hb' B1.size
  clear hb1 HKF
  generalize hq : bothOut v u = q
  by_cases hz : q = 0
  · subst hz
    have fin := hide (ga_ok hq)
    obtain ⟨hv, hu⟩ := both_zero hq
    have hl1 := (M.fault_zero hu).1
    have hcd := M.first_zero (M.fault_zero hu).2.2.1 _ (getD_mem u 0 (by omega))
    obtain ⟨c0, c1, c2, c3, c4, c5, c6, _⟩ := code_bd hcd
    obtain ⟨f0, f1, f2, _, _⟩ := hrow2 0 (by omega)
    simp only [Nat.zero_mul, Nat.add_zero] at f0 f1 f2
    generalize u.getD 0 M.zero = c at *
    clear hcd hq
    by_cases k4 : c.kind = 4
    · have c7 := textOk_size c6
      have fin2 := hide (((unhide fin).trans (at_4 (v := v) k4)).trans (gk_ok hv c6).symm)
      have HG := hide (implGetKey_any v b off cap c.text w1 hrow1 hb1' hn hcap (unhide OK) (by omega))
      rw [k4] at f0
      clear k4 hv hu c6 fin
      generalize hR2 : getKeyOut v c.text = R at *
      obtain ⟨rc, rl⟩ := R
      clear hR2
      go_wp2_with fail
      refine (unhide HG).mono ?_
      rintro ec wc ⟨sc, rfl, hrc, hbc⟩
      have hRc := hR.below hbc hR.lt
      have r0 := hRc.cell 0
      have r1 := hRc.cell 1
      have z0 := hRc.frozen 0
      have z1 := hRc.frozen 1
      simp only [List.getElem?_cons_zero, List.getElem?_cons_succ] at r0 r1
      have HE := hide (Ans.store hrc B1 hR.lt hbc)
      obtain ⟨ac, mc, cc, rfl⟩ := hrc.shape
      clear f0 f1 f2 hrc hbc
      go_wp2_with fail
      refine bodyPost_ret (v := .agg #[.int .i64 rc, .slice ac mc cc]) (by simp [results, Tryd.results73, go_sem, r0, r1]) rfl (ans_of (unhide fin2) ((unhide HE) _ _).1 ((unhide HE) _ _).2)
    by_cases k3 : c.kind = 3
    · have fin2 := hide (((unhide fin).trans (at_3 (v := v) k3)).trans (gi_ok (n := c.num) hv).symm)
      have HG := hide (implGetIndex_any v b off cap c.num w1 hrow1 hb1' hn hcap (unhide OK) (by omega) (by omega))
      rw [k3] at f0
      clear k4 k3 hv hu c6 fin
      generalize hR2 : getIdxOut v c.num = R at *
      obtain ⟨rc, rl⟩ := R
      clear hR2
      go_wp2_with fail
      refine (unhide HG).mono ?_
      rintro ec wc ⟨sc, rfl, hrc, hbc⟩
      have hRc := hR.below hbc hR.lt
      have r0 := hRc.cell 0
      have r1 := hRc.cell 1
      have z0 := hRc.frozen 0
      have z1 := hRc.frozen 1
      simp only [List.getElem?_cons_zero, List.getElem?_cons_succ] at r0 r1
      have HE := hide (Ans.store hrc B1 hR.lt hbc)
      obtain ⟨ac, mc, cc, rfl⟩ := hrc.shape
      clear f0 f1 f2 hrc hbc
      go_wp2_with fail
      refine bodyPost_ret (v := .agg #[.int .i64 rc, .slice ac mc cc]) (by simp [results, Tryd.results73, go_sem, r0, r1]) rfl (ans_of (unhide fin2) ((unhide HE) _ _).1 ((unhide HE) _ _).2)
    · have fin2 := hide ((unhide fin).trans (at_no (v := v) k4 k3))
      have e4 : (c.kind == 4) = false := by simp [k4]
      have e3 : (c.kind == 3) = false := by simp [k3]
      have r0 := hR.cell 0
      have r1 := hR.cell 1
      have z0 := hR.frozen 0
      have z1 := hR.frozen 1
      simp only [List.getElem?_cons_zero, List.getElem?_cons_succ] at r0 r1
      clear k4 k3 hv hu c6 fin
      go_wp2_with fail
      refine bodyPost_ret (v := .agg #[.int .i64 6, .slice none 0 0]) (by simp [results, Tryd.results73, go_sem, r0, r1]) rfl (ans_of (unhide fin2) (resNil _ _) (store_below B1 _ _))
  · have fin := hide ((ga_bad (by rw [hq]; exact hz)).trans (by rw [hq]))
    have hz' : (q == 0) = false := by simp [hz]
    have r0 := hR.cell 0
    have r1 := hR.cell 1
    have z0 := hR.frozen 0
    have z1 := hR.frozen 1
    simp only [List.getElem?_cons_zero, List.getElem?_cons_succ] at r0 r1
    clear hq
    go_wp2_with fail
    refine bodyPost_ret (v := .agg #[.int .i64 q, .slice none 0 0]) (by simp [results, Tryd.results73, go_sem, r0, r1]) rfl (ans_of (unhide fin) (resNil _ _) (store_below B1 _ _))

end Go.Proofs.YtlbmpldknfcfhaaDoor
