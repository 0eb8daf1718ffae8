/-
  impl.MergeValues; spec.MergeValues (mk_mgv.py).
-/
import Derived.Test.YtlmibdddfjbbdaaM29
import Derived.Test.YtlmibdddfjbbdaaM30
import Derived.Test.YtlmibdddfjbbdaaM31
import Derived.Test.YtlmibdddfjbbdaaM41
namespace Go.Proofs.Ytlmibdddfjbbdaa
open Go.RowKit
set_option linter.unusedVariables false
set_option linter.unusedSimpArgs false
namespace Mg
/-- What spec.l14Merge says of members of at most f cells. -/
def MsSays (f : Nat) : Prop := ∀ (A B : List M.Cl) (b off cap b' off' cap' : Nat) (w : World), M.valueFault A = 0 → M.valueFault B = 0 → B.length ≤ f → Row w b off A → b < w.heap.size → A.length ≤ cap → Row w b' off' B → b' < w.heap.size → B.length ≤ cap' →
  Calls Try.prog 17 #[.slice (some ⟨b, off, none⟩) A.length cap, .slice (some ⟨b', off', none⟩) B.length cap'] w fun e w' => ∃ s, e = .returned s ∧ Res w' w.heap.size s (merge f A B) ∧ Below w.heap.size w w'
set_option maxRecDepth 100000 in
set_option maxHeartbeats 4000000 in
theorem implMerge_any (v : List M.Cl) (b off cap : Nat) (u : List M.Cl) (b' off' cap' : Nat) (w : World) (hrow : Row w b off v) (hb : b < w.heap.size) (hn : v.length ≤ 1048576) (hcap : v.length ≤ cap) (hok : ∀ c ∈ v, c.ok) (hrow' : Row w b' off' u) (hb' : b' < w.heap.size) (hn' : u.length ≤ 1048576) (hcap' : u.length ≤ cap') (hok' : ∀ c ∈ u, c.ok) :
    Calls Try.prog 7 #[.slice (some ⟨b, off, none⟩) v.length cap, .slice (some ⟨b', off', none⟩) u.length cap'] w (Ans w (mergeOut v u)) := by
  have B0 : ∀ o, Below w.heap.size w (w.alloc o) := fun o => (Below.refl _ _).alloc (Nat.le_refl _) o
  have HB0 := hide B0
  clear B0
  have HKF := hide (fun o => firstFaultV_any (some ⟨w.heap.size + 1, 0, none⟩) 2 [v, u] ((w.alloc o).alloc (.cells #[.slice (some ⟨b, off, none⟩) v.length cap, .slice (some ⟨b', off', none⟩) u.length cap'] 24)) (LV.two (w.alloc o) (w.heap.size + 1) b off cap b' off' cap' v u 24 (by simp) (hrow.below ((unhide HB0) _) hb) (by simp; omega) hcap (hrow'.below ((unhide HB0) _) hb') (by simp; omega) hcap') (by simp) (by simp) (len_two hn hn') (okS_two hok hok'))
  simp only [List.length_cons, List.length_nil, Nat.zero_add, firstBad_both] at HKF
  clear hok hok'
  go_enter Try.func7, Try.ntmps7
  go_wp2_with fail
  refine ((unhide HKF) _).mono ?_
  rintro e1 w1 ⟨rfl, hb1⟩
  have hR : Own w1 w.heap.size 26 [.int .i64 0, .slice none 0 0] := Own.below (Own.alloc ⟨_, heap_alloc_new _ _, rfl⟩ _) hb1 (by simp; omega)
  have HLT := hR.lt
  have B1 : Below w.heap.size w w1 := (((unhide HB0) _).alloc (by simp) _).trans (hb1.mono (by simp; omega))
  clear HKF
  have hrow1 := hrow.below B1 hb
  have hb1' : b < w1.heap.size := Nat.lt_of_lt_of_le hb B1.size
  have hrow2 := hrow'.below B1 hb'
  have hb2' : b' < w1.heap.size := Nat.lt_of_lt_of_le hb' B1.size
  clear hb1
  generalize hq : bothOut v u = q
  by_cases hz : q = 0
  · subst hz
    have fin := hide (out_ok hq)
    obtain ⟨hv, hu⟩ := both_zero hq
    have HM := hide (mergedOf_any u.length v u b off cap b' off' cap' w1 hv hu (Nat.le_refl _) hrow1 hb1' hcap hrow2 hb2' hcap')
    have ft := merge_fit u.length v u hv hu (Nat.le_refl _)
    have HNE := hide (show merge u.length v u ≠ [] from by have h := ft.bare.1; intro e; rw [e] at h; simp at h)
    have HLN := hide (show (merge u.length v u).length ≤ 1048576 from by have := ft.len; obtain ⟨ho, _, hol⟩ := objOf_val hv; have := (M.fault_zero ho).2.1; have := (M.fault_zero hu).2.1; omega)
    have HOK := hide ft.ok
    clear hq hv hu ft hrow1 hrow2
    generalize merge u.length v u = M0 at *
    have hnT : M0.length ≤ 1048576 := unhide HLN
    go_wp2_with fail
    refine (unhide HM).mono ?_
    rintro em w2 ⟨sm, rfl, hrm, hbm⟩
    have B2 : Below w1.heap.size w1 w2 := hbm
    have HT := hide (implTold_any sm w1.heap.size M0 w2 hrm hbm.size (unhide HNE) (unhide HLN) (unhide HOK))
    have hR := hR.below hbm hR.lt
    obtain ⟨am, mm, cm, rfl⟩ := hrm.shape
    generalize hR2 : told M0 = R at *
    obtain ⟨rc, rl⟩ := R
    clear hR2 hrm hbm HM HNE HLN HOK
    go_wp2_with fail
    refine (unhide HT).mono ?_
    rintro ec wc ⟨sc, rfl, hrc, hbc⟩
    have hRc := hR.below hbc hR.lt
    have r0 := hRc.cell 0
    have r1 := hRc.cell 1
    have z0 := hRc.frozen 0
    have z1 := hRc.frozen 1
    simp only [List.getElem?_cons_zero, List.getElem?_cons_succ] at r0 r1
    have HE := hide (Ans.store hrc B1 HLT (B2.trans (hbc.mono B2.size)))
    obtain ⟨ac, mc, cc, rfl⟩ := hrc.shape
    clear hrc hbc HT
    go_wp2_with fail
    refine bodyPost_ret (v := .agg #[.int .i64 rc, .slice ac mc cc]) (by simp [results, Try.results7, go_sem, r0, r1]) rfl (ans_of (unhide fin) ((unhide HE) _ _).1 ((unhide HE) _ _).2)
  · have fin := hide ((out_bad (by rw [hq]; exact hz)).trans (by rw [hq]))
    have hz' : (q == 0) = false := by simp [hz]
    have r0 := hR.cell 0
    have r1 := hR.cell 1
    have z0 := hR.frozen 0
    have z1 := hR.frozen 1
    simp only [List.getElem?_cons_zero, List.getElem?_cons_succ] at r0 r1
    clear hq hrow1 hrow2
    go_wp2_with fail
    refine bodyPost_ret (v := .agg #[.int .i64 q, .slice none 0 0]) (by simp [results, Try.results7, go_sem, r0, r1]) rfl (ans_of (unhide fin) (resNil _ _) (store_below B1 _ _))
set_option maxRecDepth 100000 in
set_option maxHeartbeats 4000000 in
theorem specMerge_of (v : List M.Cl) (b off cap : Nat) (u : List M.Cl) (b' off' cap' : Nat) (w : World) (hrow : Row w b off v) (hb : b < w.heap.size) (hn : v.length ≤ 1048576) (hcap : v.length ≤ cap) (hok : ∀ c ∈ v, c.ok) (hrow' : Row w b' off' u) (hb' : b' < w.heap.size) (hn' : u.length ≤ 1048576) (hcap' : u.length ≤ cap') (hok' : ∀ c ∈ u, c.ok) (HS : Hid (MsSays u.length)) :
    Calls Try.prog 5 #[.slice (some ⟨b, off, none⟩) v.length cap, .slice (some ⟨b', off', none⟩) u.length cap'] w (Ans w (mergeOut v u)) := by
  have OK := hide hok
  have OK' := hide hok'
  have B0 : ∀ o, Below w.heap.size w (w.alloc o) := fun o => (Below.refl _ _).alloc (Nat.le_refl _) o
  have HB0 := hide B0
  clear B0
  clear hok hok'
  go_enter Try.func5, Try.ntmps5
  go_wp2_with fail
  refine (l3Both_any v b off cap u b' off' cap' _ (hrow.below ((unhide HB0) _) hb) (by simp; omega) hn hcap (unhide OK) (hrow'.below ((unhide HB0) _) hb') (by simp; omega) hn' hcap' (unhide OK')).mono ?_
  rintro e1 w1 ⟨rfl, hb1⟩
  have hR : Own w1 w.heap.size 26 [.int .i64 0, .slice none 0 0] := Own.below ⟨_, heap_alloc_new _ _, rfl⟩ hb1 (by simp)
  have HLT := hR.lt
  have B1 : Below w.heap.size w w1 := ((unhide HB0) _).trans (hb1.mono (by simp))
  have hrow1 := hrow.below B1 hb
  have hb1' : b < w1.heap.size := Nat.lt_of_lt_of_le hb B1.size
  have hrow2 := hrow'.below B1 hb'
  have hb2' : b' < w1.heap.size := Nat.lt_of_lt_of_le hb' B1.size
  clear hb1
  generalize hq : bothOut v u = q
  by_cases hz : q = 0
  · subst hz
    have fin := hide (out_ok hq)
    obtain ⟨hv, hu⟩ := both_zero hq
    have HM := hide ((unhide HS) v u b off cap b' off' cap' w1 hv hu (Nat.le_refl _) hrow1 hb1' hcap hrow2 hb2' hcap')
    have ft := merge_fit u.length v u hv hu (Nat.le_refl _)
    have HNE := hide (show merge u.length v u ≠ [] from by have h := ft.bare.1; intro e; rw [e] at h; simp at h)
    have HLN := hide (show (merge u.length v u).length ≤ 1048576 from by have := ft.len; obtain ⟨ho, _, hol⟩ := objOf_val hv; have := (M.fault_zero ho).2.1; have := (M.fault_zero hu).2.1; omega)
    have HOK := hide ft.ok
    clear hq hv hu ft hrow1 hrow2
    generalize merge u.length v u = M0 at *
    have hnT : M0.length ≤ 1048576 := unhide HLN
    go_wp2_with fail
    refine (unhide HM).mono ?_
    rintro em w2 ⟨sm, rfl, hrm, hbm⟩
    have B2 : Below w1.heap.size w1 w2 := hbm
    have HT := hide (specTold_any sm w1.heap.size M0 w2 hrm hbm.size (unhide HNE) (unhide HLN) (unhide HOK))
    have hR := hR.below hbm hR.lt
    obtain ⟨am, mm, cm, rfl⟩ := hrm.shape
    generalize hR2 : told M0 = R at *
    obtain ⟨rc, rl⟩ := R
    clear hR2 hrm hbm HM HNE HLN HOK
    go_wp2_with fail
    refine (unhide HT).mono ?_
    rintro ec wc ⟨sc, rfl, hrc, hbc⟩
    have hRc := hR.below hbc hR.lt
    have r0 := hRc.cell 0
    have r1 := hRc.cell 1
    have z0 := hRc.frozen 0
    have z1 := hRc.frozen 1
    simp only [List.getElem?_cons_zero, List.getElem?_cons_succ] at r0 r1
    have HE := hide (Ans.store hrc B1 HLT (B2.trans (hbc.mono B2.size)))
    obtain ⟨ac, mc, cc, rfl⟩ := hrc.shape
    clear hrc hbc HT
    go_wp2_with fail
    refine bodyPost_ret (v := .agg #[.int .i64 rc, .slice ac mc cc]) (by simp [results, Try.results5, go_sem, r0, r1]) rfl (ans_of (unhide fin) ((unhide HE) _ _).1 ((unhide HE) _ _).2)
  · have fin := hide ((out_bad (by rw [hq]; exact hz)).trans (by rw [hq]))
    have hz' : (q == 0) = false := by simp [hz]
    clear hq hrow1 hrow2
    go_wp2_with fail
    refine (l3Bad_any _ _).mono ?_
    rintro ec wc ⟨sc, rfl, hrc, hbc⟩
    have hRc := hR.below hbc hR.lt
    have r0 := hRc.cell 0
    have r1 := hRc.cell 1
    have z0 := hRc.frozen 0
    have z1 := hRc.frozen 1
    simp only [List.getElem?_cons_zero, List.getElem?_cons_succ] at r0 r1
    have HE := hide (Ans.store hrc B1 hR.lt hbc)
    obtain ⟨ac, mc, cc, rfl⟩ := hrc.shape
    clear hrc hbc
    go_wp2_with fail
    refine bodyPost_ret (v := .agg #[.int .i64 q, .slice ac mc cc]) (by simp [results, Try.results5, go_sem, r0, r1]) rfl (ans_of (unhide fin) ((unhide HE) _ _).1 ((unhide HE) _ _).2)
end Mg
end Go.Proofs.Ytlmibdddfjbbdaa
