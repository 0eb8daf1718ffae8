/-
  impl.addTwo of two arrays and of two objects.
-/
import Derived.Test.YtemehbjlfiebdaaGreatX42
import Derived.Test.YtemehbjlfiebdaaGreatX46
namespace Go.Proofs.YtemehbjlfiebdaaGreat
open Go.RowKit
set_option linter.unusedVariables false

set_option maxRecDepth 100000 in
set_option maxHeartbeats 8000000 in
theorem addImpl_arr (v : List M.Cl) (b off cap : Nat) (u : List M.Cl) (b' off' cap' : Nat) (w : World) (hv : M.valueFault v = 0) (hu : M.valueFault u = 0) (hrow : Row w b off v) (hb : b < w.heap.size) (hn : v.length ≤ 1048576) (hcap : v.length ≤ cap) (hok : ∀ c ∈ v, c.ok) (hrow' : Row w b' off' u) (hb' : b' < w.heap.size) (hn' : u.length ≤ 1048576) (hcap' : u.length ≤ cap') (hok' : ∀ c ∈ u, c.ok) (k5 : (v.getD 0 M.zero).kind = 5) (k5' : (u.getD 0 M.zero).kind = 5) :
    Calls Tryz.prog 61 #[.slice (some ⟨b, off, none⟩) v.length cap, .slice (some ⟨b', off', none⟩) u.length cap'] w (Ans w (addIn v u)) := by
  have OK := hide hok
  have OK' := hide hok'
  have HVV0 := hide hv
  have HUV := hide hu
  have hl1 := (M.fault_zero hv).1
  have hl1' := (M.fault_zero hu).1
  have B0 : ∀ o, Below w.heap.size w (w.alloc o) := fun o => (Below.refl _ _).alloc (Nat.le_refl _) o
  have HB0 := hide B0
  clear B0
  obtain ⟨w0, hw0⟩ : ∃ w0, w0 = w.alloc (.cells #[.int .i64 0, .slice none 0 0] 28) := ⟨_, rfl⟩
  have HR0 : Own w0 w.heap.size 28 [.int .i64 0, .slice none 0 0] := by rw [hw0]; exact ⟨_, heap_alloc_new _ _, rfl⟩
  have B00 : Below w.heap.size w w0 := by rw [hw0]; exact (unhide HB0) _
  have hs0 : w0.heap.size = w.heap.size + 1 := by rw [hw0]; simp
  obtain ⟨f0, f1, f2, _, _⟩ := (hrow.below B00 hb) 0 (by omega)
  obtain ⟨g0, g1, g2, _, _⟩ := (hrow'.below B00 hb') 0 (by omega)
  simp only [Nat.zero_mul, Nat.add_zero] at f0 f1 f2 g0 g1 g2
  rw [k5] at f0
  rw [k5'] at g0
  have hall := subs_all hv hok
  have hall' := subs_all hu hok'
  have HVV := hide (parts_app (P := fun p => M.valueFault p = 0) hall.2.1 hall'.2.1)
  have HOK := hide (show OkS (subs v 0 ++ subs u 0) from parts_app (P := fun p => ∀ c ∈ p, c.ok) hall.2.2.1 hall'.2.2.1)
  have HN := hide (And.intro hall.1 hall'.1)
  have HNE := hide (And.intro hall.2.2.2 hall'.2.2.2)
  have hlJ : (subs v 0 ++ subs u 0).length ≤ 4096 := by rw [List.length_append]; have := hall.1; have := hall'.1; omega
  have HLJ := hide hlJ
  have HOM := hide (And.intro (arrV_ne (subs v 0 ++ subs u 0)) (And.intro (arrV_le hlJ (unhide HVV)) (arrK_ok (subs v 0 ++ subs u 0) hlJ (unhide HOK) (subs v 0 ++ subs u 0).length (Nat.le_refl _))))
  have fin2 := hide (add_5 k5 k5')
  clear hv hu hok hok' hall hall' hlJ k5 k5'
  obtain ⟨i0, hi, hz0, hz1, hz2⟩ := info_parts Tryz.info24
  go_enter Tryz.func61, Tryz.ntmps61
  have HNO := hide (fun k hk => areBoth_no k 5 5 b off v.length cap b' off' u.length cap' w0 (by omega) (by omega) f0 g0 (.inl hk))
  have HYES := hide (areBoth_yes 5 b off v.length cap b' off' u.length cap' w0 (by omega) (by omega) f0 g0)
  clear hs0
  rw [hw0] at f0 f1 f2 g0 g1 g2
  go_wp2_with fail
  rw [← hw0]
  clear hw0 f0 f1 f2 g0 g1 g2
  refine ((unhide HNO) 3 (by decide)).mono ?_
  rintro ea0 wa0 ⟨rfl, hwa0⟩
  have hwb0 := hwa0.symm
  clear hwa0
  subst hwb0
  go_wp2_with fail
  refine ((unhide HNO) 4 (by decide)).mono ?_
  rintro ea1 wa1 ⟨rfl, hwa1⟩
  have hwb1 := hwa1.symm
  clear hwa1
  subst hwb1
  go_wp2_with fail
  refine (unhide HYES).mono ?_
  rintro ea2 wa2 ⟨rfl, hwa2⟩
  have hwb2 := hwa2.symm
  clear hwa2
  subst hwb2
  clear HNO HYES
  go_wp2_with fail
  refine (partsOf_any v b off cap _ (unhide HVV0) (hrow.below B00 hb) (Nat.lt_of_lt_of_le hb B00.size) hcap).mono ?_
  rintro ep1 wp1 ⟨sp1, rfl, hp1, hbp1⟩
  have Bp1 : Below w.heap.size w wp1 := B00.trans (hbp1.mono B00.size)
  obtain ⟨pa1, pc1, hsp1, _, _⟩ := (hp1.ss).lv (unhide HNE).1
  subst hsp1
  go_wp2_with fail
  refine (partsOf_any u b' off' cap' _ (unhide HUV) (hrow'.below Bp1 hb') (Nat.lt_of_lt_of_le hb' Bp1.size) hcap').mono ?_
  rintro ep2 wp2 ⟨sp2, rfl, hp2, hbp2⟩
  have Bp2 : Below w.heap.size w wp2 := Bp1.trans (hbp2.mono Bp1.size)
  have hq1 := (hp1.ss).below hbp2
  have hszA := hbp1.size
  have hszB := hbp2.size
  have hszC := B00.size
  obtain ⟨pa2, pc2, hsp2, _, _⟩ := (hp2.ss).lv (unhide HNE).2
  subst hsp2
  obtain ⟨ss1, hsl1, hown1, hres1⟩ := hq1
  have hp2' := hp2.ss
  obtain ⟨ss2, hsl2, hown2, hres2⟩ := hp2'
  have HO1 := hide hown1
  have HO2 := hide hown2
  have hbse1 := hide (ownsRow_base hown1)
  have hone2 := hide (SS.one (v := Value.slice pa2 (subs u 0).length pc2) hsl2 hres2)
  have hjn := hide (fun w' v' hg ho => SS.join (w' := w') (v' := v') hsl1 hown1 hres1 hsl2 hres2 (show w0.heap.size ≤ wp1.heap.size from hszA) hg ho)
  have hn63 : (subs v 0).length + (subs u 0).length ≤ maxLen := by unfold maxLen; have := (unhide HN).1; have := (unhide HN).2; omega
  have hnby : ((subs v 0).length + (subs u 0).length) * 24 ≤ 140737488355328 := by have := (unhide HN).1; have := (unhide HN).2; omega
  clear hown1 hown2 hres1 hres2 hsl1 hsl2 hp1 hp2
  go_wp2_with (at_builtin; refine wpList_append_row rfl (.tmp 56) (.tmp 58) 44 rfl w0.heap.size 24 i0 (.slice none 0 0) 24 Tryz.underlying44 hi hz0 hz1 hz2 rfl _ (subs v 0).length ss1 rfl (unhide HO1) wp1.heap.size 24 _ (subs u 0).length ss2 rfl (unhide HO2) (unhide hone2) hn63 hnby (by omega) ?_)
  intro vj wj hoj hgj
  have hssJ := (unhide hjn) _ _ hgj hoj
  have BJ : Below w.heap.size w wj := Bp2.grown hgj (by omega) (fun k hk => by have := (unhide hbse1) k hk; omega)
  have BJW : Below w0.heap.size w0 wj := (hbp1.trans (hbp2.mono hszA)).grown hgj (by omega) (unhide hbse1)
  clear hoj hgj HO1 HO2 hjn hone2 hbp1 hbp2
  have hRJ := HR0.below BJW HR0.lt
  have hltJ := hRJ.lt
  obtain ⟨PP, hPP⟩ : ∃ PP, PP = subs v 0 ++ subs u 0 := ⟨_, rfl⟩
  rw [← hPP] at hssJ HVV HOK HLJ HOM fin2
  have HPP := hide hPP
  clear hPP
  obtain ⟨la, lc, hla, hlc, hlv⟩ := hssJ.lv (valid_ne (unhide HVV))
  subst hla
  clear hssJ
  go_wp2_with fail
  refine (layArrayV_any _ _ PP _ hlv hlc (unhide HLJ) (unhide HVV)).mono ?_
  rintro e6 w6 ⟨s6, rfl, hr6, hb6⟩
  have hR6 := hRJ.below hb6 hRJ.lt
  have B6 : Below w.heap.size w w6 := BJ.trans (hb6.mono BJ.size)
  clear hlv
  have hsz6 := hb6.size
  have HT := hide (implTold_any s6 _ _ w6 hr6 hb6.size (unhide HOM).1 (unhide HOM).2.1 (unhide HOM).2.2)
  obtain ⟨at6, mt6, ct6, rfl⟩ := hr6.shape
  clear hr6 hb6
  generalize hR2 : told (arrV PP) = R at *
  obtain ⟨rc, rl⟩ := R
  clear hR2
  go_wp2_with fail
  refine (unhide HT).mono ?_
  rintro e7 w7 ⟨s7, rfl, hr7, hb7⟩
  have hR7 := hR6.below hb7 hR6.lt
  have r0 := hR7.cell 0
  have r1 := hR7.cell 1
  have z0 := hR7.frozen 0
  have z1 := hR7.frozen 1
  simp only [List.getElem?_cons_zero, List.getElem?_cons_succ] at r0 r1
  have HE := hide (Ans.storeC hr7 hltJ (B6.trans (hb7.mono B6.size)))
  obtain ⟨ac, mc, cc, rfl⟩ := hr7.shape
  clear hr7 hb7 HT
  go_wp2_with fail
  refine bodyPost_ret (v := .agg #[.int .i64 rc, .slice ac mc cc]) (by simp [results, Tryz.results61, go_sem, r0, r1]) rfl (ans_of (unhide fin2) ((unhide HE) _ _).1 ((unhide HE) _ _).2)

set_option maxRecDepth 100000 in
set_option maxHeartbeats 8000000 in
theorem addImpl_obj (v : List M.Cl) (b off cap : Nat) (u : List M.Cl) (b' off' cap' : Nat) (w : World) (hv : M.valueFault v = 0) (hu : M.valueFault u = 0) (hrow : Row w b off v) (hb : b < w.heap.size) (hn : v.length ≤ 1048576) (hcap : v.length ≤ cap) (hok : ∀ c ∈ v, c.ok) (hrow' : Row w b' off' u) (hb' : b' < w.heap.size) (hn' : u.length ≤ 1048576) (hcap' : u.length ≤ cap') (hok' : ∀ c ∈ u, c.ok) (k5 : (v.getD 0 M.zero).kind = 6) (k5' : (u.getD 0 M.zero).kind = 6) :
    Calls Tryz.prog 61 #[.slice (some ⟨b, off, none⟩) v.length cap, .slice (some ⟨b', off', none⟩) u.length cap'] w (Ans w (addIn v u)) := by
  have OK := hide hok
  have OK' := hide hok'
  have HVV0 := hide hv
  have HUV := hide hu
  have hl1 := (M.fault_zero hv).1
  have hl1' := (M.fault_zero hu).1
  have B0 : ∀ o, Below w.heap.size w (w.alloc o) := fun o => (Below.refl _ _).alloc (Nat.le_refl _) o
  have HB0 := hide B0
  clear B0
  obtain ⟨w0, hw0⟩ : ∃ w0, w0 = w.alloc (.cells #[.int .i64 0, .slice none 0 0] 28) := ⟨_, rfl⟩
  have HR0 : Own w0 w.heap.size 28 [.int .i64 0, .slice none 0 0] := by rw [hw0]; exact ⟨_, heap_alloc_new _ _, rfl⟩
  have B00 : Below w.heap.size w w0 := by rw [hw0]; exact (unhide HB0) _
  have hs0 : w0.heap.size = w.heap.size + 1 := by rw [hw0]; simp
  obtain ⟨f0, f1, f2, _, _⟩ := (hrow.below B00 hb) 0 (by omega)
  obtain ⟨g0, g1, g2, _, _⟩ := (hrow'.below B00 hb') 0 (by omega)
  simp only [Nat.zero_mul, Nat.add_zero] at f0 f1 f2 g0 g1 g2
  rw [k5] at f0
  rw [k5'] at g0
  have hall := subs_all hv hok
  have hall' := subs_all hu hok'
  have HVV := hide (parts_app (P := fun p => M.valueFault p = 0) hall.2.1 hall'.2.1)
  have HN := hide (And.intro hall.1 hall'.1)
  have HNE := hide (And.intro hall.2.2.2 hall'.2.2.2)
  have hkl := keysAt_length v 0
  have hkl' := keysAt_length u 0
  have hsl := subs_length v 0
  have hsl' := subs_length u 0
  have hlJ : (keysAt v 0 ++ keysAt u 0).length = (subs v 0 ++ subs u 0).length ∧ (keysAt v 0 ++ keysAt u 0).length ≤ 4096 := by rw [List.length_append, List.length_append]; have := hall.1; have := hall'.1; exact ⟨by omega, by omega⟩
  have HLJ := hide hlJ
  have HOM := hide (obj_made hlJ.1 hlJ.2 (unhide HVV) (parts_app (P := fun p => ∀ c ∈ p, c.ok) hall.2.2.1 hall'.2.2.1) (texts_app (keys_text hv) (keys_text hu)))
  have HKN := hide (show (keysAt v 0).length ≤ 200 ∧ (keysAt u 0).length ≤ 200 from ⟨by have := hall.1; omega, by have := hall'.1; omega⟩)
  have fin2 := hide (add_6 k5 k5')
  clear hv hu hok hok' hall hall' hlJ hkl hkl' hsl hsl' k5 k5'
  obtain ⟨i0, hi, hz0, hz1, hz2⟩ := info_parts Tryz.info24
  obtain ⟨t0, ht0, hy0, hy1, hy2⟩ := info_parts Tryz.info9
  go_enter Tryz.func61, Tryz.ntmps61
  have HNO := hide (fun k hk => areBoth_no k 6 6 b off v.length cap b' off' u.length cap' w0 (by omega) (by omega) f0 g0 (.inl hk))
  have HYES := hide (areBoth_yes 6 b off v.length cap b' off' u.length cap' w0 (by omega) (by omega) f0 g0)
  clear hs0
  rw [hw0] at f0 f1 f2 g0 g1 g2
  go_wp2_with fail
  rw [← hw0]
  clear hw0 f0 f1 f2 g0 g1 g2
  refine ((unhide HNO) 3 (by decide)).mono ?_
  rintro ea0 wa0 ⟨rfl, hwa0⟩
  have hwb0 := hwa0.symm
  clear hwa0
  subst hwb0
  go_wp2_with fail
  refine ((unhide HNO) 4 (by decide)).mono ?_
  rintro ea1 wa1 ⟨rfl, hwa1⟩
  have hwb1 := hwa1.symm
  clear hwa1
  subst hwb1
  go_wp2_with fail
  refine ((unhide HNO) 5 (by decide)).mono ?_
  rintro ea2 wa2 ⟨rfl, hwa2⟩
  have hwb2 := hwa2.symm
  clear hwa2
  subst hwb2
  go_wp2_with fail
  refine (unhide HYES).mono ?_
  rintro ea3 wa3 ⟨rfl, hwa3⟩
  have hwb3 := hwa3.symm
  clear hwa3
  subst hwb3
  clear HNO HYES
  go_wp2_with fail
  refine (keysIn_any v b off cap _ (unhide HVV0) (hrow.below B00 hb) (Nat.lt_of_lt_of_le hb B00.size) hcap).mono ?_
  rintro ek1 wk1 ⟨sk1, rfl, hk1, hbk1⟩
  have Bk1 : Below w.heap.size w wk1 := B00.trans (hbk1.mono B00.size)
  obtain ⟨ka1, kc1, hsk1, _, _⟩ := hk1.tv
  subst hsk1
  go_wp2_with fail
  refine (keysIn_any u b' off' cap' _ (unhide HUV) (hrow'.below Bk1 hb') (Nat.lt_of_lt_of_le hb' Bk1.size) hcap').mono ?_
  rintro ek2 wk2 ⟨sk2, rfl, hk2, hbk2⟩
  have Bk2 : Below w.heap.size w wk2 := Bk1.trans (hbk2.mono Bk1.size)
  have hkq1 := hk1.below hbk2
  have hszK1 := hbk1.size
  have hszK2 := hbk2.size
  have hszK0 := B00.size
  obtain ⟨ka2, kc2, hsk2, _, _⟩ := hk2.tv
  subst hsk2
  have HK1 := hide hkq1
  have HK2 := hide hk2
  have hkbse := hide (ownsRow_base hkq1)
  have hkone := hide (texts_plain (keysAt u 0))
  have hk63 : (keysAt v 0).length + (keysAt u 0).length ≤ maxLen := by unfold maxLen; have := (unhide HKN).1; have := (unhide HKN).2; omega
  have hkby : ((keysAt v 0).length + (keysAt u 0).length) * 16 ≤ 140737488355328 := by have := (unhide HKN).1; have := (unhide HKN).2; omega
  clear hk1 hk2 hkq1
  go_wp2_with (at_builtin; refine wpList_append_row rfl (.tmp 67) (.tmp 69) 64 rfl w0.heap.size 9 t0 (.string ByteArray.empty) 16 Tryz.underlying64 ht0 hy0 hy1 hy2 rfl _ (keysAt v 0).length _ rfl (unhide HK1) wk1.heap.size 9 _ (keysAt u 0).length _ rfl (unhide HK2) (unhide hkone) hk63 hkby (by omega) ?_)
  intro vk wk hok hgk
  have hKJ := hide (KS.join hok)
  have BK : Below w.heap.size w wk := Bk2.grown hgk (by omega) (fun k hk => by have := (unhide hkbse) k hk; omega)
  have BKW : Below w0.heap.size w0 wk := (hbk1.trans (hbk2.mono hszK1)).grown hgk (by omega) (unhide hkbse)
  obtain ⟨KK, hKK⟩ : ∃ KK, KK = keysAt v 0 ++ keysAt u 0 := ⟨_, rfl⟩
  rw [← hKK] at hKJ HLJ HOM fin2
  have HKK := hide hKK
  clear hKK hok hgk HK1 HK2 hbk1 hbk2 hkone
  obtain ⟨kaJ, kcJ, hkJ, _, _⟩ := (unhide hKJ).tv
  subst hkJ
  have hRk := HR0.below BKW HR0.lt
  go_wp2_with fail
  refine (partsOf_any v b off cap _ (unhide HVV0) (hrow.below BK hb) (Nat.lt_of_lt_of_le hb BK.size) hcap).mono ?_
  rintro ep1 wp1 ⟨sp1, rfl, hp1, hbp1⟩
  have Bp1 : Below w.heap.size w wp1 := BK.trans (hbp1.mono BK.size)
  have hKJ1 := hide ((unhide hKJ).below hbp1)
  obtain ⟨pa1, pc1, hsp1, _, _⟩ := (hp1.ss).lv (unhide HNE).1
  subst hsp1
  go_wp2_with fail
  refine (partsOf_any u b' off' cap' _ (unhide HUV) (hrow'.below Bp1 hb') (Nat.lt_of_lt_of_le hb' Bp1.size) hcap').mono ?_
  rintro ep2 wp2 ⟨sp2, rfl, hp2, hbp2⟩
  have Bp2 : Below w.heap.size w wp2 := Bp1.trans (hbp2.mono Bp1.size)
  have hKJ2 := hide ((unhide hKJ1).below hbp2)
  have hq1 := (hp1.ss).below hbp2
  have hszA := hbp1.size
  have hszB := hbp2.size
  have hszC := BK.size
  obtain ⟨pa2, pc2, hsp2, _, _⟩ := (hp2.ss).lv (unhide HNE).2
  subst hsp2
  obtain ⟨ss1, hsl1, hown1, hres1⟩ := hq1
  have hp2' := hp2.ss
  obtain ⟨ss2, hsl2, hown2, hres2⟩ := hp2'
  have HO1 := hide hown1
  have HO2 := hide hown2
  have hbse1 := hide (ownsRow_base hown1)
  have hone2 := hide (SS.one (v := Value.slice pa2 (subs u 0).length pc2) hsl2 hres2)
  have hjn := hide (fun w' v' hg ho => SS.join (w' := w') (v' := v') hsl1 hown1 hres1 hsl2 hres2 (show wk.heap.size ≤ wp1.heap.size from hszA) hg ho)
  have hn63 : (subs v 0).length + (subs u 0).length ≤ maxLen := by unfold maxLen; have := (unhide HN).1; have := (unhide HN).2; omega
  have hnby : ((subs v 0).length + (subs u 0).length) * 24 ≤ 140737488355328 := by have := (unhide HN).1; have := (unhide HN).2; omega
  have hKJ3 := hide (fun (w' : World) hg => (unhide hKJ2).grown (w' := w') hown1 (by decide) hg)
  clear hown1 hown2 hres1 hres2 hsl1 hsl2 hp1 hp2
  go_wp2_with (at_builtin; refine wpList_append_row rfl (.tmp 72) (.tmp 74) 44 rfl wk.heap.size 24 i0 (.slice none 0 0) 24 Tryz.underlying44 hi hz0 hz1 hz2 rfl _ (subs v 0).length ss1 rfl (unhide HO1) wp1.heap.size 24 _ (subs u 0).length ss2 rfl (unhide HO2) (unhide hone2) hn63 hnby (by omega) ?_)
  intro vj wj hoj hgj
  have hssJ := (unhide hjn) _ _ hgj hoj
  have BJ : Below w.heap.size w wj := Bp2.grown hgj (by omega) (fun k hk => by have := (unhide hbse1) k hk; omega)
  have BJW : Below wk.heap.size wk wj := (hbp1.trans (hbp2.mono hszA)).grown hgj (by omega) (unhide hbse1)
  have hKJ4 := (unhide hKJ3) _ hgj
  clear hoj hgj HO1 HO2 hjn hone2 hbp1 hbp2
  have hRJ := hRk.below BJW hRk.lt
  have hltJ := hRJ.lt
  obtain ⟨PP, hPP⟩ : ∃ PP, PP = subs v 0 ++ subs u 0 := ⟨_, rfl⟩
  rw [← hPP] at hssJ HVV HLJ HOM fin2
  have HPP := hide hPP
  clear hPP
  obtain ⟨la, lc, hla, hlc, hlv⟩ := hssJ.lv (valid_ne (unhide HVV))
  obtain ⟨ka6, kc6, hka6, hkc6, htv6⟩ := hKJ4.tv
  cases hka6
  subst hla
  clear hssJ hKJ hKJ1 hKJ2 hKJ3 hKJ4
  go_wp2_with fail
  refine (layObjectV_any _ _ _ _ KK PP _ htv6 hlv hkc6 hlc (unhide HLJ).1 (unhide HLJ).2 (unhide HVV)).mono ?_
  rintro e6 w6 ⟨s6, rfl, hr6, hb6⟩
  have hR6 := hRJ.below hb6 hRJ.lt
  have B6 : Below w.heap.size w w6 := BJ.trans (hb6.mono BJ.size)
  clear hlv htv6
  have hsz6 := hb6.size
  have HT := hide (implTold_any s6 _ _ w6 hr6 hb6.size (unhide HOM).1 (unhide HOM).2.1 (unhide HOM).2.2)
  obtain ⟨at6, mt6, ct6, rfl⟩ := hr6.shape
  clear hr6 hb6
  generalize hR2 : told (objV KK PP) = R at *
  obtain ⟨rc, rl⟩ := R
  clear hR2
  go_wp2_with fail
  refine (unhide HT).mono ?_
  rintro e7 w7 ⟨s7, rfl, hr7, hb7⟩
  have hR7 := hR6.below hb7 hR6.lt
  have r0 := hR7.cell 0
  have r1 := hR7.cell 1
  have z0 := hR7.frozen 0
  have z1 := hR7.frozen 1
  simp only [List.getElem?_cons_zero, List.getElem?_cons_succ] at r0 r1
  have HE := hide (Ans.storeC hr7 hltJ (B6.trans (hb7.mono B6.size)))
  obtain ⟨ac, mc, cc, rfl⟩ := hr7.shape
  clear hr7 hb7 HT
  go_wp2_with fail
  refine bodyPost_ret (v := .agg #[.int .i64 rc, .slice ac mc cc]) (by simp [results, Tryz.results61, go_sem, r0, r1]) rfl (ans_of (unhide fin2) ((unhide HE) _ _).1 ((unhide HE) _ _).2)

end Go.Proofs.YtemehbjlfiebdaaGreat
