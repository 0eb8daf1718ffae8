/-
  spec.l3Add of two arrays and of two objects.
  spec.l3Add.
-/
import Derived.Test.YtcolohilnmikiaaGreatAdd0
import Derived.Test.YtcolohilnmikiaaGreatObSV
import Derived.Test.YtcolohilnmikiaaGreatTypT
import Derived.BigQuiet
import Derived.Deep.RegionHeld
namespace Go.Proofs.YtcolohilnmikiaaGreat
open Go.RowKit
set_option linter.unusedVariables false

set_option maxRecDepth 100000 in
set_option maxHeartbeats 8000000 in
theorem addSpec_arr (v : List M.Cl) (b off cap : Nat) (u : List M.Cl) (b' off' cap' : Nat) (w : World) (hv : M.valueFault v = 0) (hu : M.valueFault u = 0) (hrow : Row w b off v) (hb : b < w.heap.size) (hn : v.length ≤ 1048576) (hcap : v.length ≤ cap) (hok : ∀ c ∈ v, c.ok) (hrow' : Row w b' off' u) (hb' : b' < w.heap.size) (hn' : u.length ≤ 1048576) (hcap' : u.length ≤ cap') (hok' : ∀ c ∈ u, c.ok) (k5 : (v.getD 0 M.zero).kind = 5) (k5' : (u.getD 0 M.zero).kind = 5) :
    Calls Tryz.prog 66 #[.slice (some ⟨b, off, none⟩) v.length cap, .slice (some ⟨b', off', none⟩) u.length cap'] w (Ans w (addIn v u)) := by
  have OK := hide hok
  have OK' := hide hok'
  have HVV0 := hide hv
  have HUV := hide hu
  have hl1 := (M.fault_zero hv).1
  have hl1' := (M.fault_zero hu).1
  have B0 : ∀ o, Below w.heap.size w (w.alloc o) := fun o => (Below.refl _ _).alloc (Nat.le_refl _) o
  have HB0 := hide B0
  clear B0
  obtain ⟨w0, hw0⟩ : ∃ w0, w0 = w.alloc (.cells #[.int .i64 0, .slice none 0 0] 26) := ⟨_, rfl⟩
  have HR0 : Own w0 w.heap.size 26 [.int .i64 0, .slice none 0 0] := by rw [hw0]; exact ⟨_, heap_alloc_new _ _, rfl⟩
  have B00 : Below w.heap.size w w0 := by rw [hw0]; exact (unhide HB0) _
  have hs0 : w0.heap.size = w.heap.size + 1 := by rw [hw0]; simp
  obtain ⟨f0, f1, f2, _, _⟩ := (hrow.below B00 hb) 0 (by omega)
  obtain ⟨g0, g1, g2, _, _⟩ := (hrow'.below B00 hb') 0 (by omega)
  simp only [Nat.zero_mul, Nat.add_zero] at f0 f1 f2 g0 g1 g2
  rw [k5] at f0
  rw [k5'] at g0
  have hall := subs_all hv hok
  have hall' := subs_all hu hok'
  have HVV := hide (parts_app (P := fun p => M.valueFault p = 0) hall.2.1 hall'.2.1)
  have HOK := hide (show OkS (subs v 0 ++ subs u 0) from parts_app (P := fun p => ∀ c ∈ p, c.ok) hall.2.2.1 hall'.2.2.1)
  have HN := hide (And.intro hall.1 hall'.1)
  have HNE := hide (And.intro hall.2.2.2 hall'.2.2.2)
  have hlJ : (subs v 0 ++ subs u 0).length ≤ 4096 := by rw [List.length_append]; have := hall.1; have := hall'.1; omega
  have HLJ := hide hlJ
  have HOM := hide (And.intro (arrV_ne (subs v 0 ++ subs u 0)) (And.intro (arrV_le hlJ (unhide HVV)) (arrK_ok (subs v 0 ++ subs u 0) hlJ (unhide HOK) (subs v 0 ++ subs u 0).length (Nat.le_refl _))))
  have fin2 := hide (add_5 k5 k5')
  clear hv hu hok hok' hall hall' hlJ k5 k5'
  obtain ⟨i0, hi, hz0, hz1, hz2⟩ := info_parts Tryz.info24
  go_enter Tryz.func66, Tryz.ntmps66
  rw [hw0] at f0 f1 f2 g0 g1 g2
  have f0q := fun q => show ((w.alloc (.cells #[.int .i64 0, .slice none 0 0] 26)).drewN q).cell? ⟨b, off, none⟩ = some (.int .i64 5) from f0
  have g0q := fun q => show ((w.alloc (.cells #[.int .i64 0, .slice none 0 0] 26)).drewN q).cell? ⟨b', off', none⟩ = some (.int .i64 5) from g0
  go_wp2_with fail
  go_quiet (fail)
  obtain ⟨w9, hw9⟩ : ∃ w9, w9 = (w.alloc (.cells #[.int .i64 0, .slice none 0 0] 26)).drewN nq := ⟨_, rfl⟩
  have HR9 : Own w9 w.heap.size 26 [.int .i64 0, .slice none 0 0] := by rw [hw9, ← hw0]; exact HR0
  have B09 : Below w.heap.size w w9 := by rw [hw9, ← hw0]; exact below_drewN B00 nq
  have hs9 : w9.heap.size = w.heap.size + 1 := by rw [hw9, ← hw0]; exact hs0
  have f09 : w9.cell? ⟨b, off, none⟩ = some (.int .i64 5) := by rw [hw9]; exact f0
  rw [← hw9]
  clear hw9 hw0 f0 f1 f2 g0 g1 g2 f0q g0q HR0 B00 hs0 hs9
  go_wp2_with fail
  refine (l1Parts_any v b off cap _ (unhide HVV0) (hrow.below B09 hb) (Nat.lt_of_lt_of_le hb B09.size) hcap (unhide OK)).mono ?_
  rintro ep1 wp1 ⟨sp1, rfl, hp1, hbp1⟩
  have Bp1 : Below w.heap.size w wp1 := B09.trans (hbp1.mono B09.size)
  obtain ⟨pa1, pc1, hsp1, _, _⟩ := (hp1).lv (unhide HNE).1
  subst hsp1
  go_wp2_with fail
  refine (l1Parts_any u b' off' cap' _ (unhide HUV) (hrow'.below Bp1 hb') (Nat.lt_of_lt_of_le hb' Bp1.size) hcap' (unhide OK')).mono ?_
  rintro ep2 wp2 ⟨sp2, rfl, hp2, hbp2⟩
  have Bp2 : Below w.heap.size w wp2 := Bp1.trans (hbp2.mono Bp1.size)
  have hq1 := (hp1).below hbp2
  have hszA := hbp1.size
  have hszB := hbp2.size
  have hszC := B09.size
  obtain ⟨pa2, pc2, hsp2, _, _⟩ := (hp2).lv (unhide HNE).2
  subst hsp2
  obtain ⟨ss1, hsl1, hown1, hres1⟩ := hq1
  have hp2' := hp2
  obtain ⟨ss2, hsl2, hown2, hres2⟩ := hp2'
  have HO1 := hide hown1
  have HO2 := hide hown2
  have hbse1 := hide (ownsRow_base hown1)
  have hone2 := hide (SS.one (v := Value.slice pa2 (subs u 0).length pc2) hsl2 hres2)
  have hjn := hide (fun w' v' hg ho => SS.join (w' := w') (v' := v') hsl1 hown1 hres1 hsl2 hres2 (show w9.heap.size ≤ wp1.heap.size from hszA) hg ho)
  have hn63 : (subs v 0).length + (subs u 0).length ≤ maxLen := by unfold maxLen; have := (unhide HN).1; have := (unhide HN).2; omega
  have hnby : ((subs v 0).length + (subs u 0).length) * 24 ≤ 140737488355328 := by have := (unhide HN).1; have := (unhide HN).2; omega
  clear hown1 hown2 hres1 hres2 hsl1 hsl2 hp1 hp2
  go_wp2_with (at_builtin; refine wpList_append_row rfl (.tmp 66) (.tmp 68) 58 rfl w9.heap.size 24 i0 (.slice none 0 0) 24 Tryz.underlying58 hi hz0 hz1 hz2 rfl _ (subs v 0).length ss1 rfl (unhide HO1) wp1.heap.size 24 _ (subs u 0).length ss2 rfl (unhide HO2) (unhide hone2) hn63 hnby (by omega) ?_)
  intro vj wj hoj hgj
  have hssJ := (unhide hjn) _ _ hgj hoj
  have BJ : Below w.heap.size w wj := Bp2.grown hgj (by omega) (fun k hk => by have := (unhide hbse1) k hk; omega)
  have BJW : Below w9.heap.size w9 wj := (hbp1.trans (hbp2.mono hszA)).grown hgj (by omega) (unhide hbse1)
  clear hoj hgj HO1 HO2 hjn hone2 hbp1 hbp2
  have hRJ := HR9.below BJW HR9.lt
  have hltJ := hRJ.lt
  obtain ⟨PP, hPP⟩ : ∃ PP, PP = subs v 0 ++ subs u 0 := ⟨_, rfl⟩
  rw [← hPP] at hssJ HVV HOK HLJ HOM fin2
  have HPP := hide hPP
  clear hPP
  obtain ⟨la, lc, hla, hlc, hlv⟩ := hssJ.lv (valid_ne (unhide HVV))
  subst hla
  clear hssJ
  go_wp2_with fail
  refine (l1ArrayV_any _ _ PP _ hlv hlc (unhide HLJ) (unhide HVV)).mono ?_
  rintro e6 w6 ⟨s6, rfl, hr6, hb6⟩
  have hR6 := hRJ.below hb6 hRJ.lt
  have B6 : Below w.heap.size w w6 := BJ.trans (hb6.mono BJ.size)
  clear hlv
  have hsz6 := hb6.size
  have HT := hide (specTold_any s6 _ _ w6 hr6 hb6.size (unhide HOM).1 (unhide HOM).2.1 (unhide HOM).2.2)
  obtain ⟨at6, mt6, ct6, rfl⟩ := hr6.shape
  clear hr6 hb6
  generalize hR2 : told (arrV PP) = R at *
  obtain ⟨rc, rl⟩ := R
  clear hR2
  go_wp2_with fail
  refine (unhide HT).mono ?_
  rintro e7 w7 ⟨s7, rfl, hr7, hb7⟩
  have hR7 := hR6.below hb7 hR6.lt
  have r0 := hR7.cell 0
  have r1 := hR7.cell 1
  have z0 := hR7.frozen 0
  have z1 := hR7.frozen 1
  simp only [List.getElem?_cons_zero, List.getElem?_cons_succ] at r0 r1
  have HE := hide (Ans.storeC hr7 hltJ (B6.trans (hb7.mono B6.size)))
  obtain ⟨ac, mc, cc, rfl⟩ := hr7.shape
  clear hr7 hb7 HT
  go_wp2_with fail
  refine bodyPost_ret (v := .agg #[.int .i64 rc, .slice ac mc cc]) (by simp [results, Tryz.results66, go_sem, r0, r1]) rfl (ans_of (unhide fin2) ((unhide HE) _ _).1 ((unhide HE) _ _).2)

set_option maxRecDepth 100000 in
set_option maxHeartbeats 8000000 in
theorem addSpec_obj (v : List M.Cl) (b off cap : Nat) (u : List M.Cl) (b' off' cap' : Nat) (w : World) (hv : M.valueFault v = 0) (hu : M.valueFault u = 0) (hrow : Row w b off v) (hb : b < w.heap.size) (hn : v.length ≤ 1048576) (hcap : v.length ≤ cap) (hok : ∀ c ∈ v, c.ok) (hrow' : Row w b' off' u) (hb' : b' < w.heap.size) (hn' : u.length ≤ 1048576) (hcap' : u.length ≤ cap') (hok' : ∀ c ∈ u, c.ok) (k5 : (v.getD 0 M.zero).kind = 6) (k5' : (u.getD 0 M.zero).kind = 6) :
    Calls Tryz.prog 66 #[.slice (some ⟨b, off, none⟩) v.length cap, .slice (some ⟨b', off', none⟩) u.length cap'] w (Ans w (addIn v u)) := by
  have OK := hide hok
  have OK' := hide hok'
  have HVV0 := hide hv
  have HUV := hide hu
  have hl1 := (M.fault_zero hv).1
  have hl1' := (M.fault_zero hu).1
  have B0 : ∀ o, Below w.heap.size w (w.alloc o) := fun o => (Below.refl _ _).alloc (Nat.le_refl _) o
  have HB0 := hide B0
  clear B0
  obtain ⟨w0, hw0⟩ : ∃ w0, w0 = w.alloc (.cells #[.int .i64 0, .slice none 0 0] 26) := ⟨_, rfl⟩
  have HR0 : Own w0 w.heap.size 26 [.int .i64 0, .slice none 0 0] := by rw [hw0]; exact ⟨_, heap_alloc_new _ _, rfl⟩
  have B00 : Below w.heap.size w w0 := by rw [hw0]; exact (unhide HB0) _
  have hs0 : w0.heap.size = w.heap.size + 1 := by rw [hw0]; simp
  obtain ⟨f0, f1, f2, _, _⟩ := (hrow.below B00 hb) 0 (by omega)
  obtain ⟨g0, g1, g2, _, _⟩ := (hrow'.below B00 hb') 0 (by omega)
  simp only [Nat.zero_mul, Nat.add_zero] at f0 f1 f2 g0 g1 g2
  rw [k5] at f0
  rw [k5'] at g0
  have hall := subs_all hv hok
  have hall' := subs_all hu hok'
  have HVV := hide (parts_app (P := fun p => M.valueFault p = 0) hall.2.1 hall'.2.1)
  have HN := hide (And.intro hall.1 hall'.1)
  have HNE := hide (And.intro hall.2.2.2 hall'.2.2.2)
  have hkl := keysAt_length v 0
  have hkl' := keysAt_length u 0
  have hsl := subs_length v 0
  have hsl' := subs_length u 0
  have hlJ : (keysAt v 0 ++ keysAt u 0).length = (subs v 0 ++ subs u 0).length ∧ (keysAt v 0 ++ keysAt u 0).length ≤ 4096 := by rw [List.length_append, List.length_append]; have := hall.1; have := hall'.1; exact ⟨by omega, by omega⟩
  have HLJ := hide hlJ
  have HOM := hide (obj_made hlJ.1 hlJ.2 (unhide HVV) (parts_app (P := fun p => ∀ c ∈ p, c.ok) hall.2.2.1 hall'.2.2.1) (texts_app (keys_text hv) (keys_text hu)))
  have HKN := hide (show (keysAt v 0).length ≤ 200 ∧ (keysAt u 0).length ≤ 200 from ⟨by have := hall.1; omega, by have := hall'.1; omega⟩)
  have fin2 := hide (add_6 k5 k5')
  clear hv hu hok hok' hall hall' hlJ hkl hkl' hsl hsl' k5 k5'
  obtain ⟨i0, hi, hz0, hz1, hz2⟩ := info_parts Tryz.info24
  obtain ⟨t0, ht0, hy0, hy1, hy2⟩ := info_parts Tryz.info9
  go_enter Tryz.func66, Tryz.ntmps66
  rw [hw0] at f0 f1 f2 g0 g1 g2
  have f0q := fun q => show ((w.alloc (.cells #[.int .i64 0, .slice none 0 0] 26)).drewN q).cell? ⟨b, off, none⟩ = some (.int .i64 6) from f0
  have g0q := fun q => show ((w.alloc (.cells #[.int .i64 0, .slice none 0 0] 26)).drewN q).cell? ⟨b', off', none⟩ = some (.int .i64 6) from g0
  go_wp2_with fail
  go_quiet (fail)
  obtain ⟨w9, hw9⟩ : ∃ w9, w9 = (w.alloc (.cells #[.int .i64 0, .slice none 0 0] 26)).drewN nq := ⟨_, rfl⟩
  have HR9 : Own w9 w.heap.size 26 [.int .i64 0, .slice none 0 0] := by rw [hw9, ← hw0]; exact HR0
  have B09 : Below w.heap.size w w9 := by rw [hw9, ← hw0]; exact below_drewN B00 nq
  have hs9 : w9.heap.size = w.heap.size + 1 := by rw [hw9, ← hw0]; exact hs0
  have f09 : w9.cell? ⟨b, off, none⟩ = some (.int .i64 6) := by rw [hw9]; exact f0
  rw [← hw9]
  clear hw9 hw0 f0 f1 f2 g0 g1 g2 f0q g0q HR0 B00 hs0 hs9
  go_wp2_with fail
  refine (l1Keys_any v b off cap _ (unhide HVV0) (hrow.below B09 hb) (Nat.lt_of_lt_of_le hb B09.size) hcap (unhide OK)).mono ?_
  rintro ek1 wk1 ⟨sk1, rfl, hk1, hbk1⟩
  have Bk1 : Below w.heap.size w wk1 := B09.trans (hbk1.mono B09.size)
  obtain ⟨ka1, kc1, hsk1, _, _⟩ := hk1.tv
  subst hsk1
  go_wp2_with fail
  refine (l1Keys_any u b' off' cap' _ (unhide HUV) (hrow'.below Bk1 hb') (Nat.lt_of_lt_of_le hb' Bk1.size) hcap' (unhide OK')).mono ?_
  rintro ek2 wk2 ⟨sk2, rfl, hk2, hbk2⟩
  have Bk2 : Below w.heap.size w wk2 := Bk1.trans (hbk2.mono Bk1.size)
  have hkq1 := hk1.below hbk2
  have hszK1 := hbk1.size
  have hszK2 := hbk2.size
  have hszK0 := B09.size
  obtain ⟨ka2, kc2, hsk2, _, _⟩ := hk2.tv
  subst hsk2
  have HK1 := hide hkq1
  have HK2 := hide hk2
  have hkbse := hide (ownsRow_base hkq1)
  have hkone := hide (texts_plain (keysAt u 0))
  have hk63 : (keysAt v 0).length + (keysAt u 0).length ≤ maxLen := by unfold maxLen; have := (unhide HKN).1; have := (unhide HKN).2; omega
  have hkby : ((keysAt v 0).length + (keysAt u 0).length) * 16 ≤ 140737488355328 := by have := (unhide HKN).1; have := (unhide HKN).2; omega
  clear hk1 hk2 hkq1
  go_wp2_with (at_builtin; refine wpList_append_row rfl (.tmp 75) (.tmp 77) 54 rfl w9.heap.size 9 t0 (.string ByteArray.empty) 16 Tryz.underlying54 ht0 hy0 hy1 hy2 rfl _ (keysAt v 0).length _ rfl (unhide HK1) wk1.heap.size 9 _ (keysAt u 0).length _ rfl (unhide HK2) (unhide hkone) hk63 hkby (by omega) ?_)
  intro vk wk hok hgk
  have hKJ := hide (KS.join hok)
  have BK : Below w.heap.size w wk := Bk2.grown hgk (by omega) (fun k hk => by have := (unhide hkbse) k hk; omega)
  have BKW : Below w9.heap.size w9 wk := (hbk1.trans (hbk2.mono hszK1)).grown hgk (by omega) (unhide hkbse)
  obtain ⟨KK, hKK⟩ : ∃ KK, KK = keysAt v 0 ++ keysAt u 0 := ⟨_, rfl⟩
  rw [← hKK] at hKJ HLJ HOM fin2
  have HKK := hide hKK
  clear hKK hok hgk HK1 HK2 hbk1 hbk2 hkone
  obtain ⟨kaJ, kcJ, hkJ, _, _⟩ := (unhide hKJ).tv
  subst hkJ
  have hRk := HR9.below BKW HR9.lt
  go_wp2_with fail
  refine (l1Parts_any v b off cap _ (unhide HVV0) (hrow.below BK hb) (Nat.lt_of_lt_of_le hb BK.size) hcap (unhide OK)).mono ?_
  rintro ep1 wp1 ⟨sp1, rfl, hp1, hbp1⟩
  have Bp1 : Below w.heap.size w wp1 := BK.trans (hbp1.mono BK.size)
  have hKJ1 := hide ((unhide hKJ).below hbp1)
  obtain ⟨pa1, pc1, hsp1, _, _⟩ := (hp1).lv (unhide HNE).1
  subst hsp1
  go_wp2_with fail
  refine (l1Parts_any u b' off' cap' _ (unhide HUV) (hrow'.below Bp1 hb') (Nat.lt_of_lt_of_le hb' Bp1.size) hcap' (unhide OK')).mono ?_
  rintro ep2 wp2 ⟨sp2, rfl, hp2, hbp2⟩
  have Bp2 : Below w.heap.size w wp2 := Bp1.trans (hbp2.mono Bp1.size)
  have hKJ2 := hide ((unhide hKJ1).below hbp2)
  have hq1 := (hp1).below hbp2
  have hszA := hbp1.size
  have hszB := hbp2.size
  have hszC := BK.size
  obtain ⟨pa2, pc2, hsp2, _, _⟩ := (hp2).lv (unhide HNE).2
  subst hsp2
  obtain ⟨ss1, hsl1, hown1, hres1⟩ := hq1
  have hp2' := hp2
  obtain ⟨ss2, hsl2, hown2, hres2⟩ := hp2'
  have HO1 := hide hown1
  have HO2 := hide hown2
  have hbse1 := hide (ownsRow_base hown1)
  have hone2 := hide (SS.one (v := Value.slice pa2 (subs u 0).length pc2) hsl2 hres2)
  have hjn := hide (fun w' v' hg ho => SS.join (w' := w') (v' := v') hsl1 hown1 hres1 hsl2 hres2 (show wk.heap.size ≤ wp1.heap.size from hszA) hg ho)
  have hn63 : (subs v 0).length + (subs u 0).length ≤ maxLen := by unfold maxLen; have := (unhide HN).1; have := (unhide HN).2; omega
  have hnby : ((subs v 0).length + (subs u 0).length) * 24 ≤ 140737488355328 := by have := (unhide HN).1; have := (unhide HN).2; omega
  have hKJ3 := hide (fun (w' : World) hg => (unhide hKJ2).grown (w' := w') hown1 (by decide) hg)
  clear hown1 hown2 hres1 hres2 hsl1 hsl2 hp1 hp2
  go_wp2_with (at_builtin; refine wpList_append_row rfl (.tmp 80) (.tmp 82) 58 rfl wk.heap.size 24 i0 (.slice none 0 0) 24 Tryz.underlying58 hi hz0 hz1 hz2 rfl _ (subs v 0).length ss1 rfl (unhide HO1) wp1.heap.size 24 _ (subs u 0).length ss2 rfl (unhide HO2) (unhide hone2) hn63 hnby (by omega) ?_)
  intro vj wj hoj hgj
  have hssJ := (unhide hjn) _ _ hgj hoj
  have BJ : Below w.heap.size w wj := Bp2.grown hgj (by omega) (fun k hk => by have := (unhide hbse1) k hk; omega)
  have BJW : Below wk.heap.size wk wj := (hbp1.trans (hbp2.mono hszA)).grown hgj (by omega) (unhide hbse1)
  have hKJ4 := (unhide hKJ3) _ hgj
  clear hoj hgj HO1 HO2 hjn hone2 hbp1 hbp2
  have hRJ := hRk.below BJW hRk.lt
  have hltJ := hRJ.lt
  obtain ⟨PP, hPP⟩ : ∃ PP, PP = subs v 0 ++ subs u 0 := ⟨_, rfl⟩
  rw [← hPP] at hssJ HVV HLJ HOM fin2
  have HPP := hide hPP
  clear hPP
  obtain ⟨la, lc, hla, hlc, hlv⟩ := hssJ.lv (valid_ne (unhide HVV))
  obtain ⟨ka6, kc6, hka6, hkc6, htv6⟩ := hKJ4.tv
  cases hka6
  subst hla
  clear hssJ hKJ hKJ1 hKJ2 hKJ3 hKJ4
  go_wp2_with fail
  refine (l1ObjectV_any _ _ _ _ KK PP _ htv6 hlv hkc6 hlc (unhide HLJ).1 (unhide HLJ).2 (unhide HVV)).mono ?_
  rintro e6 w6 ⟨s6, rfl, hr6, hb6⟩
  have hR6 := hRJ.below hb6 hRJ.lt
  have B6 : Below w.heap.size w w6 := BJ.trans (hb6.mono BJ.size)
  clear hlv htv6
  have hsz6 := hb6.size
  have HT := hide (specTold_any s6 _ _ w6 hr6 hb6.size (unhide HOM).1 (unhide HOM).2.1 (unhide HOM).2.2)
  obtain ⟨at6, mt6, ct6, rfl⟩ := hr6.shape
  clear hr6 hb6
  generalize hR2 : told (objV KK PP) = R at *
  obtain ⟨rc, rl⟩ := R
  clear hR2
  go_wp2_with fail
  refine (unhide HT).mono ?_
  rintro e7 w7 ⟨s7, rfl, hr7, hb7⟩
  have hR7 := hR6.below hb7 hR6.lt
  have r0 := hR7.cell 0
  have r1 := hR7.cell 1
  have z0 := hR7.frozen 0
  have z1 := hR7.frozen 1
  simp only [List.getElem?_cons_zero, List.getElem?_cons_succ] at r0 r1
  have HE := hide (Ans.storeC hr7 hltJ (B6.trans (hb7.mono B6.size)))
  obtain ⟨ac, mc, cc, rfl⟩ := hr7.shape
  clear hr7 hb7 HT
  go_wp2_with fail
  refine bodyPost_ret (v := .agg #[.int .i64 rc, .slice ac mc cc]) (by simp [results, Tryz.results66, go_sem, r0, r1]) rfl (ans_of (unhide fin2) ((unhide HE) _ _).1 ((unhide HE) _ _).2)

end Go.Proofs.YtcolohilnmikiaaGreat

namespace Go.Proofs.YtcolohilnmikiaaGreat
open Go.RowKit
set_option linter.unusedVariables false

theorem num_okc {n : Int} {c : M.Cl} (hc : c ∈ [numCl n]) (h0 : -9223372036854775808 ≤ n) (h1 : n ≤ 9223372036854775807) : c.ok := by
  simp only [List.mem_cons, List.not_mem_nil, or_false] at hc
  subst hc
  unfold numCl M.Cl.ok
  simp only
  exact ⟨by omega, by omega, by omega, by decide, by decide⟩
theorem str_okc {s : ByteArray} {c : M.Cl} (hc : c ∈ [strCl s]) (h1 : s.size ≤ 9223372036854775807) : c.ok := by
  simp only [List.mem_cons, List.not_mem_nil, or_false] at hc
  subst hc
  unfold strCl M.Cl.ok
  simp only
  exact ⟨by omega, by omega, by omega, h1, by decide⟩
set_option maxRecDepth 100000 in
set_option maxHeartbeats 8000000 in
theorem addSpec_nl (v : List M.Cl) (b off cap : Nat) (u : List M.Cl) (b' off' cap' : Nat) (w : World) (hv : M.valueFault v = 0) (hu : M.valueFault u = 0) (hrow : Row w b off v) (hb : b < w.heap.size) (hn : v.length ≤ 1048576) (hcap : v.length ≤ cap) (hok : ∀ c ∈ v, c.ok) (hrow' : Row w b' off' u) (hb' : b' < w.heap.size) (hn' : u.length ≤ 1048576) (hcap' : u.length ≤ cap') (hok' : ∀ c ∈ u, c.ok) (k0 : (v.getD 0 M.zero).kind = 0) :
    Calls Tryz.prog 66 #[.slice (some ⟨b, off, none⟩) v.length cap, .slice (some ⟨b', off', none⟩) u.length cap'] w (Ans w (addIn v u)) := by
  have hl1 := (M.fault_zero hv).1
  have hl1' := (M.fault_zero hu).1
  have hl2 := (M.fault_zero hv).2.1
  have hl2' := (M.fault_zero hu).2.1
  have B0 : ∀ o, Below w.heap.size w (w.alloc o) := fun o => (Below.refl _ _).alloc (Nat.le_refl _) o
  have HB0 := hide B0
  clear B0
  obtain ⟨w0, hw0⟩ : ∃ w0, w0 = w.alloc (.cells #[.int .i64 0, .slice none 0 0] 26) := ⟨_, rfl⟩
  have HR0 : Own w0 w.heap.size 26 [.int .i64 0, .slice none 0 0] := by rw [hw0]; exact ⟨_, heap_alloc_new _ _, rfl⟩
  have B00 : Below w.heap.size w w0 := by rw [hw0]; exact (unhide HB0) _
  have hs0 : w0.heap.size = w.heap.size + 1 := by rw [hw0]; simp
  obtain ⟨f0, f1, f2, _, _⟩ := (hrow.below B00 hb) 0 (by omega)
  obtain ⟨g0, g1, g2, _, _⟩ := (hrow'.below B00 hb') 0 (by omega)
  simp only [Nat.zero_mul, Nat.add_zero] at f0 f1 f2 g0 g1 g2
  have hcv := code_bd (M.first_zero (M.fault_zero hv).2.2.1 _ (getD_mem v 0 (by omega)))
  have hcu := code_bd (M.first_zero (M.fault_zero hu).2.2.1 _ (getD_mem u 0 (by omega)))
  have fin := hide (add_l (u := u) k0)
  clear hv hu hok hok' hcv hcu
  rw [k0] at f0
  clear k0
  obtain ⟨i0, hi, hz0, hz1, hz2⟩ := info_parts Tryz.info40
  have hnews := hide (fun o => row_words ((hrow'.below B00 hb').below ((Below.refl w0.heap.size w0).alloc (Nat.le_refl _) o) (Nat.lt_of_lt_of_le hb' B00.size)))
  have hone := hide (flat_one u)
  have HFL := hide (flat_length u)
  have hoe := hide (owns_empty5 w0 40)
  have hb63 : 0 + u.length ≤ maxLen := by unfold maxLen; omega
  have hby : (0 + u.length) * 56 ≤ 140737488355328 := by omega
  rw [hs0] at hoe
  rw [hw0] at f0 f1 f2 g0 g1 g2 hnews hoe
  go_enter Tryz.func66, Tryz.ntmps66
  go_wp2_with (at_builtin; refine wpList_append_own _ rfl (.tmp 10) (.tmp 11) 24 rfl (w.heap.size + 1) 40 i0 _ 5 56 Tryz.underlying24 hi hz0 hz1 hz2 rfl (by decide) _ 0 [] rfl (unhide hoe) ⟨b', off', none⟩ u.length cap' (flat u) rfl (unhide HFL) ((unhide hnews) _) (unhide hone) hb63 hby (by simp <;> omega) ?_)
  intro v' w' ho hg _
  have hB0 : Below (w.heap.size + 1) (w.alloc (.cells #[.int .i64 0, .slice none 0 0] 26)) w' := ((Below.refl (w.heap.size + 1) (w.alloc (.cells #[.int .i64 0, .slice none 0 0] 26))).alloc (by simp) _).grown hg (by simp <;> omega) (fun q hq => by simp only [Value.ownBlock, Option.some.injEq] at hq; omega)
  have hB : Below w.heap.size w w' := ((unhide HB0) _).trans (hB0.mono (by omega))
  have hr : Res w' (w.heap.size + 1) v' u := res_of_owns (l := u) (by simpa using ho) (by omega)
  have hR2 : Own w' w.heap.size 26 [.int .i64 0, .slice none 0 0] := Own.below ⟨_, heap_alloc_new _ _, rfl⟩ hB0 (by omega)
  have r0 := hR2.cell 0
  have r1 := hR2.cell 1
  have z0 := hR2.frozen 0
  have z1 := hR2.frozen 1
  simp only [List.getElem?_cons_zero, List.getElem?_cons_succ] at r0 r1
  have HE := hide (Ans.storeC hr (by omega) hB)
  obtain ⟨ac, mc, cc, hsh⟩ := hr.shape
  subst hsh
  clear ho hg hr f0 f1 f2 g0 g1 g2 hB0
  go_wp2_with fail
  refine bodyPost_ret (v := .agg #[.int .i64 0, .slice ac mc cc]) (by simp [results, Tryz.results66, go_sem, r0, r1]) rfl (ans_of (unhide fin) ((unhide HE) _ _).1 ((unhide HE) _ _).2)

set_option maxRecDepth 100000 in
set_option maxHeartbeats 8000000 in
theorem addSpec_nr (v : List M.Cl) (b off cap : Nat) (u : List M.Cl) (b' off' cap' : Nat) (w : World) (hv : M.valueFault v = 0) (hu : M.valueFault u = 0) (hrow : Row w b off v) (hb : b < w.heap.size) (hn : v.length ≤ 1048576) (hcap : v.length ≤ cap) (hok : ∀ c ∈ v, c.ok) (hrow' : Row w b' off' u) (hb' : b' < w.heap.size) (hn' : u.length ≤ 1048576) (hcap' : u.length ≤ cap') (hok' : ∀ c ∈ u, c.ok) (k0 : (v.getD 0 M.zero).kind ≠ 0) (k1 : (u.getD 0 M.zero).kind = 0) :
    Calls Tryz.prog 66 #[.slice (some ⟨b, off, none⟩) v.length cap, .slice (some ⟨b', off', none⟩) u.length cap'] w (Ans w (addIn v u)) := by
  have hl1 := (M.fault_zero hv).1
  have hl1' := (M.fault_zero hu).1
  have hl2 := (M.fault_zero hv).2.1
  have hl2' := (M.fault_zero hu).2.1
  have B0 : ∀ o, Below w.heap.size w (w.alloc o) := fun o => (Below.refl _ _).alloc (Nat.le_refl _) o
  have HB0 := hide B0
  clear B0
  obtain ⟨w0, hw0⟩ : ∃ w0, w0 = w.alloc (.cells #[.int .i64 0, .slice none 0 0] 26) := ⟨_, rfl⟩
  have HR0 : Own w0 w.heap.size 26 [.int .i64 0, .slice none 0 0] := by rw [hw0]; exact ⟨_, heap_alloc_new _ _, rfl⟩
  have B00 : Below w.heap.size w w0 := by rw [hw0]; exact (unhide HB0) _
  have hs0 : w0.heap.size = w.heap.size + 1 := by rw [hw0]; simp
  obtain ⟨f0, f1, f2, _, _⟩ := (hrow.below B00 hb) 0 (by omega)
  obtain ⟨g0, g1, g2, _, _⟩ := (hrow'.below B00 hb') 0 (by omega)
  simp only [Nat.zero_mul, Nat.add_zero] at f0 f1 f2 g0 g1 g2
  have hcv := code_bd (M.first_zero (M.fault_zero hv).2.2.1 _ (getD_mem v 0 (by omega)))
  have hcu := code_bd (M.first_zero (M.fault_zero hu).2.2.1 _ (getD_mem u 0 (by omega)))
  have fin := hide (add_r k0 k1)
  clear hv hu hok hok' hcv hcu
  rw [k1] at g0
  generalize v.getD 0 M.zero = c at *
  have e0 : (c.kind == 0) = false := by simp [k0]
  clear k0 k1
  obtain ⟨i0, hi, hz0, hz1, hz2⟩ := info_parts Tryz.info40
  have hnews := hide (fun o => row_words ((hrow.below B00 hb).below ((Below.refl w0.heap.size w0).alloc (Nat.le_refl _) o) (Nat.lt_of_lt_of_le hb B00.size)))
  have hone := hide (flat_one v)
  have HFL := hide (flat_length v)
  have hoe := hide (owns_empty5 w0 40)
  have hb63 : 0 + v.length ≤ maxLen := by unfold maxLen; omega
  have hby : (0 + v.length) * 56 ≤ 140737488355328 := by omega
  rw [hs0] at hoe
  rw [hw0] at f0 f1 f2 g0 g1 g2 hnews hoe
  go_enter Tryz.func66, Tryz.ntmps66
  go_wp2_with (at_builtin; refine wpList_append_own _ rfl (.tmp 19) (.tmp 20) 24 rfl (w.heap.size + 1) 40 i0 _ 5 56 Tryz.underlying24 hi hz0 hz1 hz2 rfl (by decide) _ 0 [] rfl (unhide hoe) ⟨b, off, none⟩ v.length cap (flat v) rfl (unhide HFL) ((unhide hnews) _) (unhide hone) hb63 hby (by simp <;> omega) ?_)
  intro v' w' ho hg _
  have hB0 : Below (w.heap.size + 1) (w.alloc (.cells #[.int .i64 0, .slice none 0 0] 26)) w' := ((Below.refl (w.heap.size + 1) (w.alloc (.cells #[.int .i64 0, .slice none 0 0] 26))).alloc (by simp) _).grown hg (by simp <;> omega) (fun q hq => by simp only [Value.ownBlock, Option.some.injEq] at hq; omega)
  have hB : Below w.heap.size w w' := ((unhide HB0) _).trans (hB0.mono (by omega))
  have hr : Res w' (w.heap.size + 1) v' v := res_of_owns (l := v) (by simpa using ho) (by omega)
  have hR2 : Own w' w.heap.size 26 [.int .i64 0, .slice none 0 0] := Own.below ⟨_, heap_alloc_new _ _, rfl⟩ hB0 (by omega)
  have r0 := hR2.cell 0
  have r1 := hR2.cell 1
  have z0 := hR2.frozen 0
  have z1 := hR2.frozen 1
  simp only [List.getElem?_cons_zero, List.getElem?_cons_succ] at r0 r1
  have HE := hide (Ans.storeC hr (by omega) hB)
  obtain ⟨ac, mc, cc, hsh⟩ := hr.shape
  subst hsh
  clear ho hg hr f0 f1 f2 g0 g1 g2 hB0
  go_wp2_with fail
  refine bodyPost_ret (v := .agg #[.int .i64 0, .slice ac mc cc]) (by simp [results, Tryz.results66, go_sem, r0, r1]) rfl (ans_of (unhide fin) ((unhide HE) _ _).1 ((unhide HE) _ _).2)

set_option maxRecDepth 100000 in
set_option maxHeartbeats 8000000 in
theorem addSpec_no (v : List M.Cl) (b off cap : Nat) (u : List M.Cl) (b' off' cap' : Nat) (w : World) (hv : M.valueFault v = 0) (hu : M.valueFault u = 0) (hrow : Row w b off v) (hb : b < w.heap.size) (hn : v.length ≤ 1048576) (hcap : v.length ≤ cap) (hok : ∀ c ∈ v, c.ok) (hrow' : Row w b' off' u) (hb' : b' < w.heap.size) (hn' : u.length ≤ 1048576) (hcap' : u.length ≤ cap') (hok' : ∀ c ∈ u, c.ok) (k0 : (v.getD 0 M.zero).kind ≠ 0) (k1 : (u.getD 0 M.zero).kind ≠ 0) (hno : (v.getD 0 M.zero).kind ≠ (u.getD 0 M.zero).kind ∨ (v.getD 0 M.zero).kind = 1 ∨ (v.getD 0 M.zero).kind = 2) :
    Calls Tryz.prog 66 #[.slice (some ⟨b, off, none⟩) v.length cap, .slice (some ⟨b', off', none⟩) u.length cap'] w (Ans w (addIn v u)) := by
  have hl1 := (M.fault_zero hv).1
  have hl1' := (M.fault_zero hu).1
  have hl2 := (M.fault_zero hv).2.1
  have hl2' := (M.fault_zero hu).2.1
  have B0 : ∀ o, Below w.heap.size w (w.alloc o) := fun o => (Below.refl _ _).alloc (Nat.le_refl _) o
  have HB0 := hide B0
  clear B0
  obtain ⟨w0, hw0⟩ : ∃ w0, w0 = w.alloc (.cells #[.int .i64 0, .slice none 0 0] 26) := ⟨_, rfl⟩
  have HR0 : Own w0 w.heap.size 26 [.int .i64 0, .slice none 0 0] := by rw [hw0]; exact ⟨_, heap_alloc_new _ _, rfl⟩
  have B00 : Below w.heap.size w w0 := by rw [hw0]; exact (unhide HB0) _
  have hs0 : w0.heap.size = w.heap.size + 1 := by rw [hw0]; simp
  obtain ⟨f0, f1, f2, _, _⟩ := (hrow.below B00 hb) 0 (by omega)
  obtain ⟨g0, g1, g2, _, _⟩ := (hrow'.below B00 hb') 0 (by omega)
  simp only [Nat.zero_mul, Nat.add_zero] at f0 f1 f2 g0 g1 g2
  have hcv := code_bd (M.first_zero (M.fault_zero hv).2.2.1 _ (getD_mem v 0 (by omega)))
  have hcu := code_bd (M.first_zero (M.fault_zero hu).2.2.1 _ (getD_mem u 0 (by omega)))
  have fin := hide (show addIn v u = (6, []) by
    by_cases e : (v.getD 0 M.zero).kind = (u.getD 0 M.zero).kind
    · exact add_b e k0 (by omega) (by omega) (by omega) (by omega)
    · exact add_k k0 k1 e)
  clear hv hu hok hok' hcv hcu
  generalize v.getD 0 M.zero = c at *
  generalize u.getD 0 M.zero = d at *
  have e0 : (c.kind == 0) = false := by simp [k0]
  have e1 : (d.kind == 0) = false := by simp [k1]
  rw [hw0] at f0 f1 f2 g0 g1 g2
  by_cases hne : c.kind = d.kind
  · have n1 : (c.kind != d.kind) = false := by simp [hne]
    have e3 : (c.kind == 3) = false := by simp; omega
    have e4 : (c.kind == 4) = false := by simp; omega
    have e5 : (c.kind == 5) = false := by simp; omega
    have e6 : (c.kind == 6) = false := by simp; omega
    clear hne hno k0 k1
    have f0q := fun q => show ((w.alloc (.cells #[.int .i64 0, .slice none 0 0] 26)).drewN q).cell? ⟨b, off, none⟩ = some (.int .i64 c.kind) from f0
    have g0q := fun q => show ((w.alloc (.cells #[.int .i64 0, .slice none 0 0] 26)).drewN q).cell? ⟨b', off', none⟩ = some (.int .i64 d.kind) from g0
    go_enter Tryz.func66, Tryz.ntmps66
    go_wp2_with fail
    go_quiet (fail)
    obtain ⟨w9, hw9⟩ : ∃ w9, w9 = (w.alloc (.cells #[.int .i64 0, .slice none 0 0] 26)).drewN nq := ⟨_, rfl⟩
    have HR9 : Own w9 w.heap.size 26 [.int .i64 0, .slice none 0 0] := by rw [hw9, ← hw0]; exact HR0
    have B09 : Below w.heap.size w w9 := by rw [hw9, ← hw0]; exact below_drewN B00 nq
    have hs9 : w9.heap.size = w.heap.size + 1 := by rw [hw9, ← hw0]; exact hs0
    have f09 : w9.cell? ⟨b, off, none⟩ = some (.int .i64 c.kind) := by rw [hw9]; exact f0
    rw [← hw9]
    clear hw9 hw0 f0 f1 f2 g0 g1 g2 f0q g0q HR0 B00 hs0 hs9
    go_wp2_with fail
    refine (l3Bad_any _ _).mono ?_
    rintro ec wc ⟨sc, rfl, hrc, hbc⟩
    have hRc := HR9.below hbc HR9.lt
    have r0 := hRc.cell 0
    have r1 := hRc.cell 1
    have z0 := hRc.frozen 0
    have z1 := hRc.frozen 1
    simp only [List.getElem?_cons_zero, List.getElem?_cons_succ] at r0 r1
    have HE := hide (Ans.store hrc B09 HR9.lt hbc)
    obtain ⟨ac, mc, cc, rfl⟩ := hrc.shape
    clear hrc hbc
    go_wp2_with fail
    refine bodyPost_ret (v := .agg #[.int .i64 6, .slice ac mc cc]) (by simp [results, Tryz.results66, go_sem, r0, r1]) rfl (ans_of (unhide fin) ((unhide HE) _ _).1 ((unhide HE) _ _).2)
  · have n1 : (c.kind != d.kind) = true := by simp [hne]
    clear hne hno k0 k1
    have f0q := fun q => show ((w.alloc (.cells #[.int .i64 0, .slice none 0 0] 26)).drewN q).cell? ⟨b, off, none⟩ = some (.int .i64 c.kind) from f0
    have g0q := fun q => show ((w.alloc (.cells #[.int .i64 0, .slice none 0 0] 26)).drewN q).cell? ⟨b', off', none⟩ = some (.int .i64 d.kind) from g0
    go_enter Tryz.func66, Tryz.ntmps66
    go_wp2_with fail
    go_quiet (fail)
    obtain ⟨w9, hw9⟩ : ∃ w9, w9 = (w.alloc (.cells #[.int .i64 0, .slice none 0 0] 26)).drewN nq := ⟨_, rfl⟩
    have HR9 : Own w9 w.heap.size 26 [.int .i64 0, .slice none 0 0] := by rw [hw9, ← hw0]; exact HR0
    have B09 : Below w.heap.size w w9 := by rw [hw9, ← hw0]; exact below_drewN B00 nq
    have hs9 : w9.heap.size = w.heap.size + 1 := by rw [hw9, ← hw0]; exact hs0
    have f09 : w9.cell? ⟨b, off, none⟩ = some (.int .i64 c.kind) := by rw [hw9]; exact f0
    rw [← hw9]
    clear hw9 hw0 f0 f1 f2 g0 g1 g2 f0q g0q HR0 B00 hs0 hs9
    go_wp2_with fail
    refine (l3Bad_any _ _).mono ?_
    rintro ec wc ⟨sc, rfl, hrc, hbc⟩
    have hRc := HR9.below hbc HR9.lt
    have r0 := hRc.cell 0
    have r1 := hRc.cell 1
    have z0 := hRc.frozen 0
    have z1 := hRc.frozen 1
    simp only [List.getElem?_cons_zero, List.getElem?_cons_succ] at r0 r1
    have HE := hide (Ans.store hrc B09 HR9.lt hbc)
    obtain ⟨ac, mc, cc, rfl⟩ := hrc.shape
    clear hrc hbc
    go_wp2_with fail
    refine bodyPost_ret (v := .agg #[.int .i64 6, .slice ac mc cc]) (by simp [results, Tryz.results66, go_sem, r0, r1]) rfl (ans_of (unhide fin) ((unhide HE) _ _).1 ((unhide HE) _ _).2)

set_option maxRecDepth 100000 in
set_option maxHeartbeats 8000000 in
theorem addSpec_num (v : List M.Cl) (b off cap : Nat) (u : List M.Cl) (b' off' cap' : Nat) (w : World) (hv : M.valueFault v = 0) (hu : M.valueFault u = 0) (hrow : Row w b off v) (hb : b < w.heap.size) (hn : v.length ≤ 1048576) (hcap : v.length ≤ cap) (hok : ∀ c ∈ v, c.ok) (hrow' : Row w b' off' u) (hb' : b' < w.heap.size) (hn' : u.length ≤ 1048576) (hcap' : u.length ≤ cap') (hok' : ∀ c ∈ u, c.ok) (k3 : (v.getD 0 M.zero).kind = 3) (k3' : (u.getD 0 M.zero).kind = 3) :
    Calls Tryz.prog 66 #[.slice (some ⟨b, off, none⟩) v.length cap, .slice (some ⟨b', off', none⟩) u.length cap'] w (Ans w (addIn v u)) := by
  have hl1 := (M.fault_zero hv).1
  have hl1' := (M.fault_zero hu).1
  have hl2 := (M.fault_zero hv).2.1
  have hl2' := (M.fault_zero hu).2.1
  have B0 : ∀ o, Below w.heap.size w (w.alloc o) := fun o => (Below.refl _ _).alloc (Nat.le_refl _) o
  have HB0 := hide B0
  clear B0
  obtain ⟨w0, hw0⟩ : ∃ w0, w0 = w.alloc (.cells #[.int .i64 0, .slice none 0 0] 26) := ⟨_, rfl⟩
  have HR0 : Own w0 w.heap.size 26 [.int .i64 0, .slice none 0 0] := by rw [hw0]; exact ⟨_, heap_alloc_new _ _, rfl⟩
  have B00 : Below w.heap.size w w0 := by rw [hw0]; exact (unhide HB0) _
  have hs0 : w0.heap.size = w.heap.size + 1 := by rw [hw0]; simp
  obtain ⟨f0, f1, f2, _, _⟩ := (hrow.below B00 hb) 0 (by omega)
  obtain ⟨g0, g1, g2, _, _⟩ := (hrow'.below B00 hb') 0 (by omega)
  simp only [Nat.zero_mul, Nat.add_zero] at f0 f1 f2 g0 g1 g2
  have hcv := code_bd (M.first_zero (M.fault_zero hv).2.2.1 _ (getD_mem v 0 (by omega)))
  have hcu := code_bd (M.first_zero (M.fault_zero hu).2.2.1 _ (getD_mem u 0 (by omega)))
  have fin := hide ((add_3 k3 k3').trans (told_num _))
  rw [k3] at f0
  rw [k3'] at g0
  obtain ⟨_, _, x1, x2, _, _, x3, _⟩ := hcv
  obtain ⟨_, _, y1, y2, _, _, y3, _⟩ := hcu
  have x4 := textOk_size x3
  have y4 := textOk_size y3
  clear hv hu hok hok' k3 k3' x3 y3
  generalize v.getD 0 M.zero = c at *
  generalize u.getD 0 M.zero = d at *
  have hwrp : IntKind.i64.wrap (c.num + d.num) = c.num + d.num := IntWalk.i64_in _ ⟨by omega, by omega⟩
  have HSZ := hide (show (c.text ++ d.text).size = c.text.size + d.text.size by simp)
  rw [hw0] at f0 f1 f2 g0 g1 g2
  have f0q := fun q => show ((w.alloc (.cells #[.int .i64 0, .slice none 0 0] 26)).drewN q).cell? ⟨b, off, none⟩ = some (.int .i64 3) from f0
  have g0q := fun q => show ((w.alloc (.cells #[.int .i64 0, .slice none 0 0] 26)).drewN q).cell? ⟨b', off', none⟩ = some (.int .i64 3) from g0
  go_enter Tryz.func66, Tryz.ntmps66
  go_wp2_with fail
  go_quiet (fail)
  obtain ⟨w9, hw9⟩ : ∃ w9, w9 = (w.alloc (.cells #[.int .i64 0, .slice none 0 0] 26)).drewN nq := ⟨_, rfl⟩
  have HR9 : Own w9 w.heap.size 26 [.int .i64 0, .slice none 0 0] := by rw [hw9, ← hw0]; exact HR0
  have B09 : Below w.heap.size w w9 := by rw [hw9, ← hw0]; exact below_drewN B00 nq
  have hs9 : w9.heap.size = w.heap.size + 1 := by rw [hw9, ← hw0]; exact hs0
  have f09 : w9.cell? ⟨b, off, none⟩ = some (.int .i64 3) := by rw [hw9]; exact f0
  have f19 : w9.cell? ⟨b, off + 1, none⟩ = some (.int .i64 c.num) := by rw [hw9]; exact f1
  have g19 : w9.cell? ⟨b', off' + 1, none⟩ = some (.int .i64 d.num) := by rw [hw9]; exact g1
  rw [← hw9]
  clear hw9 hw0 f0 f1 f2 g0 g1 g2 f0q g0q HR0 B00 hs0 hs9
  generalize hR2 : numOut (c.num + d.num) = R at *
  obtain ⟨rc, rl⟩ := R
  have HR2 := hide hR2
  clear hR2
  go_wp2_with fail
  go_region_with (first | (go_at_call 58; skip; refine (l1Number_any _ _).mono ?_; rintro e1 w1 ⟨s1, rfl, hr1, hb1⟩; have hR1 := HR9.drew.below hb1 HR9.drew.lt; have hsz1 := hb1.size; have hb1' := hb1; have HT := hide (specTold_any s1 _ [numCl (c.num + d.num)] w1 hr1 hb1.size (by simp) (by simp) (fun c hc => num_okc hc (by omega) (by omega))); rw [told_num] at HT; obtain ⟨a1, m1, c1, rfl⟩ := hr1.shape; rw [unhide HR2] at HT) | (go_at_call 67; refine (unhide HT).mono ?_; rintro e7 w7 ⟨s7, rfl, hr7, hb7⟩; have hR7 := hR1.below hb7 hR1.lt; have r0 := hR7.cell 0; have r1 := hR7.cell 1; have z0 := hR7.frozen 0; have z1 := hR7.frozen 1; simp only [List.getElem?_cons_zero, List.getElem?_cons_succ] at r0 r1; have HE := hide (Ans.storeC hr7 (show w.heap.size < _ from by exact HR9.lt) ((B09.drew.trans (hb1'.mono (by exact B09.size))).trans (hb7.mono (by have := B09.size; have := hb1'.size; exact Nat.le_trans B09.size hb1'.size)))); obtain ⟨ac, mc, cc, rfl⟩ := hr7.shape))
  all_goals
    go_wp2_with fail
    refine bodyPost_ret (v := .agg #[.int .i64 rc, .slice ac mc cc]) (by simp [results, Tryz.results66, go_sem, r0, r1]) rfl (ans_of (unhide fin) ((unhide HE) _ _).1 ((unhide HE) _ _).2)

set_option maxRecDepth 100000 in
set_option maxHeartbeats 8000000 in
theorem addSpec_str (v : List M.Cl) (b off cap : Nat) (u : List M.Cl) (b' off' cap' : Nat) (w : World) (hv : M.valueFault v = 0) (hu : M.valueFault u = 0) (hrow : Row w b off v) (hb : b < w.heap.size) (hn : v.length ≤ 1048576) (hcap : v.length ≤ cap) (hok : ∀ c ∈ v, c.ok) (hrow' : Row w b' off' u) (hb' : b' < w.heap.size) (hn' : u.length ≤ 1048576) (hcap' : u.length ≤ cap') (hok' : ∀ c ∈ u, c.ok) (k3 : (v.getD 0 M.zero).kind = 4) (k3' : (u.getD 0 M.zero).kind = 4) :
    Calls Tryz.prog 66 #[.slice (some ⟨b, off, none⟩) v.length cap, .slice (some ⟨b', off', none⟩) u.length cap'] w (Ans w (addIn v u)) := by
  have hl1 := (M.fault_zero hv).1
  have hl1' := (M.fault_zero hu).1
  have hl2 := (M.fault_zero hv).2.1
  have hl2' := (M.fault_zero hu).2.1
  have B0 : ∀ o, Below w.heap.size w (w.alloc o) := fun o => (Below.refl _ _).alloc (Nat.le_refl _) o
  have HB0 := hide B0
  clear B0
  obtain ⟨w0, hw0⟩ : ∃ w0, w0 = w.alloc (.cells #[.int .i64 0, .slice none 0 0] 26) := ⟨_, rfl⟩
  have HR0 : Own w0 w.heap.size 26 [.int .i64 0, .slice none 0 0] := by rw [hw0]; exact ⟨_, heap_alloc_new _ _, rfl⟩
  have B00 : Below w.heap.size w w0 := by rw [hw0]; exact (unhide HB0) _
  have hs0 : w0.heap.size = w.heap.size + 1 := by rw [hw0]; simp
  obtain ⟨f0, f1, f2, _, _⟩ := (hrow.below B00 hb) 0 (by omega)
  obtain ⟨g0, g1, g2, _, _⟩ := (hrow'.below B00 hb') 0 (by omega)
  simp only [Nat.zero_mul, Nat.add_zero] at f0 f1 f2 g0 g1 g2
  have hcv := code_bd (M.first_zero (M.fault_zero hv).2.2.1 _ (getD_mem v 0 (by omega)))
  have hcu := code_bd (M.first_zero (M.fault_zero hu).2.2.1 _ (getD_mem u 0 (by omega)))
  have fin := hide ((add_4 k3 k3').trans (told_str _))
  rw [k3] at f0
  rw [k3'] at g0
  obtain ⟨_, _, x1, x2, _, _, x3, _⟩ := hcv
  obtain ⟨_, _, y1, y2, _, _, y3, _⟩ := hcu
  have x4 := textOk_size x3
  have y4 := textOk_size y3
  clear hv hu hok hok' k3 k3' x3 y3
  generalize v.getD 0 M.zero = c at *
  generalize u.getD 0 M.zero = d at *
  have hwrp : IntKind.i64.wrap (c.num + d.num) = c.num + d.num := IntWalk.i64_in _ ⟨by omega, by omega⟩
  have HSZ := hide (show (c.text ++ d.text).size = c.text.size + d.text.size by simp)
  rw [hw0] at f0 f1 f2 g0 g1 g2
  have f0q := fun q => show ((w.alloc (.cells #[.int .i64 0, .slice none 0 0] 26)).drewN q).cell? ⟨b, off, none⟩ = some (.int .i64 4) from f0
  have g0q := fun q => show ((w.alloc (.cells #[.int .i64 0, .slice none 0 0] 26)).drewN q).cell? ⟨b', off', none⟩ = some (.int .i64 4) from g0
  go_enter Tryz.func66, Tryz.ntmps66
  go_wp2_with fail
  go_quiet (fail)
  obtain ⟨w9, hw9⟩ : ∃ w9, w9 = (w.alloc (.cells #[.int .i64 0, .slice none 0 0] 26)).drewN nq := ⟨_, rfl⟩
  have HR9 : Own w9 w.heap.size 26 [.int .i64 0, .slice none 0 0] := by rw [hw9, ← hw0]; exact HR0
  have B09 : Below w.heap.size w w9 := by rw [hw9, ← hw0]; exact below_drewN B00 nq
  have hs9 : w9.heap.size = w.heap.size + 1 := by rw [hw9, ← hw0]; exact hs0
  have f09 : w9.cell? ⟨b, off, none⟩ = some (.int .i64 4) := by rw [hw9]; exact f0
  have f19 : w9.cell? ⟨b, off + 2, none⟩ = some (.string c.text) := by rw [hw9]; exact f2
  have g19 : w9.cell? ⟨b', off' + 2, none⟩ = some (.string d.text) := by rw [hw9]; exact g2
  rw [← hw9]
  clear hw9 hw0 f0 f1 f2 g0 g1 g2 f0q g0q HR0 B00 hs0 hs9
  generalize hR2 : strOut (c.text ++ d.text) = R at *
  obtain ⟨rc, rl⟩ := R
  have HR2 := hide hR2
  clear hR2
  go_wp2_with fail
  go_region_with (first | (go_at_call 61; skip; refine (l1String_any _ _).mono ?_; rintro e1 w1 ⟨s1, rfl, hr1, hb1⟩; have hR1 := HR9.drew.below hb1 HR9.drew.lt; have hsz1 := hb1.size; have hb1' := hb1; have HT := hide (specTold_any s1 _ [strCl (c.text ++ d.text)] w1 hr1 hb1.size (by simp) (by simp) (fun c hc => str_okc hc (by rw [unhide HSZ]; omega))); rw [told_str] at HT; obtain ⟨a1, m1, c1, rfl⟩ := hr1.shape; rw [unhide HR2] at HT) | (go_at_call 67; refine (unhide HT).mono ?_; rintro e7 w7 ⟨s7, rfl, hr7, hb7⟩; have hR7 := hR1.below hb7 hR1.lt; have r0 := hR7.cell 0; have r1 := hR7.cell 1; have z0 := hR7.frozen 0; have z1 := hR7.frozen 1; simp only [List.getElem?_cons_zero, List.getElem?_cons_succ] at r0 r1; have HE := hide (Ans.storeC hr7 (show w.heap.size < _ from by exact HR9.lt) ((B09.drew.trans (hb1'.mono (by exact B09.size))).trans (hb7.mono (by have := B09.size; have := hb1'.size; exact Nat.le_trans B09.size hb1'.size)))); obtain ⟨ac, mc, cc, rfl⟩ := hr7.shape))
  all_goals
    go_wp2_with fail
    refine bodyPost_ret (v := .agg #[.int .i64 rc, .slice ac mc cc]) (by simp [results, Tryz.results66, go_sem, r0, r1]) rfl (ans_of (unhide fin) ((unhide HE) _ _).1 ((unhide HE) _ _).2)

set_option maxHeartbeats 1000000 in
theorem l3Add_any (v : List M.Cl) (b off cap : Nat) (u : List M.Cl) (b' off' cap' : Nat) (w : World) (hv : M.valueFault v = 0) (hu : M.valueFault u = 0) (hrow : Row w b off v) (hb : b < w.heap.size) (hn : v.length ≤ 1048576) (hcap : v.length ≤ cap) (hok : ∀ c ∈ v, c.ok) (hrow' : Row w b' off' u) (hb' : b' < w.heap.size) (hn' : u.length ≤ 1048576) (hcap' : u.length ≤ cap') (hok' : ∀ c ∈ u, c.ok) :
    Calls Tryz.prog 66 #[.slice (some ⟨b, off, none⟩) v.length cap, .slice (some ⟨b', off', none⟩) u.length cap'] w (Ans w (addIn v u)) := by
  by_cases k0 : (v.getD 0 M.zero).kind = 0
  · exact addSpec_nl v b off cap u b' off' cap' w hv hu hrow hb hn hcap hok hrow' hb' hn' hcap' hok' k0
  by_cases k1 : (u.getD 0 M.zero).kind = 0
  · exact addSpec_nr v b off cap u b' off' cap' w hv hu hrow hb hn hcap hok hrow' hb' hn' hcap' hok' k0 k1
  by_cases hno : (v.getD 0 M.zero).kind ≠ (u.getD 0 M.zero).kind ∨ (v.getD 0 M.zero).kind = 1 ∨ (v.getD 0 M.zero).kind = 2
  · exact addSpec_no v b off cap u b' off' cap' w hv hu hrow hb hn hcap hok hrow' hb' hn' hcap' hok' k0 k1 hno
  have hl1 := (M.fault_zero hv).1
  have hcv := code_bd (M.first_zero (M.fault_zero hv).2.2.1 _ (getD_mem v 0 (by omega)))
  by_cases k3 : (v.getD 0 M.zero).kind = 3
  · exact addSpec_num v b off cap u b' off' cap' w hv hu hrow hb hn hcap hok hrow' hb' hn' hcap' hok' k3 (by omega)
  by_cases k4 : (v.getD 0 M.zero).kind = 4
  · exact addSpec_str v b off cap u b' off' cap' w hv hu hrow hb hn hcap hok hrow' hb' hn' hcap' hok' k4 (by omega)
  by_cases k5 : (v.getD 0 M.zero).kind = 5
  · exact addSpec_arr v b off cap u b' off' cap' w hv hu hrow hb hn hcap hok hrow' hb' hn' hcap' hok' k5 (by omega)
  · exact addSpec_obj v b off cap u b' off' cap' w hv hu hrow hb hn hcap hok hrow' hb' hn' hcap' hok' (by omega) (by omega)

end Go.Proofs.YtcolohilnmikiaaGreat
