/-
  impl.DropKey.
-/
import Derived.Test.YtfcglmkbfdfaeaaS26
import Derived.Test.YtfcglmkbfdfaeaaS47
import Derived.Test.YtfcglmkbfdfaeaaS48
import Derived.Test.YtfcglmkbfdfaeaaS50
import Derived.Maps.AppendAt
namespace Go.Proofs.Ytfcglmkbfdfaeaa
open Go.RowKit
set_option linter.unusedVariables false

set_option maxRecDepth 100000 in
set_option maxHeartbeats 8000000 in
theorem withoutKey_any (v : List M.Cl) (b off cap : Nat) (key : ByteArray) (w : World) (hv : M.valueFault v = 0) (hrow : Row w b off v) (hb : b < w.heap.size) (hcap : v.length ≤ cap) (hok : ∀ c ∈ v, c.ok) (hk6 : (v.getD 0 M.zero).kind = 6) :
    Calls Try.prog 32 #[.slice (some ⟨b, off, none⟩) v.length cap, .string key] w (Ans w (0, dropIn v key)) := by
  have hl1 := (M.fault_zero hv).1
  have hl2 := (M.fault_zero hv).2.1
  have hin := M.places_in hv 0 (by omega)
  have HIN := hide hin.1
  have hend := hide hin.2.2.1
  have hA200 := hin.2.2.2
  have HDF := hide (fun k hk => drop_facts key hv hok k hk)
  have HDV := hide (drop_valid key hv hok hk6)
  have HC := hide (fun w' (r : Row w' b off v) hb' => childPlaces_any v b off cap 0 w' hv (by omega) r hb' hcap)
  have HPT := hide (fun a (ha : a < v.length) w' (r : Row w' b off v) hb' => partOf_any v b off cap a w' hv ha r hb' hcap)
  have HDI := hide (show dropIn v key = objV (stayK v key (M.arity v 0)) (stayP v key (M.arity v 0)) from rfl)
  have B0 : ∀ o, Below w.heap.size w (w.alloc o) := fun o => (Below.refl _ _).alloc (Nat.le_refl _) o
  have HB0 := hide B0
  clear B0
  have hR0 : Own (w.alloc (.cells #[.int .i64 0, .slice none 0 0] 28)) w.heap.size 28 [.int .i64 0, .slice none 0 0] := ⟨_, heap_alloc_new _ _, rfl⟩
  have HR0 := hide hR0
  obtain ⟨i0, hi, hz0, hz1, hz2⟩ := info_parts Try.info24
  obtain ⟨t0, ht0, hy0, hy1, hy2⟩ := info_parts Try.info9
  clear hin hv hok hk6 hR0
  obtain ⟨w0, hw0⟩ : ∃ w0, w0 = w.alloc (.cells #[.int .i64 0, .slice none 0 0] 28) := ⟨_, rfl⟩
  have hs0 : w0.heap.size = w.heap.size + 1 := by rw [hw0]; simp
  rw [← hw0] at HR0
  have B00 : Below w.heap.size w w0 := by rw [hw0]; exact (unhide HB0) _
  go_enter Try.func32, Try.ntmps32
  go_wp2_with fail
  rw [← hw0]
  clear hw0
  have hs01 : w0.heap.size ≤ w.heap.size + 1 := by omega
  have hs02 : w.heap.size + 1 ≤ w0.heap.size := by omega
  clear hs0
  refine ((unhide HC) _ (hrow.below B00 hb) (by omega)).mono ?_
  rintro e1 w1 ⟨sa, rfl, hra, hb1⟩
  have B1 : Below w0.heap.size w0 w1 := hb1
  generalize hm : M.arity v 0 = m at *
  have hfinish : ∀ (wr : World) (s5 s6 : Value), KS wr w0.heap.size s5 (stayK v key m) → SS wr w0.heap.size s6 (stayP v key m) → Below w0.heap.size w0 wr → ∃ ka kc la lc, s5 = .slice ka (stayK v key m).length kc ∧ s6 = .slice la (stayP v key m).length lc ∧ (stayK v key m).length ≤ kc ∧ (stayP v key m).length ≤ lc ∧ TV wr ka (stayK v key m) ∧ LV wr la (stayP v key m) := fun wr s5 s6 h1 h2 _ => by
    obtain ⟨ka, kc, q1, q2, q3⟩ := h1.tv
    obtain ⟨la, lc, r1, r2, r3⟩ := h2.lv (valid_ne ((unhide HDF) m (by omega)).2.2.1)
    exact ⟨ka, kc, la, lc, q1, r1, q2, r2, q3, r3⟩
  have HFIN := hide hfinish
  have hdf := (unhide HDF) m (by omega)
  have HOM := hide (obj_made hdf.1 (by omega) hdf.2.2.1 hdf.2.2.2.1 hdf.2.2.2.2)
  have HF1 := hide hdf.1
  have HF2 := hide (show (stayK v key m).length ≤ 4096 by omega)
  have HF3 := hide hdf.2.2.1
  clear hfinish hdf hb1 HC
  obtain ⟨_, ⟨rfl, hnil⟩ | ⟨ba, ca, rfl, _, hca, hoa⟩⟩ := hra
  · have hm0 : m = 0 := by have := congrArg List.length hnil; rwa [firstPl_length] at this
    subst hm0
    go_wp2_with fail
    refine wp_loop_rounds 1 ?_
    rw [rounds_succ]
    have hs1' := B1.size
    have BR : Below w.heap.size w w1 := B00.trans (B1.mono (by omega))
    have hRr := (unhide HR0).below B1 (by omega)
    have hwr : w.heap.size < w1.heap.size := hRr.lt
    have HOM' : objV [] [] ≠ [] ∧ (objV [] []).length ≤ 1048576 ∧ ∀ c ∈ objV [] [], c.ok := unhide HOM
    have HDI' : dropIn v key = objV [] [] := unhide HDI
    have HO2 := hide HOM'
    have HD2 := hide HDI'
    clear HOM HDI HOM' HDI' HFIN HF1 HF2 HF3
    go_wp2_with fail
    refine (layObject_none _ _ _ _ _).mono ?_
    rintro e6 w6 ⟨s6, rfl, hr6, hb6⟩
    have hR6 := hRr.below hb6 hRr.lt
    have B6 : Below w.heap.size w w6 := BR.trans (hb6.mono BR.size)
    have HT := hide (implTold_any s6 _ _ w6 hr6 hb6.size (unhide HO2).1 (unhide HO2).2.1 (unhide HO2).2.2)
    rw [told_ok (by rw [← unhide HD2]; exact unhide HDV)] at HT
    obtain ⟨at6, mt6, ct6, rfl⟩ := hr6.shape
    clear hr6 hb6
    go_wp2_with fail
    refine (unhide HT).mono ?_
    rintro e7 w7 ⟨s7, rfl, hr7, hb7⟩
    have hR7 := hR6.below hb7 hR6.lt
    have r0 := hR7.cell 0
    have r1 := hR7.cell 1
    have z0 := hR7.frozen 0
    have z1 := hR7.frozen 1
    simp only [List.getElem?_cons_zero, List.getElem?_cons_succ] at r0 r1
    have HE := hide (Ans.storeC hr7 hwr (B6.trans (hb7.mono B6.size)))
    obtain ⟨ac, mc, cc, rfl⟩ := hr7.shape
    clear hr7 hb7 HT
    go_wp2_with fail
    refine bodyPost_ret (v := .agg #[.int .i64 0, .slice ac mc cc]) (by simp [results, Try.results32, go_sem, r0, r1]) rfl (ans_of (by rw [unhide HD2]) ((unhide HE) _ _).1 ((unhide HE) _ _).2)
  · rw [firstPl_length] at hca ⊢
    go_wp2_with fail
    go_loopg [5, 6, 12] m (fun gh s5 s6 s12 wr => ∃ k : Nat, Hid (gh = m - k) ∧ s12 = .int .i64 k ∧ k ≤ m ∧ Hid (KS wr w0.heap.size s5 (stayK v key k)) ∧ Hid (SS wr w0.heap.size s6 (stayP v key k)) ∧ Hid (OwnI wr ba (firstPl v 0 m)) ∧ Below w0.heap.size w0 wr)
    case atStart => exact ⟨0, rfl, rfl, by omega, World.ownsRow_nil _ _ _ _, SS.nil _ _, hoa, B1⟩
    case round =>
      clear hoa B1
      obtain ⟨k, hg, rfl, hk', hK, hS, hoi, hbel⟩ := hrel
      have BRr : Below w.heap.size w wr := B00.trans (hbel.mono (by omega))
      by_cases hlt : k < m
      · have h1 := (unhide HIN) k hlt
        have h2 := unhide hend
        have fa := (hoi.out).cell (i := k) (by rw [firstPl_length]; exact hlt)
        rw [firstPl_getD v 0 m k hlt] at fa
        have fk := ((hrow.below BRr hb) (M.iter v k (0 + 1)) (by omega)).2.2.2.1
        simp only [Nat.zero_add] at fa fk h1
        have hp : M.iter v k 1 < v.length := by omega
        clear h1 h2
        cases hh : ((v.getD (M.iter v k 1) M.zero).key.toList == key.toList) with
        | true =>
          have hsy := hide (stayK_yes hh)
          generalize (v.getD (M.iter v k 1) M.zero).key = ky at *
          generalize M.iter v k 1 = p at *
          have hnq : (ky.toList != key.toList) = false := by rw [bne, hh]; rfl
          go_wp2_with fail
          go_roundg (m - (k + 1))
          case rel => exact ⟨k + 1, rfl, by go_num, by omega, by rw [(unhide hsy).1]; exact hK.out, by rw [(unhide hsy).2]; exact hS.out, hoi.out, hbel⟩
          case measure => have := hg.out; omega
        | false =>
          have hsn := hide (stayK_no hh)
          have hkl := (stayK_length v key k).1
          have hpl := (stayK_length v key k).2
          have hsl := stay_length v key k
          have hnl : (stay v key k).length ≤ 200 := by omega
          generalize (v.getD (M.iter v k 1) M.zero).key = ky at *
          generalize M.iter v k 1 = p at *
          have hnq : (ky.toList != key.toList) = true := by rw [bne, hh]; rfl
          have hkown := hide (fun o => (KS.row (hK.out) hkl).alloc o)
          have hkbse := hide (ownsRow_base (hK.out))
          have hkone := hide (one_val wr (.string ky) 9)
          have hkonep := hide (app_string ky)
          have hk63 : (stay v key k).length + 1 ≤ maxLen := by unfold maxLen; omega
          have hkby : ((stay v key k).length + 1) * 16 ≤ 140737488355328 := by omega
          have hsz := hbel.size
          have F3 := hide (fun (w' : World) o (hg : (wr.alloc o).grownBy w' u5.ownBlock) => ((hS.out).alloc o).keptT (w' := w') ((KS.row (hK.out) hkl).alloc o) (by decide) (by decide) hg)
          have F4 := hide (fun (w' : World) o (hg : (wr.alloc o).grownBy w' u5.ownBlock) => show OwnI w' ba (firstPl v 0 m) by
            obtain ⟨ys, y1, y2⟩ := hoi.out
            exact ⟨ys, grown_own hg (y1.alloc o) (other_block (KS.row (hK.out) hkl) y1 (by decide)), y2⟩)
          clear hK hS hoi
          go_wp2_with (at_builtin; refine wpList_append_own _ rfl (.tmp 23) (.tmp 29) 39 rfl w0.heap.size 9 t0 (.string ByteArray.empty) 1 16 Try.underlying39 ht0 hy0 hy1 hy2 rfl (by decide) _ (stay v key k).length _ rfl ((unhide hkown) _) ⟨wr.heap.size, 0, none⟩ 1 1 [.string ky] rfl rfl (unhide hkone) (unhide hkonep) hk63 hkby (by simp; omega) ?_)
          intro v5 w5 ho5 hg5 _
          have B5 : Below w0.heap.size w0 w5 := (hbel.alloc hbel.size _).grown hg5 (by simp; omega) (unhide hkbse)
          have G1 := hide ((unhide F3) _ _ hg5)
          have G2 := hide ((unhide F4) _ _ hg5)
          have G3 := hide (show KS w5 w0.heap.size v5 (stayK v key (k + 1)) by rw [(unhide hsn).1]; exact KS.snoc hkl ho5)
          have B5' : Below w.heap.size w w5 := B00.trans (B5.mono (by omega))
          have hrr5 := hrow.below B5' hb
          have hbr5 : b < w5.heap.size := Nat.lt_of_lt_of_le hb B5'.size
          clear hg5 ho5 F3 F4 hkown hkone fa fk
          go_wp2_with fail
          refine ((unhide HPT) p hp _ hrr5 hbr5).mono ?_
          rintro e7 w7 ⟨sp, rfl, hrp0, hb7⟩
          have B7 : Below w0.heap.size w0 w7 := B5.trans (hb7.mono B5.size)
          have hrp : Res w7 w0.heap.size sp (part v p) := hrp0.mono B5.size
          have H1 := (unhide G1).below hb7
          have H2 := (unhide G2).below hb7 (unhide G2).lt
          have H3 := (unhide G3).below hb7
          clear hb7 hrp0 hrr5 G1 G2 G3
          obtain ⟨sa, sn, sc, hsv⟩ := hrp.shape
          subst hsv
          obtain ⟨ss, hsl7, hown7, hres7⟩ := H1
          have hown7' := hide (fun o => (hpl ▸ hown7 : World.ownsRow w7 w0.heap.size 24 1 u6 (stay v key k).length ss).alloc o)
          have hbse7 := hide (ownsRow_base hown7)
          have hone7 := hide (one_val w7 (.slice sa sn sc) 24)
          have honep7 := hide (one_plain' sa sn sc)
          have hsn7 := hide (fun w' o v' hg ho => SS.snoc (w3 := w') (o := o) (v' := v') hpl hsl7 hown7 hres7 hrp hg ho)
          have hby7 : ((stay v key k).length + 1) * 24 ≤ 140737488355328 := by omega
          have hsz7 := B7.size
          have K1 := hide (fun (w' : World) o (hg : (w7.alloc o).grownBy w' u6.ownBlock) => (H3.alloc o).grown (w' := w') (hown7.alloc o) (by decide) hg)
          have K2 := hide (fun (w' : World) o (hg : (w7.alloc o).grownBy w' u6.ownBlock) => show OwnI w' ba (firstPl v 0 m) by
            obtain ⟨ys, y1, y2⟩ := H2
            exact ⟨ys, grown_own hg (y1.alloc o) (other_block hown7 y1 (by decide)), y2⟩)
          clear hown7 hres7 hsl7 hrp H2 H3
          go_wp2_with (at_builtin; refine wpList_append_own _ rfl (.tmp 31) (.tmp 35) 45 rfl w0.heap.size 24 i0 (.slice none 0 0) 1 24 Try.underlying45 hi hz0 hz1 hz2 rfl (by decide) _ (stay v key k).length ss rfl ((unhide hown7') _) ⟨w7.heap.size, 0, none⟩ 1 1 [.slice sa sn sc] rfl rfl (unhide hone7) (unhide honep7) hk63 hby7 (by simp; omega) ?_)
          intro v8 w8 ho8 hg8 _
          have B8 : Below w0.heap.size w0 w8 := (B7.alloc B7.size _).grown hg8 (by simp; omega) (unhide hbse7)
          have R1 := hide ((unhide K1) _ _ hg8)
          have R2 := hide ((unhide K2) _ _ hg8)
          have R3 := hide (show SS w8 w0.heap.size v8 (stayP v key (k + 1)) by rw [(unhide hsn).2]; exact (unhide hsn7) _ _ _ hg8 ho8)
          clear hg8 ho8 K1 K2 hsn7 hown7' hone7 honep7
          go_wp2_with fail
          go_roundg (m - (k + 1))
          case rel => exact ⟨k + 1, rfl, by go_num, by omega, unhide R1, unhide R3, unhide R2, B8⟩
          case measure => have := hg.out; omega
      · have hke : k = m := by omega
        rw [hke] at hK hS
        have hK' := hK.out
        have hS' := hS.out
        obtain ⟨ka6, kc6, la6, lc6, hka6, hla6, hkc6, hlc6, htv6, hlv6⟩ := (unhide HFIN) wr u5 u6 hK' hS' hbel
        subst hka6 hla6
        have BR : Below w.heap.size w wr := B00.trans (hbel.mono (by omega))
        have hRr := (unhide HR0).below hbel (by omega)
        have hwr : w.heap.size < wr.heap.size := hRr.lt
        clear hK' hS' hK hS hoi hke BRr
        generalize stayK v key m = SK at *
        generalize stayP v key m = SP at *
        go_wp2_with fail
        refine (layObjectV_any _ _ _ _ SK SP _ htv6 hlv6 hkc6 hlc6 (unhide HF1) (unhide HF2) (unhide HF3)).mono ?_
        rintro e6 w6 ⟨s6, rfl, hr6, hb6⟩
        have hR6 := hRr.below hb6 hRr.lt
        have B6 : Below w.heap.size w w6 := BR.trans (hb6.mono BR.size)
        have HT := hide (implTold_any s6 _ _ w6 hr6 hb6.size (unhide HOM).1 (unhide HOM).2.1 (unhide HOM).2.2)
        rw [told_ok (by rw [← unhide HDI]; exact unhide HDV)] at HT
        obtain ⟨at6, mt6, ct6, rfl⟩ := hr6.shape
        clear hr6 hb6 hlv6 htv6
        go_wp2_with fail
        refine (unhide HT).mono ?_
        rintro e7 w7 ⟨s7, rfl, hr7, hb7⟩
        have hR7 := hR6.below hb7 hR6.lt
        have r0 := hR7.cell 0
        have r1 := hR7.cell 1
        have z0 := hR7.frozen 0
        have z1 := hR7.frozen 1
        simp only [List.getElem?_cons_zero, List.getElem?_cons_succ] at r0 r1
        have HE := hide (Ans.storeC hr7 hwr (B6.trans (hb7.mono B6.size)))
        obtain ⟨ac, mc, cc, rfl⟩ := hr7.shape
        clear hr7 hb7 HT
        go_wp2_with fail
        refine bodyPost_ret (v := .agg #[.int .i64 0, .slice ac mc cc]) (by simp [results, Try.results32, go_sem, r0, r1]) rfl (ans_of (by rw [unhide HDI]) ((unhide HE) _ _).1 ((unhide HE) _ _).2)

set_option maxRecDepth 100000 in
set_option maxHeartbeats 2000000 in
theorem implDropKey_any (v : List M.Cl) (b off cap : Nat) (key : ByteArray) (w : World) (hrow : Row w b off v) (hb : b < w.heap.size) (hn : v.length ≤ 1048576) (hcap : v.length ≤ cap) (hok : ∀ c ∈ v, c.ok) (hk : key.size ≤ 9223372036854775807) :
    Calls Try.prog 9 #[.slice (some ⟨b, off, none⟩) v.length cap, .string key] w (Ans w (dropOut v key)) := by
  have OK := hide hok
  have B0 : ∀ o, Below w.heap.size w (w.alloc o) := fun o => (Below.refl _ _).alloc (Nat.le_refl _) o
  have HB0 := hide B0
  clear B0
  have HKF := hide (fun o => keyedFault_any key (some ⟨w.heap.size + 1, 0, none⟩) 1 [v] ((w.alloc o).alloc (.cells #[.slice (some ⟨b, off, none⟩) v.length cap] 24)) (LV.one (w.alloc o) (w.heap.size + 1) b off cap v 24 (by simp) (hrow.below ((unhide HB0) _) hb) (by simp; omega) hcap) (by simp) (by simp) (len_one hn) (okS_one hok) hk)
  simp only [List.length_cons, List.length_nil, Nat.zero_add] at HKF
  clear hok
  go_enter Try.func9, Try.ntmps9
  go_wp2_with fail
  refine ((unhide HKF) _).mono ?_
  rintro e1 w1 ⟨rfl, hb1⟩
  have hR : Own w1 w.heap.size 28 [.int .i64 0, .slice none 0 0] := Own.below (Own.alloc ⟨_, heap_alloc_new _ _, rfl⟩ _) hb1 (by simp; omega)
  have B1 : Below w.heap.size w w1 := (((unhide HB0) _).alloc (by simp) _).trans (hb1.mono (by simp; omega))
  have hrow1 := hrow.below B1 hb
  have hb1' : b < w1.heap.size := Nat.lt_of_lt_of_le hb B1.size
  clear hb1 HKF
  by_cases hv : M.valueFault v = 0
  · by_cases ht : M.textOk key = true
    · have hko : keyedOut [v] key = 0 := by unfold keyedOut; rw [firstBad_one, if_neg (by simp [hv]), if_pos ht]
      rw [hko]
      clear hko
      have fin := hide (drop_ok hv ht)
      have hl1 := (M.fault_zero hv).1
      obtain ⟨f0, _, _, _, _⟩ := hrow1 0 (by omega)
      simp only [Nat.zero_mul, Nat.add_zero] at f0
      by_cases k0 : (v.getD 0 M.zero).kind = 0
      · have fin2 := hide ((unhide fin).trans (drop_0 k0))
        rw [k0] at f0
        clear k0 hv ht fin
        go_wp2_with fail
        refine (nullResult_any _).mono ?_
        rintro ec wc ⟨sc, rfl, hrc, hbc⟩
        have hRc := hR.below hbc hR.lt
        have r0 := hRc.cell 0
        have r1 := hRc.cell 1
        have z0 := hRc.frozen 0
        have z1 := hRc.frozen 1
        simp only [List.getElem?_cons_zero, List.getElem?_cons_succ] at r0 r1
        have HE := hide (Ans.store hrc B1 hR.lt hbc)
        obtain ⟨ac, mc, cc, rfl⟩ := hrc.shape
        clear f0 hrc hbc
        go_wp2_with fail
        refine bodyPost_ret (v := .agg #[.int .i64 0, .slice ac mc cc]) (by simp [results, Try.results9, go_sem, r0, r1]) rfl (ans_of (unhide fin2) ((unhide HE) _ _).1 ((unhide HE) _ _).2)
      by_cases k6 : (v.getD 0 M.zero).kind = 6
      · have fin2 := hide ((unhide fin).trans (drop_6 k6))
        have HG := hide (withoutKey_any v b off cap key w1 hv hrow1 hb1' hcap (unhide OK) k6)
        rw [k6] at f0
        clear k0 k6 hv ht fin
        go_wp2_with fail
        refine (unhide HG).mono ?_
        rintro ec wc ⟨sc, rfl, hrc, hbc⟩
        have hRc := hR.below hbc hR.lt
        have r0 := hRc.cell 0
        have r1 := hRc.cell 1
        have z0 := hRc.frozen 0
        have z1 := hRc.frozen 1
        simp only [List.getElem?_cons_zero, List.getElem?_cons_succ] at r0 r1
        have HE := hide (Ans.store hrc B1 hR.lt hbc)
        obtain ⟨ac, mc, cc, rfl⟩ := hrc.shape
        clear f0 hrc hbc
        go_wp2_with fail
        refine bodyPost_ret (v := .agg #[.int .i64 0, .slice ac mc cc]) (by simp [results, Try.results9, go_sem, r0, r1]) rfl (ans_of (unhide fin2) ((unhide HE) _ _).1 ((unhide HE) _ _).2)
      · have fin2 := hide ((unhide fin).trans (drop_no k0 k6))
        generalize v.getD 0 M.zero = c at *
        have e0 : (c.kind == 0) = false := by simp [k0]
        have e6 : (c.kind == 6) = false := by simp [k6]
        have r0 := hR.cell 0
        have r1 := hR.cell 1
        have z0 := hR.frozen 0
        have z1 := hR.frozen 1
        simp only [List.getElem?_cons_zero, List.getElem?_cons_succ] at r0 r1
        clear k0 k6 fin hv ht
        go_wp2_with fail
        refine bodyPost_ret (v := .agg #[.int .i64 6, .slice none 0 0]) (by simp [results, Try.results9, go_sem, r0, r1]) rfl (ans_of (unhide fin2) (resNil _ _) (store_below B1 _ _))
    · have ht' : M.textOk key = false := by simpa using ht
      have hko : keyedOut [v] key = 5 := by unfold keyedOut; rw [firstBad_one, if_neg (by simp [hv]), if_neg ht]
      rw [hko]
      have fin := hide (drop_text hv ht')
      have r0 := hR.cell 0
      have r1 := hR.cell 1
      have z0 := hR.frozen 0
      have z1 := hR.frozen 1
      simp only [List.getElem?_cons_zero, List.getElem?_cons_succ] at r0 r1
      clear hko ht ht' hv
      go_wp2_with fail
      refine bodyPost_ret (v := .agg #[.int .i64 5, .slice none 0 0]) (by simp [results, Try.results9, go_sem, r0, r1]) rfl (ans_of (unhide fin) (resNil _ _) (store_below B1 _ _))
  · have hko : keyedOut [v] key = M.valueFault v := by unfold keyedOut; rw [firstBad_one, if_pos hv]
    have fin := hide (drop_bad (key := key) hv)
    rw [hko]
    clear hko
    generalize M.valueFault v = q at *
    have hz' : (q == 0) = false := by simp [hv]
    have r0 := hR.cell 0
    have r1 := hR.cell 1
    have z0 := hR.frozen 0
    have z1 := hR.frozen 1
    simp only [List.getElem?_cons_zero, List.getElem?_cons_succ] at r0 r1
    clear hv
    go_wp2_with fail
    refine bodyPost_ret (v := .agg #[.int .i64 q, .slice none 0 0]) (by simp [results, Try.results9, go_sem, r0, r1]) rfl (ans_of (unhide fin) (resNil _ _) (store_below B1 _ _))

end Go.Proofs.Ytfcglmkbfdfaeaa
