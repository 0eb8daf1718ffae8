/-
  impl.KeysOf.
-/
import Derived.Test.YtjoghcolfehkcaaKeyS
import Derived.Test.YtjoghcolfehkcaaPrtI
namespace Go.Proofs.Ytjoghcolfehkcaa
open Go.RowKit
set_option linter.unusedVariables false

set_option maxRecDepth 100000 in
set_option maxHeartbeats 4000000 in
theorem stringArray_any (a : Option Addr) (cap : Nat) (ks : List ByteArray) (w : World) (hT : TV w a ks) (hcap : ks.length ≤ cap) (hn : ks.length ≤ 199) (ht : TextsOk ks) :
    Calls Try.prog 83 #[.slice a ks.length cap] w (Ans w (0, arrV (strs ks))) := by
  have HALL := hide (strs_all hn ht)
  have HTV := hide hT
  have B0 : ∀ o, Below w.heap.size w (w.alloc o) := fun o => (Below.refl _ _).alloc (Nat.le_refl _) o
  have HB0 := hide B0
  clear B0
  have hR0 : Own (w.alloc (.cells #[.int .i64 0, .slice none 0 0] 26)) w.heap.size 26 [.int .i64 0, .slice none 0 0] := ⟨_, heap_alloc_new _ _, rfl⟩
  have HR0 := hide hR0
  clear hR0 hT ht
  obtain ⟨i0, hi, hz0, hz1, hz2⟩ := info_parts Try.info24
  obtain ⟨w0, hw0⟩ : ∃ w0, w0 = w.alloc (.cells #[.int .i64 0, .slice none 0 0] 26) := ⟨_, rfl⟩
  have hs0 : w0.heap.size = w.heap.size + 1 := by rw [hw0]; simp
  rw [← hw0] at HR0
  have B00 : Below w.heap.size w w0 := by rw [hw0]; exact (unhide HB0) _
  go_enter Try.func83, Try.ntmps83
  go_wp2_with fail
  rw [← hw0]
  clear hw0
  go_loopg [3, 8] ks.length (fun gh s3 s8 wr => ∃ k : Nat, Hid (gh = ks.length - k) ∧ s8 = .int .i64 k ∧ k ≤ ks.length ∧ Hid (SS wr (w.heap.size + 1) s3 (strs (ks.take k))) ∧ Below (w.heap.size + 1) w0 wr)
  case atStart => exact ⟨0, rfl, rfl, by omega, SS.nil _ _, Below.refl _ _⟩
  case round =>
    obtain ⟨k, hg, rfl, hk, hss, hbel⟩ := hrel
    have BR : Below w.heap.size w wr := B00.trans (hbel.mono (by omega))
    by_cases hlt : k < ks.length
    · obtain ⟨g, rfl, hgl, fk⟩ := ((unhide HTV).below BR) k hlt
      have hsucc := hide (strs_succ ks k hlt)
      have hX := hide (show (strs (ks.take k)).length = k by rw [strs_length, List.length_take]; omega)
      generalize ks.getD k ByteArray.empty = ky at *
      obtain ⟨w1, hw1⟩ : ∃ w1, w1 = wr.alloc (.cells #[.int .i64 4, .int .i64 0, .string ky, .string ByteArray.empty, .int .i64 0] 55) := ⟨_, rfl⟩
      have hs1 : w1.heap.size = wr.heap.size + 1 := by rw [hw1]; simp
      have hrp : Res w1 (w.heap.size + 1) (.slice (some ⟨wr.heap.size, 0, none⟩) 1 1) [strCl ky] := by rw [hw1]; exact one_cell wr (w.heap.size + 1) wr.heap.size (strCl ky) rfl (by have := hbel.size; omega)
      have hss1 : SS w1 (w.heap.size + 1) u3 (strs (ks.take k)) := by rw [hw1]; exact (hss.out).alloc _
      have B1 : Below (w.heap.size + 1) w0 w1 := by rw [hw1]; exact hbel.alloc (by have := hbel.size; omega) _
      clear hss hbel
      obtain ⟨ss, hsl, hown, hres⟩ := hss1
      have hlk := unhide hX
      have hown3 := hide (fun o => (hlk ▸ hown : World.ownsRow w1 (w.heap.size + 1) 24 1 _ k ss).alloc o)
      have hbse := hide (ownsRow_base hown)
      have hone := hide (one_val w1 (.slice (some ⟨wr.heap.size, 0, none⟩) 1 1) 24)
      have honep := hide (one_plain' (some ⟨wr.heap.size, 0, none⟩) 1 1)
      have hsn := hide (fun w' o v' hg ho => SS.snoc (w3 := w') (o := o) (v' := v') hlk hsl hown hres hrp hg ho)
      have hb63 : k + 1 ≤ maxLen := by unfold maxLen; omega
      have hby : (k + 1) * 24 ≤ 140737488355328 := by omega
      have hbase : w.heap.size + 1 ≤ w1.heap.size + 1 := by have := B1.size; omega
      have B1' := hide (fun o => B1.alloc (by have := B1.size; omega) o)
      rw [hs1] at hone hbase
      rw [hw1] at hown3 hone hsn B1'
      clear hown hres hrp hsl hlk B1 hw1 hs1
      go_wp2_with (at_builtin; refine wpList_append_own _ rfl (.tmp 12) (.tmp 16) 38 rfl (w.heap.size + 1) 24 i0 (.slice none 0 0) 1 24 Try.underlying38 hi hz0 hz1 hz2 rfl (by decide) _ k ss rfl ((unhide hown3) _) ⟨wr.heap.size + 1, 0, none⟩ 1 1 [.slice (some ⟨wr.heap.size, 0, none⟩) 1 1] rfl rfl (unhide hone) (unhide honep) hb63 hby (by simp; omega) ?_)
      intro v' w2 ho' hg' _
      have hss' := hide ((unhide hsn) _ _ _ hg' ho')
      have B2 : Below (w.heap.size + 1) w0 w2 := ((unhide B1') _).grown hg' (by simp; omega) (unhide hbse)
      rw [unhide hsucc] at hss'
      clear hg' ho' B1' fk
      go_wp2_with fail
      go_roundg (ks.length - (k + 1))
      case rel => exact ⟨k + 1, rfl, by go_num, by omega, unhide hss', B2⟩
      case measure => have := hg.out; omega
    · have hke : k = ks.length := by omega
      have hss2 := hss.out
      rw [List.take_of_length_le (by omega)] at hss2
      obtain ⟨la, lc, hsh, hlc, hlv⟩ := hss2.lv (valid_ne (unhide HALL).1)
      subst hsh
      have hRr := (unhide HR0).below hbel (by omega)
      have hwr : w.heap.size < wr.heap.size := hRr.lt
      have HNL := hide (strs_length ks)
      clear hss hss2 hke
      go_wp2_with fail
      refine (layArrayV_any la lc (strs ks) _ hlv hlc (by rw [unhide HNL]; omega) (unhide HALL).1).mono ?_
      rintro e2 w2 ⟨s2, rfl, hr2, hb2⟩
      have hR2 := hRr.below hb2 hRr.lt
      have B2 : Below w.heap.size w w2 := BR.trans (hb2.mono BR.size)
      have hsz2 := hb2.size
      have HT := hide (implTold_any s2 _ _ w2 hr2 hb2.size (arrV_ne (strs ks)) (arrV_le (by rw [unhide HNL]; omega) (unhide HALL).1) (arrK_ok (strs ks) (by rw [unhide HNL]; omega) (unhide HALL).2.1 _ (Nat.le_refl _)))
      rw [told_ok (unhide HALL).2.2] at HT
      obtain ⟨at2, mt2, ct2, rfl⟩ := hr2.shape
      clear hr2 hb2 hlv
      go_wp2_with fail
      refine (unhide HT).mono ?_
      rintro e3 w3 ⟨s3, rfl, hr3, hb3⟩
      have hR3 := hR2.below hb3 hR2.lt
      have r0 := hR3.cell 0
      have r1 := hR3.cell 1
      have z0 := hR3.frozen 0
      have z1 := hR3.frozen 1
      simp only [List.getElem?_cons_zero, List.getElem?_cons_succ] at r0 r1
      have HE := hide (Ans.storeC hr3 hwr (B2.trans (hb3.mono B2.size)))
      obtain ⟨ac, mc, cc, rfl⟩ := hr3.shape
      clear hr3 hb3 HT
      go_wp2_with fail
      refine bodyPost_ret (v := .agg #[.int .i64 0, .slice ac mc cc]) (by simp [results, Try.results83, go_sem, r0, r1]) rfl (ans_of rfl ((unhide HE) _ _).1 ((unhide HE) _ _).2)

set_option maxRecDepth 100000 in
set_option maxHeartbeats 4000000 in
theorem implKeysOf_any (v : List M.Cl) (b off cap : Nat) (w : World) (hrow : Row w b off v) (hb : b < w.heap.size) (hn : v.length ≤ 1048576) (hcap : v.length ≤ cap) (hok : ∀ c ∈ v, c.ok) :
    Calls Try.prog 39 #[.slice (some ⟨b, off, none⟩) v.length cap] w (Ans w (keysOut v)) := by
  have OK := hide hok
  have B0 : ∀ o, Below w.heap.size w (w.alloc o) := fun o => (Below.refl _ _).alloc (Nat.le_refl _) o
  have HB0 := hide B0
  clear B0
  clear hok
  go_enter Try.func39, Try.ntmps39
  go_wp2_with fail
  refine (implFault_any v b off cap _ (hrow.below ((unhide HB0) _) hb) (by simp; omega) hn hcap (unhide OK)).mono ?_
  rintro e1 w1 ⟨rfl, hb1⟩
  have hR : Own w1 w.heap.size 26 [.int .i64 0, .slice none 0 0] := Own.below ⟨_, heap_alloc_new _ _, rfl⟩ hb1 (by simp)
  have B1 : Below w.heap.size w w1 := ((unhide HB0) _).trans (hb1.mono (by simp))
  have hrow1 := hrow.below B1 hb
  have hb1' : b < w1.heap.size := Nat.lt_of_lt_of_le hb B1.size
  clear hb1
  by_cases hv : M.valueFault v = 0
  · rw [hv]
    have fin := hide (keys_ok hv)
    have hl1 := (M.fault_zero hv).1
    have hl2 := (M.fault_zero hv).2.1
    have harl := arity_lt hv
    have hN := M.fits_getD (M.fits_of hv) 0
    have hNA : (v.getD 0 M.zero).n = (M.arity v 0 : Int) := by unfold M.arity; omega
    obtain ⟨f0, _, _, _, f4⟩ := hrow1 0 (by omega)
    simp only [Nat.zero_mul, Nat.add_zero] at f0 f4
    rw [hNA] at f4
    by_cases k5 : (v.getD 0 M.zero).kind = 5
    · have fin2 := hide ((unhide fin).trans (keys_5 k5))
      have HG := hide (implRange_any (M.arity v 0 : Int) w1 (by omega) (by omega))
      rw [rng_ok (n := (M.arity v 0 : Int)) (by omega), Int.toNat_natCast] at HG
      rw [k5] at f0
      clear k5 hv hNA hN
      generalize M.arity v 0 = m at *
      go_wp2_with fail
      refine (unhide HG).mono ?_
      rintro ec wc ⟨sc, rfl, hrc, hbc⟩
      have hRc := hR.below hbc hR.lt
      have r0 := hRc.cell 0
      have r1 := hRc.cell 1
      have z0 := hRc.frozen 0
      have z1 := hRc.frozen 1
      simp only [List.getElem?_cons_zero, List.getElem?_cons_succ] at r0 r1
      have HE := hide (Ans.store hrc B1 hR.lt hbc)
      obtain ⟨ac, mc, cc, rfl⟩ := hrc.shape
      clear f0 f4 hrc hbc
      go_wp2_with fail
      refine bodyPost_ret (v := .agg #[.int .i64 0, .slice ac mc cc]) (by simp [results, Try.results39, go_sem, r0, r1]) rfl (ans_of (unhide fin2) ((unhide HE) _ _).1 ((unhide HE) _ _).2)
    by_cases k6 : (v.getD 0 M.zero).kind = 6
    · have fin2 := hide ((unhide fin).trans (keys_6 k6))
      have HK := hide (keysIn_any v b off cap w1 hv hrow1 hb1' hcap)
      have HT := hide (keys_text hv)
      have HKL := hide (keysAt_length v 0)
      rw [k6] at f0
      clear k5 k6 hv hNA hN
      go_wp2_with fail
      refine (unhide HK).mono ?_
      rintro e2 w2 ⟨s2, rfl, hk2, hb2⟩
      obtain ⟨ka, kc, rfl, hkc, htv⟩ := hk2.tv
      have hR2 := hR.below hb2 hR.lt
      have B2 : Below w.heap.size w w2 := B1.trans (hb2.mono B1.size)
      have HG := hide (stringArray_any ka kc (keysAt v 0) w2 htv hkc (by rw [unhide HKL]; omega) (unhide HT))
      clear hb2 hk2 htv HK f0 f4
      go_wp2_with fail
      refine (unhide HG).mono ?_
      rintro ec wc ⟨sc, rfl, hrc, hbc⟩
      have hRc := hR2.below hbc hR2.lt
      have r0 := hRc.cell 0
      have r1 := hRc.cell 1
      have z0 := hRc.frozen 0
      have z1 := hRc.frozen 1
      simp only [List.getElem?_cons_zero, List.getElem?_cons_succ] at r0 r1
      have HE := hide (Ans.store hrc B2 hR2.lt hbc)
      obtain ⟨ac, mc, cc, rfl⟩ := hrc.shape
      clear hrc hbc
      go_wp2_with fail
      refine bodyPost_ret (v := .agg #[.int .i64 0, .slice ac mc cc]) (by simp [results, Try.results39, go_sem, r0, r1]) rfl (ans_of (unhide fin2) ((unhide HE) _ _).1 ((unhide HE) _ _).2)
    · have fin2 := hide ((unhide fin).trans (keys_no k5 k6))
      generalize v.getD 0 M.zero = c at *
      have e5 : (c.kind == 5) = false := by simp [k5]
      have e6 : (c.kind == 6) = false := by simp [k6]
      have r0 := hR.cell 0
      have r1 := hR.cell 1
      have z0 := hR.frozen 0
      have z1 := hR.frozen 1
      simp only [List.getElem?_cons_zero, List.getElem?_cons_succ] at r0 r1
      clear k5 k6 fin hv hNA hN
      go_wp2_with fail
      refine bodyPost_ret (v := .agg #[.int .i64 6, .slice none 0 0]) (by simp [results, Try.results39, go_sem, r0, r1]) rfl (ans_of (unhide fin2) (resNil _ _) (store_below B1 _ _))
  · have fin := hide (keys_bad hv)
    generalize M.valueFault v = q at *
    have hz' : (q == 0) = false := by simp [hv]
    have r0 := hR.cell 0
    have r1 := hR.cell 1
    have z0 := hR.frozen 0
    have z1 := hR.frozen 1
    simp only [List.getElem?_cons_zero, List.getElem?_cons_succ] at r0 r1
    clear hv
    go_wp2_with fail
    refine bodyPost_ret (v := .agg #[.int .i64 q, .slice none 0 0]) (by simp [results, Try.results39, go_sem, r0, r1]) rfl (ans_of (unhide fin) (resNil _ _) (store_below B1 _ _))

end Go.Proofs.Ytjoghcolfehkcaa
