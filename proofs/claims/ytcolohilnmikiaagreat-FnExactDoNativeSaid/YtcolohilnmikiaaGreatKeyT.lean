/-
  spec.KeysOf.
  impl.KeysOf.
-/
import Derived.Test.YtcolohilnmikiaaGreatKey0
import Derived.Test.YtcolohilnmikiaaGreatBoth
import Derived.Test.YtcolohilnmikiaaGreatPrtI
namespace Go.Proofs.YtcolohilnmikiaaGreat
open Go.RowKit
set_option linter.unusedVariables false

set_option maxRecDepth 100000 in
set_option maxHeartbeats 8000000 in
theorem l3Keys_any (v : List M.Cl) (b off cap : Nat) (w : World) (hv : M.valueFault v = 0) (hrow : Row w b off v) (hb : b < w.heap.size) (hcap : v.length ≤ cap) (hok : ∀ c ∈ v, c.ok) :
    Calls Tryz.prog 33 #[.slice (some ⟨b, off, none⟩) v.length cap] w (Ans w (keysL v)) := by
  have hl1 := (M.fault_zero hv).1
  have hl2 := (M.fault_zero hv).2.1
  have harl := arity_lt hv
  have B0 : ∀ o, Below w.heap.size w (w.alloc o) := fun o => (Below.refl _ _).alloc (Nat.le_refl _) o
  have HB0 := hide B0
  clear B0
  have hR0 : Own (w.alloc (.cells #[.int .i64 0, .slice none 0 0] 26)) w.heap.size 26 [.int .i64 0, .slice none 0 0] := ⟨_, heap_alloc_new _ _, rfl⟩
  have HR0 := hide hR0
  clear hR0
  obtain ⟨q0, q1, q2, q3, q4⟩ := hrow 0 (by omega)
  simp only [Nat.zero_mul, Nat.add_zero] at q0 q1 q2 q3 q4
  have f0 : ∀ o, (w.alloc o).cell? ⟨b, off, none⟩ = some (.int .i64 (v.getD 0 M.zero).kind) := fun o => (((unhide HB0) o).cell hb).trans q0
  have f1 : ∀ o, (w.alloc o).cell? ⟨b, off + 1, none⟩ = some (.int .i64 (v.getD 0 M.zero).num) := fun o => (((unhide HB0) o).cell hb).trans q1
  have f2 : ∀ o, (w.alloc o).cell? ⟨b, off + 2, none⟩ = some (.string (v.getD 0 M.zero).text) := fun o => (((unhide HB0) o).cell hb).trans q2
  have f3 : ∀ o, (w.alloc o).cell? ⟨b, off + 3, none⟩ = some (.string (v.getD 0 M.zero).key) := fun o => (((unhide HB0) o).cell hb).trans q3
  have f4 : ∀ o, (w.alloc o).cell? ⟨b, off + 4, none⟩ = some (.int .i64 (v.getD 0 M.zero).n) := fun o => (((unhide HB0) o).cell hb).trans q4
  clear q1 q2 q3 q4
  by_cases k5 : (v.getD 0 M.zero).kind = 5
  · have fin := hide (keys_5 k5)
    have HALL := hide (nums_all (k := M.arity v 0) (by omega))
    have HK := hide (fun w' (r : Row w' b off v) hb' => l1Keys_any v b off cap w' hv r hb' hcap hok)
    have hkl := keysAt_length v 0
    have K := hide k5
    obtain ⟨c, hc⟩ : ∃ c, c = v.getD 0 M.zero := ⟨_, rfl⟩
    rw [← hc] at f0 f1 f2 f3 f4 k5
    rw [k5] at f0
    clear hc q0
    have hh := hide (l1Holds_yes 5 c.num c.n c.text c.key (w.alloc (.cells #[.int .i64 0, .slice none 0 0] 26)) (by decide))
    obtain ⟨w0, hw0⟩ : ∃ w0, w0 = (w.alloc (.cells #[.int .i64 0, .slice none 0 0] 26)).alloc (.cells #[.int .i64 5, .int .i64 c.num, .string c.text, .string c.key, .int .i64 c.n] 40) := ⟨_, rfl⟩
    have hs0 : w0.heap.size = w.heap.size + 2 := by rw [hw0]; simp
    have HR0' : Own w0 w.heap.size 26 [.int .i64 0, .slice none 0 0] := by rw [hw0]; exact (unhide HR0).alloc _
    have B00 : Below w.heap.size w w0 := by rw [hw0]; exact ((unhide HB0) _).alloc (by simp) _
    have HS0 := hide (SS.empty w0 (w.heap.size + 2) (w.heap.size + 2) hs0.symm (Nat.le_refl _))
    clear k5 hok
    go_enter Tryz.func33, Tryz.ntmps33
    go_wp2_with fail
    refine (unhide hh).mono ?_
    rintro e1 w1 ⟨rfl, hw1⟩
    rw [← hw0] at hw1
    subst hw1
    clear hw0 f0 f1 f2 f3 f4 hh
    go_wp2_with fail
    refine ((unhide HK) _ (hrow.below (B00.alloc (by omega) _) hb) (by simp; omega)).mono ?_
    rintro e2 w2 ⟨s1, rfl, hk2, hb2⟩
    obtain ⟨ka, kc, rfl, hkc, _⟩ := hk2.tv
    rw [hkl] at hkc ⊢
    have hss2 := (unhide HS0).below hb2
    have B2 : Below (w.heap.size + 2) w1 w2 := ((Below.refl _ _).alloc (by omega) _).trans (hb2.mono (by simp; omega))
    have HK2 := hide hk2
    have HKL := hide hkl
    clear hb2 hk2 hkl HK HS0
    generalize hm : M.arity v 0 = m at *
    obtain ⟨i0, hi, hz0, hz1, hz2⟩ := info_parts Tryz.info24
    go_wp2_with fail
    go_loopg [3, 5] m (fun gh s3 s5 wr => ∃ k : Nat, Hid (gh = m - k) ∧ s5 = .int .i64 k ∧ k ≤ m ∧ Hid (SS wr (w.heap.size + 2) s3 (nums k)) ∧ Hid (KS wr (w1.alloc (.cells #[] 24)).heap.size (.slice ka m kc) (keysAt v 0)) ∧ Below (w.heap.size + 2) w1 wr)
    case atStart => exact ⟨0, rfl, rfl, by omega, hss2, by rw [unhide HKL] at HK2; exact unhide HK2, B2⟩
    case round =>
      clear hss2 HK2 B2
      obtain ⟨k, hg, rfl, hk, hss, hks, hbel⟩ := hrel
      have BR : Below w.heap.size w wr := B00.trans (hbel.mono (by omega))
      have hrr := hrow.below BR hb
      obtain ⟨f0, _, _, _, _⟩ := hrr 0 (by omega)
      simp only [Nat.zero_mul, Nat.add_zero] at f0
      by_cases hlt : k < m
      · have hsucc := hide (nums_succ k)
        have hX := hide (nums_length k)
        rw [show (v.getD 0 M.zero).kind = 5 from unhide K] at f0
        go_wp2_with fail
        refine (l1Number_any _ _).mono ?_
        rintro e3 w3 ⟨sp, rfl, hrp0, hb3⟩
        have B3 : Below (w.heap.size + 2) w1 w3 := hbel.trans (hb3.mono (by have := hbel.size; omega))
        have hrp : Res w3 (w.heap.size + 2) sp [numCl (k : Int)] := hrp0.mono (by have := hbel.size; omega)
        have hss3 := (hss.out).below hb3
        have hks3 := (hks.out).below hb3
        obtain ⟨xs3, hxs3⟩ := hss3.ownsRow
        have HKG := hide (fun (w' : World) o hg => (hks3.alloc o).grown (w' := w') (hxs3.alloc o) (by decide) hg)
        clear hss hks hks3 hxs3 hb3 hrp0 hbel f0 hrr BR
        obtain ⟨ss, hsl, hown, hres⟩ := hss3
        obtain ⟨pa, pn, pc, rfl⟩ := hrp.shape
        have hlk := unhide hX
        have hown3 := hide (fun o => (hlk ▸ hown : World.ownsRow w3 (w.heap.size + 2) 24 1 _ (k) ss).alloc o)
        have hbse := hide (ownsRow_base hown)
        have hone := hide (one_val w3 (.slice pa pn pc) 24)
        have honep := hide (one_plain' pa pn pc)
        have hsn := hide (fun w' o v' hg ho => SS.snoc (w3 := w') (o := o) (v' := v') hlk hsl hown hres hrp hg ho)
        have hb63 : (k) + 1 ≤ maxLen := by unfold maxLen; omega
        have hby : ((k) + 1) * 24 ≤ 140737488355328 := by omega
        have hbase : w.heap.size + 2 ≤ w3.heap.size + 1 := by have := B3.size; omega
        clear hown hres hrp hsl hlk
        go_wp2_with (at_builtin; refine wpList_append_own _ rfl (.tmp 34) (.tmp 37) 58 rfl (w.heap.size + 2) 24 i0 (.slice none 0 0) 1 24 Tryz.underlying58 hi hz0 hz1 hz2 rfl (by decide) _ (k) ss rfl ((unhide hown3) _) ⟨w3.heap.size, 0, none⟩ 1 1 [.slice pa pn pc] rfl rfl (unhide hone) (unhide honep) hb63 hby (by simpa using hbase) ?_)
        intro v' w4 ho' hg' _
        have hss' := hide ((unhide hsn) _ _ _ hg' ho')
        have B4 : Below (w.heap.size + 2) w1 w4 := (B3.alloc (by have := B3.size; omega) _).grown hg' (by simpa using hbase) (unhide hbse)
        have hks4 := hide ((unhide HKG) _ _ hg')
        rw [unhide hsucc] at hss'
        clear hg' ho' B3 HKG
        go_wp2_with fail
        go_roundg (m - (k + 1))
        case rel => exact ⟨k + 1, rfl, by go_num, by omega, unhide hss', unhide hks4, B4⟩
        case measure => have := hg.out; omega
      · have hke : k = m := by omega
        subst hke
        have hss2 := hss.out
        have hXl := hide (nums_length k)
        obtain ⟨la, lc, hsh, hlc, hlv⟩ := hss2.lv (valid_ne (unhide HALL).1)
        subst hsh
        have hRr := HR0'.below hbel (by omega)
        have hwr : w.heap.size < wr.heap.size := hRr.lt
        clear hss hks f0 hss2
        go_wp2_with fail
        refine (l1ArrayV_any la lc (nums (k)) _ hlv hlc (by rw [unhide hXl]; omega) (unhide HALL).1).mono ?_
        rintro e3 w3 ⟨s2, rfl, hr2, hb3⟩
        have hR2 := hRr.below hb3 hRr.lt
        have r0 := hR2.cell 0
        have r1 := hR2.cell 1
        have z0 := hR2.frozen 0
        have z1 := hR2.frozen 1
        simp only [List.getElem?_cons_zero, List.getElem?_cons_succ] at r0 r1
        have HE := hide (Ans.store hr2 BR hwr hb3)
        obtain ⟨ac, mc, cc, rfl⟩ := hr2.shape
        clear hr2 hb3 hlv
        go_wp2_with fail
        refine bodyPost_ret (v := .agg #[.int .i64 0, .slice ac mc cc]) (by simp [results, Tryz.results33, go_sem, r0, r1]) rfl (ans_of (unhide fin) ((unhide HE) _ _).1 ((unhide HE) _ _).2)
  by_cases k6 : (v.getD 0 M.zero).kind = 6
  · have fin := hide (keys_6 k6)
    have HALL := hide (strs_all (ks := keysAt v 0) (by rw [keysAt_length]; omega) (keys_text hv))
    have HK := hide (fun w' (r : Row w' b off v) hb' => l1Keys_any v b off cap w' hv r hb' hcap hok)
    have hkl := keysAt_length v 0
    have K := hide k6
    obtain ⟨c, hc⟩ : ∃ c, c = v.getD 0 M.zero := ⟨_, rfl⟩
    rw [← hc] at f0 f1 f2 f3 f4 k6
    rw [k6] at f0
    clear hc q0
    have hh := hide (l1Holds_yes 6 c.num c.n c.text c.key (w.alloc (.cells #[.int .i64 0, .slice none 0 0] 26)) (by decide))
    obtain ⟨w0, hw0⟩ : ∃ w0, w0 = (w.alloc (.cells #[.int .i64 0, .slice none 0 0] 26)).alloc (.cells #[.int .i64 6, .int .i64 c.num, .string c.text, .string c.key, .int .i64 c.n] 40) := ⟨_, rfl⟩
    have hs0 : w0.heap.size = w.heap.size + 2 := by rw [hw0]; simp
    have HR0' : Own w0 w.heap.size 26 [.int .i64 0, .slice none 0 0] := by rw [hw0]; exact (unhide HR0).alloc _
    have B00 : Below w.heap.size w w0 := by rw [hw0]; exact ((unhide HB0) _).alloc (by simp) _
    have HS0 := hide (SS.empty w0 (w.heap.size + 2) (w.heap.size + 2) hs0.symm (Nat.le_refl _))
    clear k6 k5 hok
    go_enter Tryz.func33, Tryz.ntmps33
    go_wp2_with fail
    refine (unhide hh).mono ?_
    rintro e1 w1 ⟨rfl, hw1⟩
    rw [← hw0] at hw1
    subst hw1
    clear hw0 f0 f1 f2 f3 f4 hh
    go_wp2_with fail
    refine ((unhide HK) _ (hrow.below (B00.alloc (by omega) _) hb) (by simp; omega)).mono ?_
    rintro e2 w2 ⟨s1, rfl, hk2, hb2⟩
    obtain ⟨ka, kc, rfl, hkc, _⟩ := hk2.tv
    rw [hkl] at hkc ⊢
    have hss2 := (unhide HS0).below hb2
    have B2 : Below (w.heap.size + 2) w1 w2 := ((Below.refl _ _).alloc (by omega) _).trans (hb2.mono (by simp; omega))
    have HK2 := hide hk2
    have HKL := hide hkl
    clear hb2 hk2 hkl HK HS0
    generalize hm : M.arity v 0 = m at *
    obtain ⟨i0, hi, hz0, hz1, hz2⟩ := info_parts Tryz.info24
    go_wp2_with fail
    go_loopg [3, 5] m (fun gh s3 s5 wr => ∃ k : Nat, Hid (gh = m - k) ∧ s5 = .int .i64 k ∧ k ≤ m ∧ Hid (SS wr (w.heap.size + 2) s3 (strs ((keysAt v 0).take k))) ∧ Hid (KS wr (w1.alloc (.cells #[] 24)).heap.size (.slice ka m kc) (keysAt v 0)) ∧ Below (w.heap.size + 2) w1 wr)
    case atStart => exact ⟨0, rfl, rfl, by omega, hss2, by rw [unhide HKL] at HK2; exact unhide HK2, B2⟩
    case round =>
      clear hss2 HK2 B2
      obtain ⟨k, hg, rfl, hk, hss, hks, hbel⟩ := hrel
      have BR : Below w.heap.size w wr := B00.trans (hbel.mono (by omega))
      have hrr := hrow.below BR hb
      obtain ⟨f0, _, _, _, _⟩ := hrr 0 (by omega)
      simp only [Nat.zero_mul, Nat.add_zero] at f0
      by_cases hlt : k < m
      · obtain ⟨ka', kc', heq, _, htv⟩ := (hks.out).tv
        rw [unhide HKL] at heq
        cases heq
        obtain ⟨g, rfl, hgl, fk⟩ := htv k (by rw [unhide HKL]; exact hlt)
        have hsucc := hide (strs_succ (keysAt v 0) k (by rw [unhide HKL]; exact hlt))
        have hX := hide (show (strs ((keysAt v 0).take k)).length = k by rw [strs_length, List.length_take, unhide HKL]; omega)
        generalize (keysAt v 0).getD k ByteArray.empty = ky at *
        rw [show (v.getD 0 M.zero).kind = 6 from unhide K] at f0
        go_wp2_with fail
        refine (l1String_any _ _).mono ?_
        rintro e3 w3 ⟨sp, rfl, hrp0, hb3⟩
        have B3 : Below (w.heap.size + 2) w1 w3 := hbel.trans (hb3.mono (by have := hbel.size; omega))
        have hrp : Res w3 (w.heap.size + 2) sp [strCl ky] := hrp0.mono (by have := hbel.size; omega)
        have hss3 := (hss.out).below hb3
        have hks3 := (hks.out).below hb3
        obtain ⟨xs3, hxs3⟩ := hss3.ownsRow
        have HKG := hide (fun (w' : World) o hg => (hks3.alloc o).grown (w' := w') (hxs3.alloc o) (by decide) hg)
        clear hss hks hks3 hxs3 hb3 hrp0 hbel f0 fk htv hrr BR
        obtain ⟨ss, hsl, hown, hres⟩ := hss3
        obtain ⟨pa, pn, pc, rfl⟩ := hrp.shape
        have hlk := unhide hX
        have hown3 := hide (fun o => (hlk ▸ hown : World.ownsRow w3 (w.heap.size + 2) 24 1 _ (k) ss).alloc o)
        have hbse := hide (ownsRow_base hown)
        have hone := hide (one_val w3 (.slice pa pn pc) 24)
        have honep := hide (one_plain' pa pn pc)
        have hsn := hide (fun w' o v' hg ho => SS.snoc (w3 := w') (o := o) (v' := v') hlk hsl hown hres hrp hg ho)
        have hb63 : (k) + 1 ≤ maxLen := by unfold maxLen; omega
        have hby : ((k) + 1) * 24 ≤ 140737488355328 := by omega
        have hbase : w.heap.size + 2 ≤ w3.heap.size + 1 := by have := B3.size; omega
        clear hown hres hrp hsl hlk
        go_wp2_with (at_builtin; refine wpList_append_own _ rfl (.tmp 26) (.tmp 32) 58 rfl (w.heap.size + 2) 24 i0 (.slice none 0 0) 1 24 Tryz.underlying58 hi hz0 hz1 hz2 rfl (by decide) _ (k) ss rfl ((unhide hown3) _) ⟨w3.heap.size, 0, none⟩ 1 1 [.slice pa pn pc] rfl rfl (unhide hone) (unhide honep) hb63 hby (by simpa using hbase) ?_)
        intro v' w4 ho' hg' _
        have hss' := hide ((unhide hsn) _ _ _ hg' ho')
        have B4 : Below (w.heap.size + 2) w1 w4 := (B3.alloc (by have := B3.size; omega) _).grown hg' (by simpa using hbase) (unhide hbse)
        have hks4 := hide ((unhide HKG) _ _ hg')
        rw [unhide hsucc] at hss'
        clear hg' ho' B3 HKG
        go_wp2_with fail
        go_roundg (m - (k + 1))
        case rel => exact ⟨k + 1, rfl, by go_num, by omega, unhide hss', unhide hks4, B4⟩
        case measure => have := hg.out; omega
      · have hke : k = m := by omega
        subst hke
        have hss2 := hss.out
        rw [List.take_of_length_le (by rw [unhide HKL]; exact Nat.le_refl _)] at hss2
        have hXl := hide (show (strs (keysAt v 0)).length = k by rw [strs_length, unhide HKL])
        obtain ⟨la, lc, hsh, hlc, hlv⟩ := hss2.lv (valid_ne (unhide HALL).1)
        subst hsh
        have hRr := HR0'.below hbel (by omega)
        have hwr : w.heap.size < wr.heap.size := hRr.lt
        clear hss hks f0 hss2
        go_wp2_with fail
        refine (l1ArrayV_any la lc (strs (keysAt v 0)) _ hlv hlc (by rw [unhide hXl]; omega) (unhide HALL).1).mono ?_
        rintro e3 w3 ⟨s2, rfl, hr2, hb3⟩
        have hR2 := hRr.below hb3 hRr.lt
        have r0 := hR2.cell 0
        have r1 := hR2.cell 1
        have z0 := hR2.frozen 0
        have z1 := hR2.frozen 1
        simp only [List.getElem?_cons_zero, List.getElem?_cons_succ] at r0 r1
        have HE := hide (Ans.store hr2 BR hwr hb3)
        obtain ⟨ac, mc, cc, rfl⟩ := hr2.shape
        clear hr2 hb3 hlv
        go_wp2_with fail
        refine bodyPost_ret (v := .agg #[.int .i64 0, .slice ac mc cc]) (by simp [results, Tryz.results33, go_sem, r0, r1]) rfl (ans_of (unhide fin) ((unhide HE) _ _).1 ((unhide HE) _ _).2)
  · have fin := hide (keys_no k5 k6)
    generalize v.getD 0 M.zero = c at *
    have hh := hide (l1Holds_no c.kind c.num c.n c.text c.key (w.alloc (.cells #[.int .i64 0, .slice none 0 0] 26)) (by omega))
    clear k5 k6 hok
    go_enter Tryz.func33, Tryz.ntmps33
    go_wp2_with fail
    refine (unhide hh).mono ?_
    rintro e1 w1 ⟨rfl, rfl⟩
    clear f0 f1 f2 f3 f4 hh
    have hRA : ∀ o, Own ((w.alloc (.cells #[.int .i64 0, .slice none 0 0] 26)).alloc o) w.heap.size 26 [.int .i64 0, .slice none 0 0] := fun o => (unhide HR0).alloc o
    have hBA : ∀ o o', Below w.heap.size w ((w.alloc o).alloc o') := fun o o' => ((unhide HB0) o).alloc (by simp) o'
    go_wp2_with fail
    refine (l3Bad_any _ _).mono ?_
    rintro ec wc ⟨sc, rfl, hrc, hbc⟩
    have hRc := (hRA _).below hbc (hRA _).lt
    have r0 := hRc.cell 0
    have r1 := hRc.cell 1
    have z0 := hRc.frozen 0
    have z1 := hRc.frozen 1
    simp only [List.getElem?_cons_zero, List.getElem?_cons_succ] at r0 r1
    have HE := hide (Ans.store hrc (hBA _ _) (hRA _).lt hbc)
    obtain ⟨ac, mc, cc, rfl⟩ := hrc.shape
    clear hrc hbc
    go_wp2_with fail
    refine bodyPost_ret (v := .agg #[.int .i64 6, .slice ac mc cc]) (by simp [results, Tryz.results33, go_sem, r0, r1]) rfl (ans_of (unhide fin) ((unhide HE) _ _).1 ((unhide HE) _ _).2)

end Go.Proofs.YtcolohilnmikiaaGreat

namespace Go.Proofs.YtcolohilnmikiaaGreat
open Go.RowKit
set_option linter.unusedVariables false

set_option maxRecDepth 100000 in
set_option maxHeartbeats 4000000 in
theorem stringArray_any (a : Option Addr) (cap : Nat) (ks : List ByteArray) (w : World) (hT : TV w a ks) (hcap : ks.length ≤ cap) (hn : ks.length ≤ 199) (ht : TextsOk ks) :
    Calls Tryz.prog 44 #[.slice a ks.length cap] w (Ans w (0, arrV (strs ks))) := by
  have HALL := hide (strs_all hn ht)
  have HTV := hide hT
  have B0 : ∀ o, Below w.heap.size w (w.alloc o) := fun o => (Below.refl _ _).alloc (Nat.le_refl _) o
  have HB0 := hide B0
  clear B0
  have hR0 : Own (w.alloc (.cells #[.int .i64 0, .slice none 0 0] 26)) w.heap.size 26 [.int .i64 0, .slice none 0 0] := ⟨_, heap_alloc_new _ _, rfl⟩
  have HR0 := hide hR0
  clear hR0 hT ht
  obtain ⟨i0, hi, hz0, hz1, hz2⟩ := info_parts Tryz.info24
  obtain ⟨w0, hw0⟩ : ∃ w0, w0 = w.alloc (.cells #[.int .i64 0, .slice none 0 0] 26) := ⟨_, rfl⟩
  have hs0 : w0.heap.size = w.heap.size + 1 := by rw [hw0]; simp
  rw [← hw0] at HR0
  have B00 : Below w.heap.size w w0 := by rw [hw0]; exact (unhide HB0) _
  go_enter Tryz.func44, Tryz.ntmps44
  go_wp2_with fail
  rw [← hw0]
  clear hw0
  go_loopg [3, 8] ks.length (fun gh s3 s8 wr => ∃ k : Nat, Hid (gh = ks.length - k) ∧ s8 = .int .i64 k ∧ k ≤ ks.length ∧ Hid (SS wr (w.heap.size + 1) s3 (strs (ks.take k))) ∧ Below (w.heap.size + 1) w0 wr)
  case atStart => exact ⟨0, rfl, rfl, by omega, SS.nil _ _, Below.refl _ _⟩
  case round =>
    obtain ⟨k, hg, rfl, hk, hss, hbel⟩ := hrel
    have BR : Below w.heap.size w wr := B00.trans (hbel.mono (by omega))
    by_cases hlt : k < ks.length
    · obtain ⟨g, rfl, hgl, fk⟩ := ((unhide HTV).below BR) k hlt
      have hsucc := hide (strs_succ ks k hlt)
      have hX := hide (show (strs (ks.take k)).length = k by rw [strs_length, List.length_take]; omega)
      generalize ks.getD k ByteArray.empty = ky at *
      obtain ⟨w1, hw1⟩ : ∃ w1, w1 = wr.alloc (.cells #[.int .i64 4, .int .i64 0, .string ky, .string ByteArray.empty, .int .i64 0] 40) := ⟨_, rfl⟩
      have hs1 : w1.heap.size = wr.heap.size + 1 := by rw [hw1]; simp
      have hrp : Res w1 (w.heap.size + 1) (.slice (some ⟨wr.heap.size, 0, none⟩) 1 1) [strCl ky] := by rw [hw1]; exact one_cell wr (w.heap.size + 1) wr.heap.size (strCl ky) rfl (by have := hbel.size; omega)
      have hss1 : SS w1 (w.heap.size + 1) u3 (strs (ks.take k)) := by rw [hw1]; exact (hss.out).alloc _
      have B1 : Below (w.heap.size + 1) w0 w1 := by rw [hw1]; exact hbel.alloc (by have := hbel.size; omega) _
      clear hss hbel
      obtain ⟨ss, hsl, hown, hres⟩ := hss1
      have hlk := unhide hX
      have hown3 := hide (fun o => (hlk ▸ hown : World.ownsRow w1 (w.heap.size + 1) 24 1 _ k ss).alloc o)
      have hbse := hide (ownsRow_base hown)
      have hone := hide (one_val w1 (.slice (some ⟨wr.heap.size, 0, none⟩) 1 1) 24)
      have honep := hide (one_plain' (some ⟨wr.heap.size, 0, none⟩) 1 1)
      have hsn := hide (fun w' o v' hg ho => SS.snoc (w3 := w') (o := o) (v' := v') hlk hsl hown hres hrp hg ho)
      have hb63 : k + 1 ≤ maxLen := by unfold maxLen; omega
      have hby : (k + 1) * 24 ≤ 140737488355328 := by omega
      have hbase : w.heap.size + 1 ≤ w1.heap.size + 1 := by have := B1.size; omega
      have B1' := hide (fun o => B1.alloc (by have := B1.size; omega) o)
      rw [hs1] at hone hbase
      rw [hw1] at hown3 hone hsn B1'
      clear hown hres hrp hsl hlk B1 hw1 hs1
      go_wp2_with (at_builtin; refine wpList_append_own _ rfl (.tmp 12) (.tmp 16) 58 rfl (w.heap.size + 1) 24 i0 (.slice none 0 0) 1 24 Tryz.underlying58 hi hz0 hz1 hz2 rfl (by decide) _ k ss rfl ((unhide hown3) _) ⟨wr.heap.size + 1, 0, none⟩ 1 1 [.slice (some ⟨wr.heap.size, 0, none⟩) 1 1] rfl rfl (unhide hone) (unhide honep) hb63 hby (by simp; omega) ?_)
      intro v' w2 ho' hg' _
      have hss' := hide ((unhide hsn) _ _ _ hg' ho')
      have B2 : Below (w.heap.size + 1) w0 w2 := ((unhide B1') _).grown hg' (by simp; omega) (unhide hbse)
      rw [unhide hsucc] at hss'
      clear hg' ho' B1' fk
      go_wp2_with fail
      go_roundg (ks.length - (k + 1))
      case rel => exact ⟨k + 1, rfl, by go_num, by omega, unhide hss', B2⟩
      case measure => have := hg.out; omega
    · have hke : k = ks.length := by omega
      have hss2 := hss.out
      rw [List.take_of_length_le (by omega)] at hss2
      obtain ⟨la, lc, hsh, hlc, hlv⟩ := hss2.lv (valid_ne (unhide HALL).1)
      subst hsh
      have hRr := (unhide HR0).below hbel (by omega)
      have hwr : w.heap.size < wr.heap.size := hRr.lt
      have HNL := hide (strs_length ks)
      clear hss hss2 hke
      go_wp2_with fail
      refine (layArrayV_any la lc (strs ks) _ hlv hlc (by rw [unhide HNL]; omega) (unhide HALL).1).mono ?_
      rintro e2 w2 ⟨s2, rfl, hr2, hb2⟩
      have hR2 := hRr.below hb2 hRr.lt
      have B2 : Below w.heap.size w w2 := BR.trans (hb2.mono BR.size)
      have hsz2 := hb2.size
      have HT := hide (implTold_any s2 _ _ w2 hr2 hb2.size (arrV_ne (strs ks)) (arrV_le (by rw [unhide HNL]; omega) (unhide HALL).1) (arrK_ok (strs ks) (by rw [unhide HNL]; omega) (unhide HALL).2.1 _ (Nat.le_refl _)))
      rw [told_ok (unhide HALL).2.2] at HT
      obtain ⟨at2, mt2, ct2, rfl⟩ := hr2.shape
      clear hr2 hb2 hlv
      go_wp2_with fail
      refine (unhide HT).mono ?_
      rintro e3 w3 ⟨s3, rfl, hr3, hb3⟩
      have hR3 := hR2.below hb3 hR2.lt
      have r0 := hR3.cell 0
      have r1 := hR3.cell 1
      have z0 := hR3.frozen 0
      have z1 := hR3.frozen 1
      simp only [List.getElem?_cons_zero, List.getElem?_cons_succ] at r0 r1
      have HE := hide (Ans.storeC hr3 hwr (B2.trans (hb3.mono B2.size)))
      obtain ⟨ac, mc, cc, rfl⟩ := hr3.shape
      clear hr3 hb3 HT
      go_wp2_with fail
      refine bodyPost_ret (v := .agg #[.int .i64 0, .slice ac mc cc]) (by simp [results, Tryz.results44, go_sem, r0, r1]) rfl (ans_of rfl ((unhide HE) _ _).1 ((unhide HE) _ _).2)

set_option maxRecDepth 100000 in
set_option maxHeartbeats 4000000 in
theorem implKeysOf_any (v : List M.Cl) (b off cap : Nat) (w : World) (hrow : Row w b off v) (hb : b < w.heap.size) (hn : v.length ≤ 1048576) (hcap : v.length ≤ cap) (hok : ∀ c ∈ v, c.ok) :
    Calls Tryz.prog 21 #[.slice (some ⟨b, off, none⟩) v.length cap] w (Ans w (keysOut v)) := by
  have OK := hide hok
  have B0 : ∀ o, Below w.heap.size w (w.alloc o) := fun o => (Below.refl _ _).alloc (Nat.le_refl _) o
  have HB0 := hide B0
  clear B0
  clear hok
  go_enter Tryz.func21, Tryz.ntmps21
  go_wp2_with fail
  refine (implFault_any v b off cap _ (hrow.below ((unhide HB0) _) hb) (by simp; omega) hn hcap (unhide OK)).mono ?_
  rintro e1 w1 ⟨rfl, hb1⟩
  have hR : Own w1 w.heap.size 26 [.int .i64 0, .slice none 0 0] := Own.below ⟨_, heap_alloc_new _ _, rfl⟩ hb1 (by simp)
  have B1 : Below w.heap.size w w1 := ((unhide HB0) _).trans (hb1.mono (by simp))
  have hrow1 := hrow.below B1 hb
  have hb1' : b < w1.heap.size := Nat.lt_of_lt_of_le hb B1.size
  clear hb1
  by_cases hv : M.valueFault v = 0
  · rw [hv]
    have fin := hide (keys_ok hv)
    have hl1 := (M.fault_zero hv).1
    have hl2 := (M.fault_zero hv).2.1
    have harl := arity_lt hv
    have hN := M.fits_getD (M.fits_of hv) 0
    have hNA : (v.getD 0 M.zero).n = (M.arity v 0 : Int) := by unfold M.arity; omega
    obtain ⟨f0, _, _, _, f4⟩ := hrow1 0 (by omega)
    simp only [Nat.zero_mul, Nat.add_zero] at f0 f4
    rw [hNA] at f4
    by_cases k5 : (v.getD 0 M.zero).kind = 5
    · have fin2 := hide ((unhide fin).trans (keys_5 k5))
      have HG := hide (implRange_any (M.arity v 0 : Int) w1 (by omega) (by omega))
      rw [rng_ok (n := (M.arity v 0 : Int)) (by omega), Int.toNat_natCast] at HG
      rw [k5] at f0
      clear k5 hv hNA hN
      generalize M.arity v 0 = m at *
      go_wp2_with fail
      refine (unhide HG).mono ?_
      rintro ec wc ⟨sc, rfl, hrc, hbc⟩
      have hRc := hR.below hbc hR.lt
      have r0 := hRc.cell 0
      have r1 := hRc.cell 1
      have z0 := hRc.frozen 0
      have z1 := hRc.frozen 1
      simp only [List.getElem?_cons_zero, List.getElem?_cons_succ] at r0 r1
      have HE := hide (Ans.store hrc B1 hR.lt hbc)
      obtain ⟨ac, mc, cc, rfl⟩ := hrc.shape
      clear f0 f4 hrc hbc
      go_wp2_with fail
      refine bodyPost_ret (v := .agg #[.int .i64 0, .slice ac mc cc]) (by simp [results, Tryz.results21, go_sem, r0, r1]) rfl (ans_of (unhide fin2) ((unhide HE) _ _).1 ((unhide HE) _ _).2)
    by_cases k6 : (v.getD 0 M.zero).kind = 6
    · have fin2 := hide ((unhide fin).trans (keys_6 k6))
      have HK := hide (keysIn_any v b off cap w1 hv hrow1 hb1' hcap)
      have HT := hide (keys_text hv)
      have HKL := hide (keysAt_length v 0)
      rw [k6] at f0
      clear k5 k6 hv hNA hN
      go_wp2_with fail
      refine (unhide HK).mono ?_
      rintro e2 w2 ⟨s2, rfl, hk2, hb2⟩
      obtain ⟨ka, kc, rfl, hkc, htv⟩ := hk2.tv
      have hR2 := hR.below hb2 hR.lt
      have B2 : Below w.heap.size w w2 := B1.trans (hb2.mono B1.size)
      have HG := hide (stringArray_any ka kc (keysAt v 0) w2 htv hkc (by rw [unhide HKL]; omega) (unhide HT))
      clear hb2 hk2 htv HK f0 f4
      go_wp2_with fail
      refine (unhide HG).mono ?_
      rintro ec wc ⟨sc, rfl, hrc, hbc⟩
      have hRc := hR2.below hbc hR2.lt
      have r0 := hRc.cell 0
      have r1 := hRc.cell 1
      have z0 := hRc.frozen 0
      have z1 := hRc.frozen 1
      simp only [List.getElem?_cons_zero, List.getElem?_cons_succ] at r0 r1
      have HE := hide (Ans.store hrc B2 hR2.lt hbc)
      obtain ⟨ac, mc, cc, rfl⟩ := hrc.shape
      clear hrc hbc
      go_wp2_with fail
      refine bodyPost_ret (v := .agg #[.int .i64 0, .slice ac mc cc]) (by simp [results, Tryz.results21, go_sem, r0, r1]) rfl (ans_of (unhide fin2) ((unhide HE) _ _).1 ((unhide HE) _ _).2)
    · have fin2 := hide ((unhide fin).trans (keys_no k5 k6))
      generalize v.getD 0 M.zero = c at *
      have e5 : (c.kind == 5) = false := by simp [k5]
      have e6 : (c.kind == 6) = false := by simp [k6]
      have r0 := hR.cell 0
      have r1 := hR.cell 1
      have z0 := hR.frozen 0
      have z1 := hR.frozen 1
      simp only [List.getElem?_cons_zero, List.getElem?_cons_succ] at r0 r1
      clear k5 k6 fin hv hNA hN
      go_wp2_with fail
      refine bodyPost_ret (v := .agg #[.int .i64 6, .slice none 0 0]) (by simp [results, Tryz.results21, go_sem, r0, r1]) rfl (ans_of (unhide fin2) (resNil _ _) (store_below B1 _ _))
  · have fin := hide (keys_bad hv)
    generalize M.valueFault v = q at *
    have hz' : (q == 0) = false := by simp [hv]
    have r0 := hR.cell 0
    have r1 := hR.cell 1
    have z0 := hR.frozen 0
    have z1 := hR.frozen 1
    simp only [List.getElem?_cons_zero, List.getElem?_cons_succ] at r0 r1
    clear hv
    go_wp2_with fail
    refine bodyPost_ret (v := .agg #[.int .i64 q, .slice none 0 0]) (by simp [results, Tryz.results21, go_sem, r0, r1]) rfl (ans_of (unhide fin) (resNil _ _) (store_below B1 _ _))

end Go.Proofs.YtcolohilnmikiaaGreat
