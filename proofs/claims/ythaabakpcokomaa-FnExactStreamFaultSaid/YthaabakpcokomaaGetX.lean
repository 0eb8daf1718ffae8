/-
  spec.GetIndex and impl.GetIndex.
-/
import Derived.Test.YthaabakpcokomaaGetK
namespace Go.Proofs.Ythaabakpcokomaa
open Go.RowKit
set_option linter.unusedVariables false

set_option maxRecDepth 100000 in
set_option maxHeartbeats 2000000 in
theorem l3Index_any (v : List M.Cl) (b off cap : Nat) (n : Int) (w : World) (hv : M.valueFault v = 0) (hrow : Row w b off v) (hb : b < w.heap.size) (hcap : v.length ≤ cap) (hok : ∀ c ∈ v, c.ok) (n0 : -9223372036854775808 ≤ n) (n1 : n ≤ 9223372036854775807) :
    Calls Try.prog 124 #[.slice (some ⟨b, off, none⟩) v.length cap, .int .i64 n] w (Ans w (idxOut v n)) := by
  have hl1 := (M.fault_zero hv).1
  have hl2 := (M.fault_zero hv).2.1
  have HV := hide hv
  have OK := hide hok
  have B0 : ∀ o, Below w.heap.size w (w.alloc o) := fun o => (Below.refl _ _).alloc (Nat.le_refl _) o
  have HB0 := hide B0
  clear B0
  have hR0 : Own (w.alloc (.cells #[.int .i64 0, .slice none 0 0] 36)) w.heap.size 36 [.int .i64 0, .slice none 0 0] := ⟨_, heap_alloc_new _ _, rfl⟩
  have g := hrow 0 (by omega)
  have g0 := g.1
  have g4 := g.2.2.2.2
  simp only [Nat.zero_mul, Nat.add_zero] at g0 g4
  clear g
  have HR0 := hide hR0
  clear hR0
  have hA := (M.places_in hv 0 (by omega)).2.2.2
  have hN := M.fits_getD (M.fits_of hv) 0
  have hNA : (v.getD 0 M.zero).n = (M.arity v 0 : Int) := by unfold M.arity; omega
  rw [hNA] at g4
  have gn : ∀ o, (w.alloc o).cell? ⟨b, off + 4, none⟩ = some (.int .i64 (M.arity v 0 : Int)) := fun o => (((unhide HB0) o).cell hb).trans g4
  clear g4
  by_cases k0 : (v.getD 0 M.zero).kind = 0
  · have fin := hide (idx_null (n := n) hv k0)
    have gz : ∀ o, (w.alloc o).cell? ⟨b, off, none⟩ = some (.int .i64 0) := fun o => (((unhide HB0) o).cell hb).trans (by rw [g0, k0])
    clear g0 k0 hv hok gn hNA hN
    go_enter Try.func124, Try.ntmps124
    go_wp2_with fail
    refine (l3Null_any _).mono ?_
    rintro ec wc ⟨sc, rfl, hrc, hbc⟩
    have hRc := (unhide HR0).below hbc (unhide HR0).lt
    have r0 := hRc.cell 0
    have r1 := hRc.cell 1
    have z0 := hRc.frozen 0
    have z1 := hRc.frozen 1
    simp only [List.getElem?_cons_zero, List.getElem?_cons_succ] at r0 r1
    have HE := hide (Ans.store hrc ((unhide HB0) _) (unhide HR0).lt hbc)
    obtain ⟨ac, mc, cc, rfl⟩ := hrc.shape
    clear gz hrc hbc
    go_wp2_with fail
    refine bodyPost_ret (v := .agg #[.int .i64 0, .slice ac mc cc]) (by simp [results, Try.results124, go_sem, r0, r1]) rfl (ans_of (unhide fin) ((unhide HE) _ _).1 ((unhide HE) _ _).2)
  by_cases k5 : (v.getD 0 M.zero).kind = 5
  · have fin := hide (idx_some (v := v) (n := n) (.inr k5))
    have gz : ∀ o, (w.alloc o).cell? ⟨b, off, none⟩ = some (.int .i64 5) := fun o => (((unhide HB0) o).cell hb).trans (by rw [g0, k5])
    have HP := hide (fun w' (r : Row w' b off v) hb' => l1Parts_any v b off cap w' hv r hb' hcap hok)
    have HSL := hide (subs_length v 0)
    have hget2 := hide (fun i (hi : i < M.arity v 0) => subs_getD' v i hi)
    have hout := hide (fun h => idx_out (v := v) (n := n) h)
    have hneg := hide (fun k h1 h2 h3 => idx_neg (v := v) (n := n) (k := k) h1 h2 h3)
    have hpos := hide (fun k h => idx_pos (v := v) (k := k) h)
    have hrowA : ∀ o, Row (w.alloc o) b off v := fun o => hrow.below ((unhide HB0) _) hb
    have hbA : ∀ o, b < (w.alloc o).heap.size := fun o => by simp; omega
    have HRA := hide hrowA
    have HBA := hide hbA
    clear g0 k0 k5 hok hNA hN hrowA hbA hv
    generalize M.arity v 0 = m at *
    by_cases h1 : n < 0
    · have hd1 : decide (n < 0) = true := decide_eq_true h1
      by_cases h2 : n < -(m : Int)
      · have fin2 := hide ((unhide fin).trans (by rw [(unhide hout) (.inl h2)]))
        clear hout hneg hpos
        go_enter Try.func124, Try.ntmps124
        go_wp2_with fail
        refine (l1In_no _ _ _ _ (.inl (by omega))).mono ?_; rintro e w' ⟨rfl, rfl⟩
        go_wp2_with fail
        refine (l3Null_any _).mono ?_
        rintro ec wc ⟨sc, rfl, hrc, hbc⟩
        have hRc := (unhide HR0).below hbc (unhide HR0).lt
        have r0 := hRc.cell 0
        have r1 := hRc.cell 1
        have z0 := hRc.frozen 0
        have z1 := hRc.frozen 1
        simp only [List.getElem?_cons_zero, List.getElem?_cons_succ] at r0 r1
        have HE := hide (Ans.store hrc ((unhide HB0) _) (unhide HR0).lt hbc)
        obtain ⟨ac, mc, cc, rfl⟩ := hrc.shape
        clear gz gn hrc hbc
        go_wp2_with fail
        refine bodyPost_ret (v := .agg #[.int .i64 0, .slice ac mc cc]) (by simp [results, Try.results124, go_sem, r0, r1]) rfl (ans_of (unhide fin2) ((unhide HE) _ _).1 ((unhide HE) _ _).2)
      · obtain ⟨k, hk⟩ := Int.eq_ofNat_of_zero_le (show 0 ≤ n + (m : Int) by omega)
        have fin2 := hide ((unhide fin).trans (by rw [(unhide hneg) k (by omega) h1 hk]))
        have hkm : k < m := by omega
        obtain rfl : n = (k : Int) - (m : Int) := by omega
        have hsum : (k : Int) - (m : Int) + (m : Int) = (k : Int) := by omega
        clear hk hout hneg hpos
        go_enter Try.func124, Try.ntmps124
        go_wp2_with fail
        try rw [hsum]
        refine (l1In_yes _ _ _ _ (by omega) (by omega)).mono ?_; rintro e w' ⟨rfl, rfl⟩
        go_wp2_with fail
        refine ((unhide HP) _ ((unhide HRA) _) ((unhide HBA) _)).mono ?_
        rintro e2 w2 ⟨s2, rfl, hs2, hb2⟩
        obtain ⟨g2, cap2, s3, rfl, hcap2, f2, hr2⟩ := hs2.at (i := k) (by rw [unhide HSL]; omega)
        rw [(unhide hget2) k (by omega)] at hr2
        rw [unhide HSL] at hcap2 ⊢
        have hR2 := (unhide HR0).below hb2 (unhide HR0).lt
        have r0 := hR2.cell 0
        have r1 := hR2.cell 1
        have z0 := hR2.frozen 0
        have z1 := hR2.frozen 1
        simp only [List.getElem?_cons_zero, List.getElem?_cons_succ] at r0 r1
        have HE := hide (Ans.store hr2 ((unhide HB0) _) (unhide HR0).lt hb2)
        obtain ⟨ac, mc, cc, rfl⟩ := hr2.shape
        clear hr2 hb2 hs2
        go_wp2_with fail
        refine bodyPost_ret (v := .agg #[.int .i64 0, .slice ac mc cc]) (by simp [results, Try.results124, go_sem, r0, r1]) rfl (ans_of (unhide fin2) ((unhide HE) _ _).1 ((unhide HE) _ _).2)
    · obtain ⟨k, rfl⟩ := Int.eq_ofNat_of_zero_le (show 0 ≤ n by omega)
      by_cases h2 : m ≤ k
      · have fin2 := hide ((unhide fin).trans (by rw [(unhide hout) (.inr (by omega))]))
        clear hout hneg hpos
        go_enter Try.func124, Try.ntmps124
        go_wp2_with fail
        refine (l1In_no _ _ _ _ (.inr (by omega))).mono ?_; rintro e w' ⟨rfl, rfl⟩
        go_wp2_with fail
        refine (l3Null_any _).mono ?_
        rintro ec wc ⟨sc, rfl, hrc, hbc⟩
        have hRc := (unhide HR0).below hbc (unhide HR0).lt
        have r0 := hRc.cell 0
        have r1 := hRc.cell 1
        have z0 := hRc.frozen 0
        have z1 := hRc.frozen 1
        simp only [List.getElem?_cons_zero, List.getElem?_cons_succ] at r0 r1
        have HE := hide (Ans.store hrc ((unhide HB0) _) (unhide HR0).lt hbc)
        obtain ⟨ac, mc, cc, rfl⟩ := hrc.shape
        clear gz gn hrc hbc
        go_wp2_with fail
        refine bodyPost_ret (v := .agg #[.int .i64 0, .slice ac mc cc]) (by simp [results, Try.results124, go_sem, r0, r1]) rfl (ans_of (unhide fin2) ((unhide HE) _ _).1 ((unhide HE) _ _).2)
      · have fin2 := hide ((unhide fin).trans (by rw [(unhide hpos) k (by omega)]))
        have hkm : k < m := by omega
        clear hout hneg hpos
        go_enter Try.func124, Try.ntmps124
        go_wp2_with fail
        refine (l1In_yes _ _ _ _ (by omega) (by omega)).mono ?_; rintro e w' ⟨rfl, rfl⟩
        go_wp2_with fail
        refine ((unhide HP) _ ((unhide HRA) _) ((unhide HBA) _)).mono ?_
        rintro e2 w2 ⟨s2, rfl, hs2, hb2⟩
        obtain ⟨g2, cap2, s3, rfl, hcap2, f2, hr2⟩ := hs2.at (i := k) (by rw [unhide HSL]; omega)
        rw [(unhide hget2) k (by omega)] at hr2
        rw [unhide HSL] at hcap2 ⊢
        have hR2 := (unhide HR0).below hb2 (unhide HR0).lt
        have r0 := hR2.cell 0
        have r1 := hR2.cell 1
        have z0 := hR2.frozen 0
        have z1 := hR2.frozen 1
        simp only [List.getElem?_cons_zero, List.getElem?_cons_succ] at r0 r1
        have HE := hide (Ans.store hr2 ((unhide HB0) _) (unhide HR0).lt hb2)
        obtain ⟨ac, mc, cc, rfl⟩ := hr2.shape
        clear hr2 hb2 hs2
        go_wp2_with fail
        refine bodyPost_ret (v := .agg #[.int .i64 0, .slice ac mc cc]) (by simp [results, Try.results124, go_sem, r0, r1]) rfl (ans_of (unhide fin2) ((unhide HE) _ _).1 ((unhide HE) _ _).2)
  · have fin := hide (idx_kind (v := v) (n := n) k0 k5)
    generalize v.getD 0 M.zero = c at *
    have gz : ∀ o, (w.alloc o).cell? ⟨b, off, none⟩ = some (.int .i64 c.kind) := fun o => (((unhide HB0) o).cell hb).trans g0
    have e0 : (c.kind == 0) = false := by simp [k0]
    have n5 : (c.kind != 5) = true := by simp [k5]
    have e5 : (c.kind == 5) = false := by simp [k5]
    clear g0 k0 k5 hok gn hNA hN
    go_enter Try.func124, Try.ntmps124
    go_wp2_with fail
    refine (l3Bad_any _ _).mono ?_
    rintro ec wc ⟨sc, rfl, hrc, hbc⟩
    have hRc := (unhide HR0).below hbc (unhide HR0).lt
    have r0 := hRc.cell 0
    have r1 := hRc.cell 1
    have z0 := hRc.frozen 0
    have z1 := hRc.frozen 1
    simp only [List.getElem?_cons_zero, List.getElem?_cons_succ] at r0 r1
    have HE := hide (Ans.store hrc ((unhide HB0) _) (unhide HR0).lt hbc)
    obtain ⟨ac, mc, cc, rfl⟩ := hrc.shape
    clear gz e0 e5 n5 hrc hbc
    go_wp2_with fail
    refine bodyPost_ret (v := .agg #[.int .i64 6, .slice ac mc cc]) (by simp [results, Try.results124, go_sem, r0, r1]) rfl (ans_of (unhide fin) ((unhide HE) _ _).1 ((unhide HE) _ _).2)

end Go.Proofs.Ythaabakpcokomaa
