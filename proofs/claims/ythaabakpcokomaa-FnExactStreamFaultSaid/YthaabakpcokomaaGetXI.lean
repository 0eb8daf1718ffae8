/-
  impl.GetIndex.
-/
import Derived.Test.YthaabakpcokomaaGetX
namespace Go.Proofs.Ythaabakpcokomaa
open Go.RowKit
set_option linter.unusedVariables false

set_option maxRecDepth 100000 in
set_option maxHeartbeats 2000000 in
theorem implGetIndex_any (v : List M.Cl) (b off cap : Nat) (n : Int) (w : World) (hrow : Row w b off v) (hb : b < w.heap.size) (hn : v.length ≤ 1048576) (hcap : v.length ≤ cap) (hok : ∀ c ∈ v, c.ok) (n0 : -9223372036854775808 ≤ n) (n1 : n ≤ 9223372036854775807) :
    Calls Try.prog 143 #[.slice (some ⟨b, off, none⟩) v.length cap, .int .i64 n] w (Ans w (getIdxOut v n)) := by
  have OK := hide hok
  have B0 : ∀ o, Below w.heap.size w (w.alloc o) := fun o => (Below.refl _ _).alloc (Nat.le_refl _) o
  have HB0 := hide B0
  clear B0
  clear hok
  go_enter Try.func143, Try.ntmps143
  go_wp2_with fail
  refine (implFault_any v b off cap _ (hrow.below ((unhide HB0) _) hb) (by simp; omega) hn hcap (unhide OK)).mono ?_
  rintro e1 w1 ⟨rfl, hb1⟩
  have hR : Own w1 w.heap.size 36 [.int .i64 0, .slice none 0 0] := Own.below ⟨_, heap_alloc_new _ _, rfl⟩ hb1 (by simp)
  have B1 : Below w.heap.size w w1 := ((unhide HB0) _).trans (hb1.mono (by simp))
  have hrow1 := hrow.below B1 hb
  have hb1' : b < w1.heap.size := Nat.lt_of_lt_of_le hb B1.size
  clear hb1
  by_cases hv : M.valueFault v = 0
  · rw [hv]
    have fin := hide (gi_ok (n := n) hv)
    have hl1 := (M.fault_zero hv).1
    have hl2 := (M.fault_zero hv).2.1
    have g := hrow1 0 (by omega)
    have g0 := g.1
    simp only [Nat.zero_mul, Nat.add_zero] at g0
    clear g
    by_cases kk : (v.getD 0 M.zero).kind = 0 ∨ (v.getD 0 M.zero).kind = 5
    · have fin2 := hide ((unhide fin).trans (idx_some (v := v) (n := n) kk))
      have HC := hide (fun w' (r : Row w' b off v) hb' => childPlaces_any v b off cap 0 w' hv (by omega) r hb' hcap)
      have HPT := hide (fun a (ha : a < v.length) w' (r : Row w' b off v) hb' => partOf_any v b off cap a w' hv ha r hb' hcap)
      have hin := M.places_in hv 0 (by omega)
      have HIN := hide hin.1
      have hend := hide hin.2.2.1
      have hA := hin.2.2.2
      have hout := hide (fun h => idx_out (v := v) (n := n) h)
      have hneg := hide (fun k h1 h2 h3 => idx_neg (v := v) (n := n) (k := k) h1 h2 h3)
      have hpos := hide (fun k h => idx_pos (v := v) (k := k) h)
      clear hin hv fin
      generalize M.arity v 0 = m at *
      rcases kk with kk | kk
      all_goals
        rw [kk] at g0
        clear kk
        go_wp2_with fail
        refine ((unhide HC) _ hrow1 hb1').mono ?_
        rintro e2 w2 ⟨sa, rfl, hra, hb2⟩
        have hR2 := hR.below hb2 hR.lt
        have B2 : Below w.heap.size w w2 := B1.trans (hb2.mono B1.size)
        have hrr := hrow.below B2 hb
        have hbr : b < w2.heap.size := Nat.lt_of_lt_of_le hb B2.size
        clear hb2 g0 HC
        by_cases hout1 : n < -(m : Int) ∨ (m : Int) ≤ n
        · have fin3 := hide ((unhide fin2).trans (by rw [(unhide hout) hout1]))
          have hsh : ∃ aa cx, sa = .slice aa m cx := by
            obtain ⟨_, ⟨rfl, hnil⟩ | ⟨ba, ca, rfl, _, hca, hoa⟩⟩ := hra
            · have hm0 : m = 0 := by have := congrArg List.length hnil; rwa [firstPl_length] at this
              exact ⟨_, _, by rw [hm0]⟩
            · exact ⟨_, _, by rw [firstPl_length]⟩
          obtain ⟨aa, cx, rfl⟩ := hsh
          clear hra hout hneg hpos
          rcases hout1 with hout1 | hout1
          all_goals
            go_wp2_with fail
            refine (nullResult_any _).mono ?_
            rintro ec wc ⟨sc, rfl, hrc, hbc⟩
            have hRc := hR2.below hbc hR2.lt
            have r0 := hRc.cell 0
            have r1 := hRc.cell 1
            have z0 := hRc.frozen 0
            have z1 := hRc.frozen 1
            simp only [List.getElem?_cons_zero, List.getElem?_cons_succ] at r0 r1
            have HE := hide (Ans.store hrc B2 hR2.lt hbc)
            obtain ⟨ac, mc, cc, rfl⟩ := hrc.shape
            clear hrc hbc
            go_wp2_with fail
            refine bodyPost_ret (v := .agg #[.int .i64 0, .slice ac mc cc]) (by simp [results, Try.results143, go_sem, r0, r1]) rfl (ans_of (unhide fin3) ((unhide HE) _ _).1 ((unhide HE) _ _).2)
        · obtain ⟨_, ⟨rfl, hnil⟩ | ⟨ba, ca, rfl, _, hca, hoa⟩⟩ := hra
          · have hm0 : m = 0 := by have := congrArg List.length hnil; rwa [firstPl_length] at this
            omega
          have q1 : -(m : Int) ≤ n := by omega
          have q2 : n < (m : Int) := by omega
          clear hout1
          rw [firstPl_length] at hca ⊢
          by_cases hn0 : n < 0
          · obtain ⟨k, hk⟩ := Int.eq_ofNat_of_zero_le (show 0 ≤ n + (m : Int) by omega)
            have fin3 := hide ((unhide fin2).trans (by rw [(unhide hneg) k (by omega) hn0 hk]))
            have hkm : k < m := by omega
            have fa := hoa.cell (i := k) (by rw [firstPl_length]; exact hkm)
            rw [firstPl_getD v 0 m k hkm] at fa
            simp only [Nat.zero_add] at fa
            have hp : M.iter v k 1 < v.length := by have h1 := (unhide HIN) k hkm; have h2 := unhide hend; simp only [Nat.zero_add] at h1; omega
            have HPO := hide ((unhide HPT) (M.iter v k 1) hp w2 hrr hbr)
            obtain rfl : n = (k : Int) - (m : Int) := by omega
            have hsum : (k : Int) - (m : Int) + (m : Int) = (k : Int) := by omega
            clear hk hout hneg hpos
            generalize M.iter v k 1 = p at *
            go_wp2_with fail
            refine (unhide HPO).mono ?_
            rintro e3 w3 ⟨s3, rfl, hr3, hb3⟩
            have hR3 := hR2.below hb3 hR2.lt
            have r0 := hR3.cell 0
            have r1 := hR3.cell 1
            have z0 := hR3.frozen 0
            have z1 := hR3.frozen 1
            simp only [List.getElem?_cons_zero, List.getElem?_cons_succ] at r0 r1
            have HE := hide (Ans.store hr3 B2 hR2.lt hb3)
            obtain ⟨ac, mc, cc, rfl⟩ := hr3.shape
            clear hr3 hb3 HPO fa
            go_wp2_with fail
            refine bodyPost_ret (v := .agg #[.int .i64 0, .slice ac mc cc]) (by simp [results, Try.results143, go_sem, r0, r1]) rfl (ans_of (unhide fin3) ((unhide HE) _ _).1 ((unhide HE) _ _).2)
          · obtain ⟨k, rfl⟩ := Int.eq_ofNat_of_zero_le (show 0 ≤ n by omega)
            have fin3 := hide ((unhide fin2).trans (by rw [(unhide hpos) k (by omega)]))
            have hkm : k < m := by omega
            have fa := hoa.cell (i := k) (by rw [firstPl_length]; exact hkm)
            rw [firstPl_getD v 0 m k hkm] at fa
            simp only [Nat.zero_add] at fa
            have hp : M.iter v k 1 < v.length := by have h1 := (unhide HIN) k hkm; have h2 := unhide hend; simp only [Nat.zero_add] at h1; omega
            have HPO := hide ((unhide HPT) (M.iter v k 1) hp w2 hrr hbr)
            clear hout hneg hpos
            generalize M.iter v k 1 = p at *
            go_wp2_with fail
            refine (unhide HPO).mono ?_
            rintro e3 w3 ⟨s3, rfl, hr3, hb3⟩
            have hR3 := hR2.below hb3 hR2.lt
            have r0 := hR3.cell 0
            have r1 := hR3.cell 1
            have z0 := hR3.frozen 0
            have z1 := hR3.frozen 1
            simp only [List.getElem?_cons_zero, List.getElem?_cons_succ] at r0 r1
            have HE := hide (Ans.store hr3 B2 hR2.lt hb3)
            obtain ⟨ac, mc, cc, rfl⟩ := hr3.shape
            clear hr3 hb3 HPO fa
            go_wp2_with fail
            refine bodyPost_ret (v := .agg #[.int .i64 0, .slice ac mc cc]) (by simp [results, Try.results143, go_sem, r0, r1]) rfl (ans_of (unhide fin3) ((unhide HE) _ _).1 ((unhide HE) _ _).2)
    · have h0 : (v.getD 0 M.zero).kind ≠ 0 := fun e => kk (.inl e)
      have h5 : (v.getD 0 M.zero).kind ≠ 5 := fun e => kk (.inr e)
      have fin2 := hide ((unhide fin).trans (idx_kind (v := v) (n := n) h0 h5))
      generalize v.getD 0 M.zero = c at *
      have m0 : (c.kind != 0) = true := by simp [h0]
      have m5 : (c.kind != 5) = true := by simp [h5]
      have r0 := hR.cell 0
      have r1 := hR.cell 1
      have z0 := hR.frozen 0
      have z1 := hR.frozen 1
      simp only [List.getElem?_cons_zero, List.getElem?_cons_succ] at r0 r1
      clear h0 h5 kk fin hv
      go_wp2_with fail
      refine bodyPost_ret (v := .agg #[.int .i64 6, .slice none 0 0]) (by simp [results, Try.results143, go_sem, r0, r1]) rfl (ans_of (unhide fin2) (resNil _ _) (store_below B1 _ _))
  · have fin := hide (gi_bad (n := n) hv)
    generalize M.valueFault v = q at *
    have hz' : (q == 0) = false := by simp [hv]
    have r0 := hR.cell 0
    have r1 := hR.cell 1
    have z0 := hR.frozen 0
    have z1 := hR.frozen 1
    simp only [List.getElem?_cons_zero, List.getElem?_cons_succ] at r0 r1
    clear hv
    go_wp2_with fail
    refine bodyPost_ret (v := .agg #[.int .i64 q, .slice none 0 0]) (by simp [results, Try.results143, go_sem, r0, r1]) rfl (ans_of (unhide fin) (resNil _ _) (store_below B1 _ _))

end Go.Proofs.Ythaabakpcokomaa
