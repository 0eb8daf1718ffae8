/-
  impl.GetKey.
-/
import Derived.Test.YtfcglmkbfdfaeaaDoorT17
namespace Go.Proofs.YtfcglmkbfdfaeaaDoor
open Go.RowKit
set_option linter.unusedVariables false

set_option maxRecDepth 100000 in
set_option maxHeartbeats 2000000 in
theorem implGetKey_any (v : List M.Cl) (b off cap : Nat) (key : ByteArray) (w : World) (hrow : Row w b off v) (hb : b < w.heap.size) (hn : v.length ≤ 1048576) (hcap : v.length ≤ cap) (hok : ∀ c ∈ v, c.ok) (hk : key.size ≤ 9223372036854775807) :
    Calls Tryd.prog 62 #[.slice (some ⟨b, off, none⟩) v.length cap, .string key] w (Ans w (getKeyOut v key)) := by
  have OK := hide hok
  have B0 : ∀ o, Below w.heap.size w (w.alloc o) := fun o => (Below.refl _ _).alloc (Nat.le_refl _) o
  have HB0 := hide B0
  clear B0
  have HKF := hide (fun o => keyedFault_any key (some ⟨w.heap.size + 1, 0, none⟩) 1 [v] ((w.alloc o).alloc (.cells #[.slice (some ⟨b, off, none⟩) v.length cap] 24)) (LV.one (w.alloc o) (w.heap.size + 1) b off cap v 24 (by simp) (hrow.below ((unhide HB0) _) hb) (by simp; omega) hcap) (by simp) (by simp) (len_one hn) (okS_one hok) hk)
  simp only [List.length_cons, List.length_nil, Nat.zero_add] at HKF
  clear hok
  go_enter Tryd.func62, Tryd.ntmps62
  go_wp2_with fail
  refine ((unhide HKF) _).mono ?_
  rintro e1 w1 ⟨rfl, hb1⟩
  have hR : Own w1 w.heap.size 31 [.int .i64 0, .slice none 0 0] := Own.below (Own.alloc ⟨_, heap_alloc_new _ _, rfl⟩ _) hb1 (by simp; omega)
  have B1 : Below w.heap.size w w1 := (((unhide HB0) _).alloc (by simp) _).trans (hb1.mono (by simp; omega))
  have hrow1 := hrow.below B1 hb
  have hb1' : b < w1.heap.size := Nat.lt_of_lt_of_le hb B1.size
  clear hb1 HKF
  by_cases hv : M.valueFault v = 0
  · by_cases ht : M.textOk key = true
    · have hko : keyedOut [v] key = 0 := by unfold keyedOut; rw [firstBad_one, if_neg (by simp [hv]), if_pos ht]
      rw [hko]
      clear hko
      have fin := hide (gk_ok hv ht)
      have hl1 := (M.fault_zero hv).1
      have hl2 := (M.fault_zero hv).2.1
      have g := hrow1 0 (by omega)
      have g0 := g.1
      simp only [Nat.zero_mul, Nat.add_zero] at g0
      clear g
      by_cases kk : (v.getD 0 M.zero).kind = 0 ∨ (v.getD 0 M.zero).kind = 6
      · have fin2 := hide ((unhide fin).trans (get_some (v := v) (key := key) kk))
        have HC := hide (fun w' (r : Row w' b off v) hb' => childPlaces_any v b off cap 0 w' hv (by omega) r hb' hcap)
        have hin := M.places_in hv 0 (by omega)
        have HIN := hide hin.1
        have hend := hide hin.2.2.1
        have hA := hin.2.2.2
        have hhit := hide (fun k hk h hh => getV_hit (v := v) (key := key) (k := k) hk h hh)
        have hnone := hide (fun h => getV_none (v := v) (key := key) h)
        have HV := hide hv
        clear hin ht hv fin
        generalize M.arity v 0 = m at *
        rcases kk with kk | kk
        all_goals
          rw [kk] at g0
          clear kk
          go_wp2_with fail
          refine ((unhide HC) _ hrow1 hb1').mono ?_
          rintro e2 w2 ⟨sa, rfl, hra, hb2⟩
          have hR2 := hR.below hb2 hR.lt
          have B2 : Below w.heap.size w w2 := B1.trans (hb2.mono B1.size)
          clear hb2 g0 HC
          obtain ⟨_, ⟨rfl, hnil⟩ | ⟨ba, ca, rfl, _, hca, hoa⟩⟩ := hra
          · have hm0 : m = 0 := by have := congrArg List.length hnil; rwa [firstPl_length] at this
            subst hm0
            have fin3 := hide ((unhide fin2).trans (by rw [(unhide hnone) (fun j hj => by omega)]))
            go_wp2_with fail
            refine wp_loop_rounds 1 ?_
            rw [rounds_succ]
            go_wp2_with fail
            refine (nullResult_any _).mono ?_
            rintro ec wc ⟨sc, rfl, hrc, hbc⟩
            have hRc := hR2.below hbc hR2.lt
            have r0 := hRc.cell 0
            have r1 := hRc.cell 1
            have z0 := hRc.frozen 0
            have z1 := hRc.frozen 1
            simp only [List.getElem?_cons_zero, List.getElem?_cons_succ] at r0 r1
            have HE := hide (Ans.store hrc B2 hR2.lt hbc)
            obtain ⟨ac, mc, cc, rfl⟩ := hrc.shape
            clear hrc hbc
            go_wp2_with fail
            refine bodyPost_ret (v := .agg #[.int .i64 0, .slice ac mc cc]) (by simp [results, Tryd.results62, go_sem, r0, r1]) rfl (ans_of (unhide fin3) ((unhide HE) _ _).1 ((unhide HE) _ _).2)
          · rw [firstPl_length] at hca ⊢
            go_wp2_with fail
            go_loopg [32] m (fun g s32 wr => ∃ k : Nat, Hid (g = m - k) ∧ s32 = .int .i64 k ∧ k ≤ m ∧ Hid (∀ j, j < k → ((v.getD (M.iter v j 1) M.zero).key.toList == key.toList) = false) ∧ Below w2.heap.size w2 wr)
            case atStart => exact ⟨0, rfl, rfl, by omega, fun j hj => absurd hj (by omega), Below.refl _ _⟩
            case round =>
              obtain ⟨k, hg, rfl, hk', hall, hbel⟩ := hrel
              have BR : Below w.heap.size w wr := B2.trans (hbel.mono B2.size)
              have hRr := hR2.below hbel hR2.lt
              by_cases hlt : k < m
              · have h1 := (unhide HIN) k hlt
                have h2 := unhide hend
                have fa := (hoa.below hbel hoa.lt).cell (i := k) (by rw [firstPl_length]; exact hlt)
                rw [firstPl_getD v 0 m k hlt] at fa
                have hrr := hrow.below BR hb
                have fk := (hrr (M.iter v k (0 + 1)) (by omega)).2.2.2.1
                simp only [Nat.zero_add] at fa fk h1
                have hp : M.iter v k 1 < v.length := by omega
                have hbr : b < wr.heap.size := Nat.lt_of_lt_of_le hb BR.size
                clear h1 h2
                cases hh : ((v.getD (M.iter v k 1) M.zero).key.toList == key.toList) with
                | true =>
                  have fin3 := hide ((unhide fin2).trans (by rw [(unhide hhit) k hlt hall.out hh]))
                  generalize (v.getD (M.iter v k 1) M.zero).key = ky at *
                  have HPO := hide (partOf_any v b off cap (M.iter v k 1) wr (unhide HV) hp hrr hbr hcap)
                  generalize M.iter v k 1 = p at *
                  go_wp2_with fail
                  refine (unhide HPO).mono ?_
                  rintro e3 w3 ⟨s3, rfl, hr3, hb3⟩
                  have hR3 := hRr.below hb3 hRr.lt
                  have r0 := hR3.cell 0
                  have r1 := hR3.cell 1
                  have z0 := hR3.frozen 0
                  have z1 := hR3.frozen 1
                  simp only [List.getElem?_cons_zero, List.getElem?_cons_succ] at r0 r1
                  have HE := hide (Ans.store hr3 BR hRr.lt hb3)
                  obtain ⟨ac, mc, cc, rfl⟩ := hr3.shape
                  clear hr3 hb3 fk hh fa HPO
                  go_wp2_with fail
                  refine bodyPost_ret (v := .agg #[.int .i64 0, .slice ac mc cc]) (by simp [results, Tryd.results62, go_sem, r0, r1]) rfl (ans_of (unhide fin3) ((unhide HE) _ _).1 ((unhide HE) _ _).2)
                | false =>
                  have hn2 := hide (show ∀ j, j < k + 1 → ((v.getD (M.iter v j 1) M.zero).key.toList == key.toList) = false by
                    intro j hj
                    by_cases e : j = k
                    · subst e; exact hh
                    · exact hall.out j (by omega))
                  generalize (v.getD (M.iter v k 1) M.zero).key = ky at *
                  generalize M.iter v k 1 = p at *
                  go_wp2_with fail
                  go_roundg (m - (k + 1))
                  case rel => exact ⟨k + 1, rfl, by go_num, by omega, unhide hn2, hbel⟩
                  case measure => have := hg.out; omega
              · have hke : k = m := by omega
                subst hke
                have fin3 := hide ((unhide fin2).trans (by rw [(unhide hnone) hall.out]))
                go_wp2_with fail
                refine (nullResult_any _).mono ?_
                rintro ec wc ⟨sc, rfl, hrc, hbc⟩
                have hRc := hRr.below hbc hRr.lt
                have r0 := hRc.cell 0
                have r1 := hRc.cell 1
                have z0 := hRc.frozen 0
                have z1 := hRc.frozen 1
                simp only [List.getElem?_cons_zero, List.getElem?_cons_succ] at r0 r1
                have HE := hide (Ans.store hrc BR hRr.lt hbc)
                obtain ⟨ac, mc, cc, rfl⟩ := hrc.shape
                clear hrc hbc
                go_wp2_with fail
                refine bodyPost_ret (v := .agg #[.int .i64 0, .slice ac mc cc]) (by simp [results, Tryd.results62, go_sem, r0, r1]) rfl (ans_of (unhide fin3) ((unhide HE) _ _).1 ((unhide HE) _ _).2)
      · have h0 : (v.getD 0 M.zero).kind ≠ 0 := fun e => kk (.inl e)
        have h6 : (v.getD 0 M.zero).kind ≠ 6 := fun e => kk (.inr e)
        have fin2 := hide ((unhide fin).trans (get_kind (v := v) (key := key) h0 h6))
        generalize v.getD 0 M.zero = c at *
        have n0 : (c.kind != 0) = true := by simp [h0]
        have n6 : (c.kind != 6) = true := by simp [h6]
        have r0 := hR.cell 0
        have r1 := hR.cell 1
        have z0 := hR.frozen 0
        have z1 := hR.frozen 1
        simp only [List.getElem?_cons_zero, List.getElem?_cons_succ] at r0 r1
        clear h0 h6 kk fin hv ht
        go_wp2_with fail
        refine bodyPost_ret (v := .agg #[.int .i64 6, .slice none 0 0]) (by simp [results, Tryd.results62, go_sem, r0, r1]) rfl (ans_of (unhide fin2) (resNil _ _) (store_below B1 _ _))
    · have ht' : M.textOk key = false := by simpa using ht
      have hko : keyedOut [v] key = 5 := by unfold keyedOut; rw [firstBad_one, if_neg (by simp [hv]), if_neg ht]
      rw [hko]
      have fin := hide (gk_text hv ht')
      have r0 := hR.cell 0
      have r1 := hR.cell 1
      have z0 := hR.frozen 0
      have z1 := hR.frozen 1
      simp only [List.getElem?_cons_zero, List.getElem?_cons_succ] at r0 r1
      clear hko ht ht' hv
      go_wp2_with fail
      refine bodyPost_ret (v := .agg #[.int .i64 5, .slice none 0 0]) (by simp [results, Tryd.results62, go_sem, r0, r1]) rfl (ans_of (unhide fin) (resNil _ _) (store_below B1 _ _))
  · have hko : keyedOut [v] key = M.valueFault v := by unfold keyedOut; rw [firstBad_one, if_pos hv]
    have fin := hide (gk_bad (key := key) hv)
    rw [hko]
    clear hko
    generalize M.valueFault v = q at *
    have hz' : (q == 0) = false := by simp [hv]
    have r0 := hR.cell 0
    have r1 := hR.cell 1
    have z0 := hR.frozen 0
    have z1 := hR.frozen 1
    simp only [List.getElem?_cons_zero, List.getElem?_cons_succ] at r0 r1
    clear hv
    go_wp2_with fail
    refine bodyPost_ret (v := .agg #[.int .i64 q, .slice none 0 0]) (by simp [results, Tryd.results62, go_sem, r0, r1]) rfl (ans_of (unhide fin) (resNil _ _) (store_below B1 _ _))

end Go.Proofs.YtfcglmkbfdfaeaaDoor
