/-
  spec.GetKey and impl.GetKey.
  impl.GetKey.
  spec.GetIndex and impl.GetIndex.
  impl.GetIndex.
-/
import Derived.Test.YtlbmpldknfcfhaaDoorU21
import Derived.Test.YtlbmpldknfcfhaaDoorU23
namespace Go.Proofs.YtlbmpldknfcfhaaDoor
open Go.RowKit
set_option linter.unusedVariables false

theorem keysAt_getD' (v : List M.Cl) (i : Nat) (hi : i < M.arity v 0) : (keysAt v 0).getD i ByteArray.empty = (v.getD (M.iter v i 1) M.zero).key := by
  simp [keysAt, M.places, List.getD_eq_getElem?_getD, hi]
theorem subs_getD' (v : List M.Cl) (i : Nat) (hi : i < M.arity v 0) : (subs v 0).getD i [] = part v (M.iter v i 1) := by
  simp [subs, M.places, List.getD_eq_getElem?_getD, hi]

set_option maxHeartbeats 2000000 in
theorem l3Get_any (v : List M.Cl) (b off cap : Nat) (key : ByteArray) (w : World) (hv : M.valueFault v = 0) (hrow : Row w b off v) (hb : b < w.heap.size) (hcap : v.length ≤ cap) (hok : ∀ c ∈ v, c.ok) :
    Calls Tryd.prog 82 #[.slice (some ⟨b, off, none⟩) v.length cap, .string key] w (Ans w (getOut v key)) := by
  have hl1 := (M.fault_zero hv).1
  have hl2 := (M.fault_zero hv).2.1
  have HV := hide hv
  have OK := hide hok
  have B0 : ∀ o, Below w.heap.size w (w.alloc o) := fun o => (Below.refl _ _).alloc (Nat.le_refl _) o
  have HB0 := hide B0
  clear B0
  have hR0 : Own (w.alloc (.cells #[.int .i64 0, .slice none 0 0] 56)) w.heap.size 56 [.int .i64 0, .slice none 0 0] := ⟨_, heap_alloc_new _ _, rfl⟩
  have g := hrow 0 (by omega)
  have g0 := g.1
  simp only [Nat.zero_mul, Nat.add_zero] at g0
  clear g
  have HR0 := hide hR0
  clear hR0
  have hA := (M.places_in hv 0 (by omega)).2.2.2
  by_cases k0 : (v.getD 0 M.zero).kind = 0
  · have fin := hide (get_null (key := key) hv k0)
    have gz : ∀ o, (w.alloc o).cell? ⟨b, off, none⟩ = some (.int .i64 0) := fun o => (((unhide HB0) o).cell hb).trans (by rw [g0, k0])
    clear g0 k0 hv hok
    go_enter Tryd.func82, Tryd.ntmps82
    go_wp2_with fail
    refine (l3Null_any _).mono ?_
    rintro ec wc ⟨sc, rfl, hrc, hbc⟩
    have hRc := (unhide HR0).below hbc (unhide HR0).lt
    have r0 := hRc.cell 0
    have r1 := hRc.cell 1
    have z0 := hRc.frozen 0
    have z1 := hRc.frozen 1
    simp only [List.getElem?_cons_zero, List.getElem?_cons_succ] at r0 r1
    have HE := hide (Ans.store hrc ((unhide HB0) _) (unhide HR0).lt hbc)
    obtain ⟨ac, mc, cc, rfl⟩ := hrc.shape
    clear gz hrc hbc
    go_wp2_with fail
    refine bodyPost_ret (v := .agg #[.int .i64 0, .slice ac mc cc]) (by simp [results, Tryd.results82, go_sem, r0, r1]) rfl (ans_of (unhide fin) ((unhide HE) _ _).1 ((unhide HE) _ _).2)
  by_cases k6 : (v.getD 0 M.zero).kind = 6
  · have fin := hide (get_some (v := v) (key := key) (.inr k6))
    have gz : ∀ o, (w.alloc o).cell? ⟨b, off, none⟩ = some (.int .i64 6) := fun o => (((unhide HB0) o).cell hb).trans (by rw [g0, k6])
    have HK := hide (fun w' (r : Row w' b off v) hb' => l1Keys_any v b off cap w' hv r hb' hcap hok)
    have HP := hide (fun w' (r : Row w' b off v) hb' => l1Parts_any v b off cap w' hv r hb' hcap hok)
    clear g0 k0 k6 hok
    go_enter Tryd.func82, Tryd.ntmps82
    go_wp2_with fail
    refine ((unhide HK) _ (hrow.below ((unhide HB0) _) hb) (by simp; omega)).mono ?_
    rintro e1 w1 ⟨s1, rfl, hk1, hb1⟩
    have hR := (unhide HR0).below hb1 (unhide HR0).lt
    have B1 : Below w.heap.size w w1 := ((unhide HB0) _).trans (hb1.mono (by simp))
    obtain ⟨ka, kc, rfl, hkc, htv⟩ := hk1.tv
    have hkl := keysAt_length v 0
    have hsl := subs_length v 0
    have hget := hide (fun i (hi : i < M.arity v 0) => keysAt_getD' v i hi)
    have hget2 := hide (fun i (hi : i < M.arity v 0) => subs_getD' v i hi)
    have hhit := hide (fun k hk h hh => getV_hit (v := v) (key := key) (k := k) hk h hh)
    have hnone := hide (fun h => getV_none (v := v) (key := key) h)
    have HTV := hide htv
    clear hk1 htv hb1 gz hv
    rw [hkl] at hkc ⊢
    have HKL := hide hkl
    have HSL := hide hsl
    clear hkl hsl
    generalize M.arity v 0 = m at *
    go_wp2_with fail
    go_loopg [6] m (fun g s6 wr => ∃ k : Nat, Hid (g = m - k) ∧ s6 = .int .i64 k ∧ k ≤ m ∧ Hid (∀ j, j < k → ((v.getD (M.iter v j 1) M.zero).key.toList == key.toList) = false) ∧ Below w1.heap.size w1 wr)
    case atStart => exact ⟨0, rfl, rfl, by omega, fun j hj => absurd hj (by omega), Below.refl _ _⟩
    case round =>
      obtain ⟨k, hg, rfl, hk, hall, hbel⟩ := hrel
      have BR : Below w.heap.size w wr := B1.trans (hbel.mono B1.size)
      have hRr := hR.below hbel hR.lt
      by_cases hlt : k < m
      · obtain ⟨g, rfl, hgl, fk⟩ := ((unhide HTV).below hbel) k (by rw [unhide HKL]; exact hlt)
        rw [(unhide hget) k hlt] at fk
        cases hh : ((v.getD (M.iter v k 1) M.zero).key.toList == key.toList) with
        | true =>
          have fin2 := hide ((unhide fin).trans (by rw [(unhide hhit) k hlt hall.out hh]))
          have hrr := hrow.below BR hb
          have hbr : b < wr.heap.size := Nat.lt_of_lt_of_le hb BR.size
          generalize (v.getD (M.iter v k 1) M.zero).key = ky at *
          go_wp2_with fail
          refine ((unhide HP) _ hrr hbr).mono ?_
          rintro e2 w2 ⟨s2, rfl, hs2, hb2⟩
          obtain ⟨g2, cap2, s3, rfl, hcap2, f2, hr2⟩ := hs2.at (i := k) (by rw [unhide HSL]; exact hlt)
          rw [(unhide hget2) k hlt] at hr2
          rw [unhide HSL] at hcap2 ⊢
          have hR2 := hRr.below hb2 hRr.lt
          have r0 := hR2.cell 0
          have r1 := hR2.cell 1
          have z0 := hR2.frozen 0
          have z1 := hR2.frozen 1
          simp only [List.getElem?_cons_zero, List.getElem?_cons_succ] at r0 r1
          have HE := hide (Ans.store hr2 BR hRr.lt hb2)
          obtain ⟨ac, mc, cc, rfl⟩ := hr2.shape
          clear hr2 hb2 hs2 fk hh
          go_wp2_with fail
          refine bodyPost_ret (v := .agg #[.int .i64 0, .slice ac mc cc]) (by simp [results, Tryd.results82, go_sem, r0, r1]) rfl (ans_of (unhide fin2) ((unhide HE) _ _).1 ((unhide HE) _ _).2)
        | false =>
          have hn2 := hide (show ∀ j, j < k + 1 → ((v.getD (M.iter v j 1) M.zero).key.toList == key.toList) = false by
            intro j hj
            by_cases e : j = k
            · subst e; exact hh
            · exact hall.out j (by omega))
          generalize (v.getD (M.iter v k 1) M.zero).key = ky at *
          go_wp2_with fail
          go_roundg (m - (k + 1))
          case rel => exact ⟨k + 1, rfl, by go_num, by omega, unhide hn2, hbel⟩
          case measure => have := hg.out; omega
      · have hke : k = m := by omega
        subst hke
        have fin2 := hide ((unhide fin).trans (by rw [(unhide hnone) hall.out]))
        go_wp2_with fail
        refine (l3Null_any _).mono ?_
        rintro ec wc ⟨sc, rfl, hrc, hbc⟩
        have hRc := hRr.below hbc hRr.lt
        have r0 := hRc.cell 0
        have r1 := hRc.cell 1
        have z0 := hRc.frozen 0
        have z1 := hRc.frozen 1
        simp only [List.getElem?_cons_zero, List.getElem?_cons_succ] at r0 r1
        have HE := hide (Ans.store hrc BR hRr.lt hbc)
        obtain ⟨ac, mc, cc, rfl⟩ := hrc.shape
        clear hrc hbc
        go_wp2_with fail
        refine bodyPost_ret (v := .agg #[.int .i64 0, .slice ac mc cc]) (by simp [results, Tryd.results82, go_sem, r0, r1]) rfl (ans_of (unhide fin2) ((unhide HE) _ _).1 ((unhide HE) _ _).2)
  · have fin := hide (get_kind (v := v) (key := key) k0 k6)
    generalize v.getD 0 M.zero = c at *
    have gz : ∀ o, (w.alloc o).cell? ⟨b, off, none⟩ = some (.int .i64 c.kind) := fun o => (((unhide HB0) o).cell hb).trans g0
    have e0 : (c.kind == 0) = false := by simp [k0]
    have e6 : (c.kind == 6) = false := by simp [k6]
    clear g0 k0 k6 hok
    go_enter Tryd.func82, Tryd.ntmps82
    go_wp2_with fail
    refine (l3Bad_any _ _).mono ?_
    rintro ec wc ⟨sc, rfl, hrc, hbc⟩
    have hRc := (unhide HR0).below hbc (unhide HR0).lt
    have r0 := hRc.cell 0
    have r1 := hRc.cell 1
    have z0 := hRc.frozen 0
    have z1 := hRc.frozen 1
    simp only [List.getElem?_cons_zero, List.getElem?_cons_succ] at r0 r1
    have HE := hide (Ans.store hrc ((unhide HB0) _) (unhide HR0).lt hbc)
    obtain ⟨ac, mc, cc, rfl⟩ := hrc.shape
    clear gz e0 e6 hrc hbc
    go_wp2_with fail
    refine bodyPost_ret (v := .agg #[.int .i64 6, .slice ac mc cc]) (by simp [results, Tryd.results82, go_sem, r0, r1]) rfl (ans_of (unhide fin) ((unhide HE) _ _).1 ((unhide HE) _ _).2)

end Go.Proofs.YtlbmpldknfcfhaaDoor

namespace Go.Proofs.YtlbmpldknfcfhaaDoor
open Go.RowKit
set_option linter.unusedVariables false

set_option maxRecDepth 100000 in
set_option maxHeartbeats 2000000 in
theorem implGetKey_any (v : List M.Cl) (b off cap : Nat) (key : ByteArray) (w : World) (hrow : Row w b off v) (hb : b < w.heap.size) (hn : v.length ≤ 1048576) (hcap : v.length ≤ cap) (hok : ∀ c ∈ v, c.ok) (hk : key.size ≤ 9223372036854775807) :
    Calls Tryd.prog 87 #[.slice (some ⟨b, off, none⟩) v.length cap, .string key] w (Ans w (getKeyOut v key)) := by
  have OK := hide hok
  have B0 : ∀ o, Below w.heap.size w (w.alloc o) := fun o => (Below.refl _ _).alloc (Nat.le_refl _) o
  have HB0 := hide B0
  clear B0
  have HKF := hide (fun o => keyedFault_any key (some ⟨w.heap.size + 1, 0, none⟩) 1 [v] ((w.alloc o).alloc (.cells #[.slice (some ⟨b, off, none⟩) v.length cap] 27)) (LV.one (w.alloc o) (w.heap.size + 1) b off cap v 27 (by simp) (hrow.below ((unhide HB0) _) hb) (by simp; omega) hcap) (by simp) (by simp) (len_one hn) (okS_one hok) hk)
  simp only [List.length_cons, List.length_nil, Nat.zero_add] at HKF
  clear hok
  go_enter Tryd.func87, Tryd.ntmps87
  go_wp2_with fail
  refine ((unhide HKF) _).mono ?_
  rintro e1 w1 ⟨rfl, hb1⟩
  have hR : Own w1 w.heap.size 56 [.int .i64 0, .slice none 0 0] := Own.below (Own.alloc ⟨_, heap_alloc_new _ _, rfl⟩ _) hb1 (by simp; omega)
  have B1 : Below w.heap.size w w1 := (((unhide HB0) _).alloc (by simp) _).trans (hb1.mono (by simp; omega))
  have hrow1 := hrow.below B1 hb
  have hb1' : b < w1.heap.size := Nat.lt_of_lt_of_le hb B1.size
  clear hb1 HKF
  by_cases hv : M.valueFault v = 0
  · by_cases ht : M.textOk key = true
    · have hko : keyedOut [v] key = 0 := by unfold keyedOut; rw [firstBad_one, if_neg (by simp [hv]), if_pos ht]
      rw [hko]
      clear hko
      have fin := hide (gk_ok hv ht)
      have hl1 := (M.fault_zero hv).1
      have hl2 := (M.fault_zero hv).2.1
      have g := hrow1 0 (by omega)
      have g0 := g.1
      simp only [Nat.zero_mul, Nat.add_zero] at g0
      clear g
      by_cases kk : (v.getD 0 M.zero).kind = 0 ∨ (v.getD 0 M.zero).kind = 6
      · have fin2 := hide ((unhide fin).trans (get_some (v := v) (key := key) kk))
        have HC := hide (fun w' (r : Row w' b off v) hb' => childPlaces_any v b off cap 0 w' hv (by omega) r hb' hcap)
        have hin := M.places_in hv 0 (by omega)
        have HIN := hide hin.1
        have hend := hide hin.2.2.1
        have hA := hin.2.2.2
        have hhit := hide (fun k hk h hh => getV_hit (v := v) (key := key) (k := k) hk h hh)
        have hnone := hide (fun h => getV_none (v := v) (key := key) h)
        have HV := hide hv
        clear hin ht hv fin
        generalize M.arity v 0 = m at *
        rcases kk with kk | kk
        all_goals
          rw [kk] at g0
          clear kk
          go_wp2_with fail
          refine ((unhide HC) _ hrow1 hb1').mono ?_
          rintro e2 w2 ⟨sa, rfl, hra, hb2⟩
          have hR2 := hR.below hb2 hR.lt
          have B2 : Below w.heap.size w w2 := B1.trans (hb2.mono B1.size)
          clear hb2 g0 HC
          obtain ⟨_, ⟨rfl, hnil⟩ | ⟨ba, ca, rfl, _, hca, hoa⟩⟩ := hra
          · have hm0 : m = 0 := by have := congrArg List.length hnil; rwa [firstPl_length] at this
            subst hm0
            have fin3 := hide ((unhide fin2).trans (by rw [(unhide hnone) (fun j hj => by omega)]))
            go_wp2_with fail
            refine wp_loop_rounds 1 ?_
            rw [rounds_succ]
            go_wp2_with fail
            refine (nullResult_any _).mono ?_
            rintro ec wc ⟨sc, rfl, hrc, hbc⟩
            have hRc := hR2.below hbc hR2.lt
            have r0 := hRc.cell 0
            have r1 := hRc.cell 1
            have z0 := hRc.frozen 0
            have z1 := hRc.frozen 1
            simp only [List.getElem?_cons_zero, List.getElem?_cons_succ] at r0 r1
            have HE := hide (Ans.store hrc B2 hR2.lt hbc)
            obtain ⟨ac, mc, cc, rfl⟩ := hrc.shape
            clear hrc hbc
            go_wp2_with fail
            refine bodyPost_ret (v := .agg #[.int .i64 0, .slice ac mc cc]) (by simp [results, Tryd.results87, go_sem, r0, r1]) rfl (ans_of (unhide fin3) ((unhide HE) _ _).1 ((unhide HE) _ _).2)
          · rw [firstPl_length] at hca ⊢
            go_wp2_with fail
            go_loopg [32] m (fun g s32 wr => ∃ k : Nat, Hid (g = m - k) ∧ s32 = .int .i64 k ∧ k ≤ m ∧ Hid (∀ j, j < k → ((v.getD (M.iter v j 1) M.zero).key.toList == key.toList) = false) ∧ Below w2.heap.size w2 wr)
            case atStart => exact ⟨0, rfl, rfl, by omega, fun j hj => absurd hj (by omega), Below.refl _ _⟩
            case round =>
              obtain ⟨k, hg, rfl, hk', hall, hbel⟩ := hrel
              have BR : Below w.heap.size w wr := B2.trans (hbel.mono B2.size)
              have hRr := hR2.below hbel hR2.lt
              by_cases hlt : k < m
              · have h1 := (unhide HIN) k hlt
                have h2 := unhide hend
                have fa := (hoa.below hbel hoa.lt).cell (i := k) (by rw [firstPl_length]; exact hlt)
                rw [firstPl_getD v 0 m k hlt] at fa
                have hrr := hrow.below BR hb
                have fk := (hrr (M.iter v k (0 + 1)) (by omega)).2.2.2.1
                simp only [Nat.zero_add] at fa fk h1
                have hp : M.iter v k 1 < v.length := by omega
                have hbr : b < wr.heap.size := Nat.lt_of_lt_of_le hb BR.size
                clear h1 h2
                cases hh : ((v.getD (M.iter v k 1) M.zero).key.toList == key.toList) with
                | true =>
                  have fin3 := hide ((unhide fin2).trans (by rw [(unhide hhit) k hlt hall.out hh]))
                  generalize (v.getD (M.iter v k 1) M.zero).key = ky at *
                  have HPO := hide (partOf_any v b off cap (M.iter v k 1) wr (unhide HV) hp hrr hbr hcap)
                  generalize M.iter v k 1 = p at *
                  go_wp2_with fail
                  refine (unhide HPO).mono ?_
                  rintro e3 w3 ⟨s3, rfl, hr3, hb3⟩
                  have hR3 := hRr.below hb3 hRr.lt
                  have r0 := hR3.cell 0
                  have r1 := hR3.cell 1
                  have z0 := hR3.frozen 0
                  have z1 := hR3.frozen 1
                  simp only [List.getElem?_cons_zero, List.getElem?_cons_succ] at r0 r1
                  have HE := hide (Ans.store hr3 BR hRr.lt hb3)
                  obtain ⟨ac, mc, cc, rfl⟩ := hr3.shape
                  clear hr3 hb3 fk hh fa HPO
                  go_wp2_with fail
                  refine bodyPost_ret (v := .agg #[.int .i64 0, .slice ac mc cc]) (by simp [results, Tryd.results87, go_sem, r0, r1]) rfl (ans_of (unhide fin3) ((unhide HE) _ _).1 ((unhide HE) _ _).2)
                | false =>
                  have hn2 := hide (show ∀ j, j < k + 1 → ((v.getD (M.iter v j 1) M.zero).key.toList == key.toList) = false by
                    intro j hj
                    by_cases e : j = k
                    · subst e; exact hh
                    · exact hall.out j (by omega))
                  generalize (v.getD (M.iter v k 1) M.zero).key = ky at *
                  generalize M.iter v k 1 = p at *
                  go_wp2_with fail
                  go_roundg (m - (k + 1))
                  case rel => exact ⟨k + 1, rfl, by go_num, by omega, unhide hn2, hbel⟩
                  case measure => have := hg.out; omega
              · have hke : k = m := by omega
                subst hke
                have fin3 := hide ((unhide fin2).trans (by rw [(unhide hnone) hall.out]))
                go_wp2_with fail
                refine (nullResult_any _).mono ?_
                rintro ec wc ⟨sc, rfl, hrc, hbc⟩
                have hRc := hRr.below hbc hRr.lt
                have r0 := hRc.cell 0
                have r1 := hRc.cell 1
                have z0 := hRc.frozen 0
                have z1 := hRc.frozen 1
                simp only [List.getElem?_cons_zero, List.getElem?_cons_succ] at r0 r1
                have HE := hide (Ans.store hrc BR hRr.lt hbc)
                obtain ⟨ac, mc, cc, rfl⟩ := hrc.shape
                clear hrc hbc
                go_wp2_with fail
                refine bodyPost_ret (v := .agg #[.int .i64 0, .slice ac mc cc]) (by simp [results, Tryd.results87, go_sem, r0, r1]) rfl (ans_of (unhide fin3) ((unhide HE) _ _).1 ((unhide HE) _ _).2)
      · have h0 : (v.getD 0 M.zero).kind ≠ 0 := fun e => kk (.inl e)
        have h6 : (v.getD 0 M.zero).kind ≠ 6 := fun e => kk (.inr e)
        have fin2 := hide ((unhide fin).trans (get_kind (v := v) (key := key) h0 h6))
        generalize v.getD 0 M.zero = c at *
        have n0 : (c.kind != 0) = true := by simp [h0]
        have n6 : (c.kind != 6) = true := by simp [h6]
        have r0 := hR.cell 0
        have r1 := hR.cell 1
        have z0 := hR.frozen 0
        have z1 := hR.frozen 1
        simp only [List.getElem?_cons_zero, List.getElem?_cons_succ] at r0 r1
        clear h0 h6 kk fin hv ht
        go_wp2_with fail
        refine bodyPost_ret (v := .agg #[.int .i64 6, .slice none 0 0]) (by simp [results, Tryd.results87, go_sem, r0, r1]) rfl (ans_of (unhide fin2) (resNil _ _) (store_below B1 _ _))
    · have ht' : M.textOk key = false := by simpa using ht
      have hko : keyedOut [v] key = 5 := by unfold keyedOut; rw [firstBad_one, if_neg (by simp [hv]), if_neg ht]
      rw [hko]
      have fin := hide (gk_text hv ht')
      have r0 := hR.cell 0
      have r1 := hR.cell 1
      have z0 := hR.frozen 0
      have z1 := hR.frozen 1
      simp only [List.getElem?_cons_zero, List.getElem?_cons_succ] at r0 r1
      clear hko ht ht' hv
      go_wp2_with fail
      refine bodyPost_ret (v := .agg #[.int .i64 5, .slice none 0 0]) (by simp [results, Tryd.results87, go_sem, r0, r1]) rfl (ans_of (unhide fin) (resNil _ _) (store_below B1 _ _))
  · have hko : keyedOut [v] key = M.valueFault v := by unfold keyedOut; rw [firstBad_one, if_pos hv]
    have fin := hide (gk_bad (key := key) hv)
    rw [hko]
    clear hko
    generalize M.valueFault v = q at *
    have hz' : (q == 0) = false := by simp [hv]
    have r0 := hR.cell 0
    have r1 := hR.cell 1
    have z0 := hR.frozen 0
    have z1 := hR.frozen 1
    simp only [List.getElem?_cons_zero, List.getElem?_cons_succ] at r0 r1
    clear hv
    go_wp2_with fail
    refine bodyPost_ret (v := .agg #[.int .i64 q, .slice none 0 0]) (by simp [results, Tryd.results87, go_sem, r0, r1]) rfl (ans_of (unhide fin) (resNil _ _) (store_below B1 _ _))

end Go.Proofs.YtlbmpldknfcfhaaDoor

namespace Go.Proofs.YtlbmpldknfcfhaaDoor
open Go.RowKit
set_option linter.unusedVariables false

set_option maxRecDepth 100000 in
set_option maxHeartbeats 2000000 in
theorem l3Index_any (v : List M.Cl) (b off cap : Nat) (n : Int) (w : World) (hv : M.valueFault v = 0) (hrow : Row w b off v) (hb : b < w.heap.size) (hcap : v.length ≤ cap) (hok : ∀ c ∈ v, c.ok) (n0 : -9223372036854775808 ≤ n) (n1 : n ≤ 9223372036854775807) :
    Calls Tryd.prog 83 #[.slice (some ⟨b, off, none⟩) v.length cap, .int .i64 n] w (Ans w (idxOut v n)) := by
  have hl1 := (M.fault_zero hv).1
  have hl2 := (M.fault_zero hv).2.1
  have HV := hide hv
  have OK := hide hok
  have B0 : ∀ o, Below w.heap.size w (w.alloc o) := fun o => (Below.refl _ _).alloc (Nat.le_refl _) o
  have HB0 := hide B0
  clear B0
  have hR0 : Own (w.alloc (.cells #[.int .i64 0, .slice none 0 0] 56)) w.heap.size 56 [.int .i64 0, .slice none 0 0] := ⟨_, heap_alloc_new _ _, rfl⟩
  have g := hrow 0 (by omega)
  have g0 := g.1
  have g4 := g.2.2.2.2
  simp only [Nat.zero_mul, Nat.add_zero] at g0 g4
  clear g
  have HR0 := hide hR0
  clear hR0
  have hA := (M.places_in hv 0 (by omega)).2.2.2
  have hN := M.fits_getD (M.fits_of hv) 0
  have hNA : (v.getD 0 M.zero).n = (M.arity v 0 : Int) := by unfold M.arity; omega
  rw [hNA] at g4
  have gn : ∀ o, (w.alloc o).cell? ⟨b, off + 4, none⟩ = some (.int .i64 (M.arity v 0 : Int)) := fun o => (((unhide HB0) o).cell hb).trans g4
  clear g4
  by_cases k0 : (v.getD 0 M.zero).kind = 0
  · have fin := hide (idx_null (n := n) hv k0)
    have gz : ∀ o, (w.alloc o).cell? ⟨b, off, none⟩ = some (.int .i64 0) := fun o => (((unhide HB0) o).cell hb).trans (by rw [g0, k0])
    clear g0 k0 hv hok gn hNA hN
    go_enter Tryd.func83, Tryd.ntmps83
    go_wp2_with fail
    refine (l3Null_any _).mono ?_
    rintro ec wc ⟨sc, rfl, hrc, hbc⟩
    have hRc := (unhide HR0).below hbc (unhide HR0).lt
    have r0 := hRc.cell 0
    have r1 := hRc.cell 1
    have z0 := hRc.frozen 0
    have z1 := hRc.frozen 1
    simp only [List.getElem?_cons_zero, List.getElem?_cons_succ] at r0 r1
    have HE := hide (Ans.store hrc ((unhide HB0) _) (unhide HR0).lt hbc)
    obtain ⟨ac, mc, cc, rfl⟩ := hrc.shape
    clear gz hrc hbc
    go_wp2_with fail
    refine bodyPost_ret (v := .agg #[.int .i64 0, .slice ac mc cc]) (by simp [results, Tryd.results83, go_sem, r0, r1]) rfl (ans_of (unhide fin) ((unhide HE) _ _).1 ((unhide HE) _ _).2)
  by_cases k5 : (v.getD 0 M.zero).kind = 5
  · have fin := hide (idx_some (v := v) (n := n) (.inr k5))
    have gz : ∀ o, (w.alloc o).cell? ⟨b, off, none⟩ = some (.int .i64 5) := fun o => (((unhide HB0) o).cell hb).trans (by rw [g0, k5])
    have HP := hide (fun w' (r : Row w' b off v) hb' => l1Parts_any v b off cap w' hv r hb' hcap hok)
    have HSL := hide (subs_length v 0)
    have hget2 := hide (fun i (hi : i < M.arity v 0) => subs_getD' v i hi)
    have hout := hide (fun h => idx_out (v := v) (n := n) h)
    have hneg := hide (fun k h1 h2 h3 => idx_neg (v := v) (n := n) (k := k) h1 h2 h3)
    have hpos := hide (fun k h => idx_pos (v := v) (k := k) h)
    have hrowA : ∀ o, Row (w.alloc o) b off v := fun o => hrow.below ((unhide HB0) _) hb
    have hbA : ∀ o, b < (w.alloc o).heap.size := fun o => by simp; omega
    have HRA := hide hrowA
    have HBA := hide hbA
    clear g0 k0 k5 hok hNA hN hrowA hbA hv
    generalize M.arity v 0 = m at *
    by_cases h1 : n < 0
    · have hd1 : decide (n < 0) = true := decide_eq_true h1
      by_cases h2 : n < -(m : Int)
      · have fin2 := hide ((unhide fin).trans (by rw [(unhide hout) (.inl h2)]))
        clear hout hneg hpos
        go_enter Tryd.func83, Tryd.ntmps83
        go_wp2_with fail
        refine (l1In_no _ _ _ _ (.inl (by omega))).mono ?_; rintro e w' ⟨rfl, rfl⟩
        go_wp2_with fail
        refine (l3Null_any _).mono ?_
        rintro ec wc ⟨sc, rfl, hrc, hbc⟩
        have hRc := (unhide HR0).below hbc (unhide HR0).lt
        have r0 := hRc.cell 0
        have r1 := hRc.cell 1
        have z0 := hRc.frozen 0
        have z1 := hRc.frozen 1
        simp only [List.getElem?_cons_zero, List.getElem?_cons_succ] at r0 r1
        have HE := hide (Ans.store hrc ((unhide HB0) _) (unhide HR0).lt hbc)
        obtain ⟨ac, mc, cc, rfl⟩ := hrc.shape
        clear gz gn hrc hbc
        go_wp2_with fail
        refine bodyPost_ret (v := .agg #[.int .i64 0, .slice ac mc cc]) (by simp [results, Tryd.results83, go_sem, r0, r1]) rfl (ans_of (unhide fin2) ((unhide HE) _ _).1 ((unhide HE) _ _).2)
      · obtain ⟨k, hk⟩ := Int.eq_ofNat_of_zero_le (show 0 ≤ n + (m : Int) by omega)
        have fin2 := hide ((unhide fin).trans (by rw [(unhide hneg) k (by omega) h1 hk]))
        have hkm : k < m := by omega
        obtain rfl : n = (k : Int) - (m : Int) := by omega
        have hsum : (k : Int) - (m : Int) + (m : Int) = (k : Int) := by omega
        clear hk hout hneg hpos
        go_enter Tryd.func83, Tryd.ntmps83
        go_wp2_with fail
        try rw [hsum]
        refine (l1In_yes _ _ _ _ (by omega) (by omega)).mono ?_; rintro e w' ⟨rfl, rfl⟩
        go_wp2_with fail
        refine ((unhide HP) _ ((unhide HRA) _) ((unhide HBA) _)).mono ?_
        rintro e2 w2 ⟨s2, rfl, hs2, hb2⟩
        obtain ⟨g2, cap2, s3, rfl, hcap2, f2, hr2⟩ := hs2.at (i := k) (by rw [unhide HSL]; omega)
        rw [(unhide hget2) k (by omega)] at hr2
        rw [unhide HSL] at hcap2 ⊢
        have hR2 := (unhide HR0).below hb2 (unhide HR0).lt
        have r0 := hR2.cell 0
        have r1 := hR2.cell 1
        have z0 := hR2.frozen 0
        have z1 := hR2.frozen 1
        simp only [List.getElem?_cons_zero, List.getElem?_cons_succ] at r0 r1
        have HE := hide (Ans.store hr2 ((unhide HB0) _) (unhide HR0).lt hb2)
        obtain ⟨ac, mc, cc, rfl⟩ := hr2.shape
        clear hr2 hb2 hs2
        go_wp2_with fail
        refine bodyPost_ret (v := .agg #[.int .i64 0, .slice ac mc cc]) (by simp [results, Tryd.results83, go_sem, r0, r1]) rfl (ans_of (unhide fin2) ((unhide HE) _ _).1 ((unhide HE) _ _).2)
    · obtain ⟨k, rfl⟩ := Int.eq_ofNat_of_zero_le (show 0 ≤ n by omega)
      by_cases h2 : m ≤ k
      · have fin2 := hide ((unhide fin).trans (by rw [(unhide hout) (.inr (by omega))]))
        clear hout hneg hpos
        go_enter Tryd.func83, Tryd.ntmps83
        go_wp2_with fail
        refine (l1In_no _ _ _ _ (.inr (by omega))).mono ?_; rintro e w' ⟨rfl, rfl⟩
        go_wp2_with fail
        refine (l3Null_any _).mono ?_
        rintro ec wc ⟨sc, rfl, hrc, hbc⟩
        have hRc := (unhide HR0).below hbc (unhide HR0).lt
        have r0 := hRc.cell 0
        have r1 := hRc.cell 1
        have z0 := hRc.frozen 0
        have z1 := hRc.frozen 1
        simp only [List.getElem?_cons_zero, List.getElem?_cons_succ] at r0 r1
        have HE := hide (Ans.store hrc ((unhide HB0) _) (unhide HR0).lt hbc)
        obtain ⟨ac, mc, cc, rfl⟩ := hrc.shape
        clear gz gn hrc hbc
        go_wp2_with fail
        refine bodyPost_ret (v := .agg #[.int .i64 0, .slice ac mc cc]) (by simp [results, Tryd.results83, go_sem, r0, r1]) rfl (ans_of (unhide fin2) ((unhide HE) _ _).1 ((unhide HE) _ _).2)
      · have fin2 := hide ((unhide fin).trans (by rw [(unhide hpos) k (by omega)]))
        have hkm : k < m := by omega
        clear hout hneg hpos
        go_enter Tryd.func83, Tryd.ntmps83
        go_wp2_with fail
        refine (l1In_yes _ _ _ _ (by omega) (by omega)).mono ?_; rintro e w' ⟨rfl, rfl⟩
        go_wp2_with fail
        refine ((unhide HP) _ ((unhide HRA) _) ((unhide HBA) _)).mono ?_
        rintro e2 w2 ⟨s2, rfl, hs2, hb2⟩
        obtain ⟨g2, cap2, s3, rfl, hcap2, f2, hr2⟩ := hs2.at (i := k) (by rw [unhide HSL]; omega)
        rw [(unhide hget2) k (by omega)] at hr2
        rw [unhide HSL] at hcap2 ⊢
        have hR2 := (unhide HR0).below hb2 (unhide HR0).lt
        have r0 := hR2.cell 0
        have r1 := hR2.cell 1
        have z0 := hR2.frozen 0
        have z1 := hR2.frozen 1
        simp only [List.getElem?_cons_zero, List.getElem?_cons_succ] at r0 r1
        have HE := hide (Ans.store hr2 ((unhide HB0) _) (unhide HR0).lt hb2)
        obtain ⟨ac, mc, cc, rfl⟩ := hr2.shape
        clear hr2 hb2 hs2
        go_wp2_with fail
        refine bodyPost_ret (v := .agg #[.int .i64 0, .slice ac mc cc]) (by simp [results, Tryd.results83, go_sem, r0, r1]) rfl (ans_of (unhide fin2) ((unhide HE) _ _).1 ((unhide HE) _ _).2)
  · have fin := hide (idx_kind (v := v) (n := n) k0 k5)
    generalize v.getD 0 M.zero = c at *
    have gz : ∀ o, (w.alloc o).cell? ⟨b, off, none⟩ = some (.int .i64 c.kind) := fun o => (((unhide HB0) o).cell hb).trans g0
    have e0 : (c.kind == 0) = false := by simp [k0]
    have n5 : (c.kind != 5) = true := by simp [k5]
    have e5 : (c.kind == 5) = false := by simp [k5]
    clear g0 k0 k5 hok gn hNA hN
    go_enter Tryd.func83, Tryd.ntmps83
    go_wp2_with fail
    refine (l3Bad_any _ _).mono ?_
    rintro ec wc ⟨sc, rfl, hrc, hbc⟩
    have hRc := (unhide HR0).below hbc (unhide HR0).lt
    have r0 := hRc.cell 0
    have r1 := hRc.cell 1
    have z0 := hRc.frozen 0
    have z1 := hRc.frozen 1
    simp only [List.getElem?_cons_zero, List.getElem?_cons_succ] at r0 r1
    have HE := hide (Ans.store hrc ((unhide HB0) _) (unhide HR0).lt hbc)
    obtain ⟨ac, mc, cc, rfl⟩ := hrc.shape
    clear gz e0 e5 n5 hrc hbc
    go_wp2_with fail
    refine bodyPost_ret (v := .agg #[.int .i64 6, .slice ac mc cc]) (by simp [results, Tryd.results83, go_sem, r0, r1]) rfl (ans_of (unhide fin) ((unhide HE) _ _).1 ((unhide HE) _ _).2)

end Go.Proofs.YtlbmpldknfcfhaaDoor

namespace Go.Proofs.YtlbmpldknfcfhaaDoor
open Go.RowKit
set_option linter.unusedVariables false

set_option maxRecDepth 100000 in
set_option maxHeartbeats 2000000 in
theorem implGetIndex_any (v : List M.Cl) (b off cap : Nat) (n : Int) (w : World) (hrow : Row w b off v) (hb : b < w.heap.size) (hn : v.length ≤ 1048576) (hcap : v.length ≤ cap) (hok : ∀ c ∈ v, c.ok) (n0 : -9223372036854775808 ≤ n) (n1 : n ≤ 9223372036854775807) :
    Calls Tryd.prog 88 #[.slice (some ⟨b, off, none⟩) v.length cap, .int .i64 n] w (Ans w (getIdxOut v n)) := by
  have OK := hide hok
  have B0 : ∀ o, Below w.heap.size w (w.alloc o) := fun o => (Below.refl _ _).alloc (Nat.le_refl _) o
  have HB0 := hide B0
  clear B0
  clear hok
  go_enter Tryd.func88, Tryd.ntmps88
  go_wp2_with fail
  refine (implFault_any v b off cap _ (hrow.below ((unhide HB0) _) hb) (by simp; omega) hn hcap (unhide OK)).mono ?_
  rintro e1 w1 ⟨rfl, hb1⟩
  have hR : Own w1 w.heap.size 56 [.int .i64 0, .slice none 0 0] := Own.below ⟨_, heap_alloc_new _ _, rfl⟩ hb1 (by simp)
  have B1 : Below w.heap.size w w1 := ((unhide HB0) _).trans (hb1.mono (by simp))
  have hrow1 := hrow.below B1 hb
  have hb1' : b < w1.heap.size := Nat.lt_of_lt_of_le hb B1.size
  clear hb1
  by_cases hv : M.valueFault v = 0
  · rw [hv]
    have fin := hide (gi_ok (n := n) hv)
    have hl1 := (M.fault_zero hv).1
    have hl2 := (M.fault_zero hv).2.1
    have g := hrow1 0 (by omega)
    have g0 := g.1
    simp only [Nat.zero_mul, Nat.add_zero] at g0
    clear g
    by_cases kk : (v.getD 0 M.zero).kind = 0 ∨ (v.getD 0 M.zero).kind = 5
    · have fin2 := hide ((unhide fin).trans (idx_some (v := v) (n := n) kk))
      have HC := hide (fun w' (r : Row w' b off v) hb' => childPlaces_any v b off cap 0 w' hv (by omega) r hb' hcap)
      have HPT := hide (fun a (ha : a < v.length) w' (r : Row w' b off v) hb' => partOf_any v b off cap a w' hv ha r hb' hcap)
      have hin := M.places_in hv 0 (by omega)
      have HIN := hide hin.1
      have hend := hide hin.2.2.1
      have hA := hin.2.2.2
      have hout := hide (fun h => idx_out (v := v) (n := n) h)
      have hneg := hide (fun k h1 h2 h3 => idx_neg (v := v) (n := n) (k := k) h1 h2 h3)
      have hpos := hide (fun k h => idx_pos (v := v) (k := k) h)
      clear hin hv fin
      generalize M.arity v 0 = m at *
      rcases kk with kk | kk
      all_goals
        rw [kk] at g0
        clear kk
        go_wp2_with fail
        refine ((unhide HC) _ hrow1 hb1').mono ?_
        rintro e2 w2 ⟨sa, rfl, hra, hb2⟩
        have hR2 := hR.below hb2 hR.lt
        have B2 : Below w.heap.size w w2 := B1.trans (hb2.mono B1.size)
        have hrr := hrow.below B2 hb
        have hbr : b < w2.heap.size := Nat.lt_of_lt_of_le hb B2.size
        clear hb2 g0 HC
        by_cases hout1 : n < -(m : Int) ∨ (m : Int) ≤ n
        · have fin3 := hide ((unhide fin2).trans (by rw [(unhide hout) hout1]))
          have hsh : ∃ aa cx, sa = .slice aa m cx := by
            obtain ⟨_, ⟨rfl, hnil⟩ | ⟨ba, ca, rfl, _, hca, hoa⟩⟩ := hra
            · have hm0 : m = 0 := by have := congrArg List.length hnil; rwa [firstPl_length] at this
              exact ⟨_, _, by rw [hm0]⟩
            · exact ⟨_, _, by rw [firstPl_length]⟩
          obtain ⟨aa, cx, rfl⟩ := hsh
          clear hra hout hneg hpos
          rcases hout1 with hout1 | hout1
          all_goals
            go_wp2_with fail
            refine (nullResult_any _).mono ?_
            rintro ec wc ⟨sc, rfl, hrc, hbc⟩
            have hRc := hR2.below hbc hR2.lt
            have r0 := hRc.cell 0
            have r1 := hRc.cell 1
            have z0 := hRc.frozen 0
            have z1 := hRc.frozen 1
            simp only [List.getElem?_cons_zero, List.getElem?_cons_succ] at r0 r1
            have HE := hide (Ans.store hrc B2 hR2.lt hbc)
            obtain ⟨ac, mc, cc, rfl⟩ := hrc.shape
            clear hrc hbc
            go_wp2_with fail
            refine bodyPost_ret (v := .agg #[.int .i64 0, .slice ac mc cc]) (by simp [results, Tryd.results88, go_sem, r0, r1]) rfl (ans_of (unhide fin3) ((unhide HE) _ _).1 ((unhide HE) _ _).2)
        · obtain ⟨_, ⟨rfl, hnil⟩ | ⟨ba, ca, rfl, _, hca, hoa⟩⟩ := hra
          · have hm0 : m = 0 := by have := congrArg List.length hnil; rwa [firstPl_length] at this
            omega
          have q1 : -(m : Int) ≤ n := by omega
          have q2 : n < (m : Int) := by omega
          clear hout1
          rw [firstPl_length] at hca ⊢
          by_cases hn0 : n < 0
          · obtain ⟨k, hk⟩ := Int.eq_ofNat_of_zero_le (show 0 ≤ n + (m : Int) by omega)
            have fin3 := hide ((unhide fin2).trans (by rw [(unhide hneg) k (by omega) hn0 hk]))
            have hkm : k < m := by omega
            have fa := hoa.cell (i := k) (by rw [firstPl_length]; exact hkm)
            rw [firstPl_getD v 0 m k hkm] at fa
            simp only [Nat.zero_add] at fa
            have hp : M.iter v k 1 < v.length := by have h1 := (unhide HIN) k hkm; have h2 := unhide hend; simp only [Nat.zero_add] at h1; omega
            have HPO := hide ((unhide HPT) (M.iter v k 1) hp w2 hrr hbr)
            obtain rfl : n = (k : Int) - (m : Int) := by omega
            have hsum : (k : Int) - (m : Int) + (m : Int) = (k : Int) := by omega
            clear hk hout hneg hpos
            generalize M.iter v k 1 = p at *
            go_wp2_with fail
            refine (unhide HPO).mono ?_
            rintro e3 w3 ⟨s3, rfl, hr3, hb3⟩
            have hR3 := hR2.below hb3 hR2.lt
            have r0 := hR3.cell 0
            have r1 := hR3.cell 1
            have z0 := hR3.frozen 0
            have z1 := hR3.frozen 1
            simp only [List.getElem?_cons_zero, List.getElem?_cons_succ] at r0 r1
            have HE := hide (Ans.store hr3 B2 hR2.lt hb3)
            obtain ⟨ac, mc, cc, rfl⟩ := hr3.shape
            clear hr3 hb3 HPO fa
            go_wp2_with fail
            refine bodyPost_ret (v := .agg #[.int .i64 0, .slice ac mc cc]) (by simp [results, Tryd.results88, go_sem, r0, r1]) rfl (ans_of (unhide fin3) ((unhide HE) _ _).1 ((unhide HE) _ _).2)
          · obtain ⟨k, rfl⟩ := Int.eq_ofNat_of_zero_le (show 0 ≤ n by omega)
            have fin3 := hide ((unhide fin2).trans (by rw [(unhide hpos) k (by omega)]))
            have hkm : k < m := by omega
            have fa := hoa.cell (i := k) (by rw [firstPl_length]; exact hkm)
            rw [firstPl_getD v 0 m k hkm] at fa
            simp only [Nat.zero_add] at fa
            have hp : M.iter v k 1 < v.length := by have h1 := (unhide HIN) k hkm; have h2 := unhide hend; simp only [Nat.zero_add] at h1; omega
            have HPO := hide ((unhide HPT) (M.iter v k 1) hp w2 hrr hbr)
            clear hout hneg hpos
            generalize M.iter v k 1 = p at *
            go_wp2_with fail
            refine (unhide HPO).mono ?_
            rintro e3 w3 ⟨s3, rfl, hr3, hb3⟩
            have hR3 := hR2.below hb3 hR2.lt
            have r0 := hR3.cell 0
            have r1 := hR3.cell 1
            have z0 := hR3.frozen 0
            have z1 := hR3.frozen 1
            simp only [List.getElem?_cons_zero, List.getElem?_cons_succ] at r0 r1
            have HE := hide (Ans.store hr3 B2 hR2.lt hb3)
            obtain ⟨ac, mc, cc, rfl⟩ := hr3.shape
            clear hr3 hb3 HPO fa
            go_wp2_with fail
            refine bodyPost_ret (v := .agg #[.int .i64 0, .slice ac mc cc]) (by simp [results, Tryd.results88, go_sem, r0, r1]) rfl (ans_of (unhide fin3) ((unhide HE) _ _).1 ((unhide HE) _ _).2)
    · have h0 : (v.getD 0 M.zero).kind ≠ 0 := fun e => kk (.inl e)
      have h5 : (v.getD 0 M.zero).kind ≠ 5 := fun e => kk (.inr e)
      have fin2 := hide ((unhide fin).trans (idx_kind (v := v) (n := n) h0 h5))
      generalize v.getD 0 M.zero = c at *
      have m0 : (c.kind != 0) = true := by simp [h0]
      have m5 : (c.kind != 5) = true := by simp [h5]
      have r0 := hR.cell 0
      have r1 := hR.cell 1
      have z0 := hR.frozen 0
      have z1 := hR.frozen 1
      simp only [List.getElem?_cons_zero, List.getElem?_cons_succ] at r0 r1
      clear h0 h5 kk fin hv
      go_wp2_with fail
      refine bodyPost_ret (v := .agg #[.int .i64 6, .slice none 0 0]) (by simp [results, Tryd.results88, go_sem, r0, r1]) rfl (ans_of (unhide fin2) (resNil _ _) (store_below B1 _ _))
  · have fin := hide (gi_bad (n := n) hv)
    generalize M.valueFault v = q at *
    have hz' : (q == 0) = false := by simp [hv]
    have r0 := hR.cell 0
    have r1 := hR.cell 1
    have z0 := hR.frozen 0
    have z1 := hR.frozen 1
    simp only [List.getElem?_cons_zero, List.getElem?_cons_succ] at r0 r1
    clear hv
    go_wp2_with fail
    refine bodyPost_ret (v := .agg #[.int .i64 q, .slice none 0 0]) (by simp [results, Tryd.results88, go_sem, r0, r1]) rfl (ans_of (unhide fin) (resNil _ _) (store_below B1 _ _))

end Go.Proofs.YtlbmpldknfcfhaaDoor
