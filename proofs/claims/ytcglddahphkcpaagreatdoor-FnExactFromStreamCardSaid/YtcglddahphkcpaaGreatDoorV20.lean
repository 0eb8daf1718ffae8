/-
  spec.GetKey and impl.GetKey.
  impl.GetKey.
  spec.LengthOf and impl.LengthOf.
  spec.GetAt and impl.GetAt.
-/
import Derived.Test.YtcglddahphkcpaaGreatDoorV16
import Derived.Test.YtcglddahphkcpaaGreatDoorV18
import Derived.Test.YtcglddahphkcpaaGreatDoorV19
namespace Go.Proofs.YtcglddahphkcpaaGreatDoor
open Go.RowKit
set_option linter.unusedVariables false

theorem keysAt_getD' (v : List M.Cl) (i : Nat) (hi : i < M.arity v 0) : (keysAt v 0).getD i ByteArray.empty = (v.getD (M.iter v i 1) M.zero).key := by
  simp [keysAt, M.places, List.getD_eq_getElem?_getD, hi]
theorem subs_getD' (v : List M.Cl) (i : Nat) (hi : i < M.arity v 0) : (subs v 0).getD i [] = part v (M.iter v i 1) := by
  simp [subs, M.places, List.getD_eq_getElem?_getD, hi]

set_option maxHeartbeats 2000000 in
theorem l3Get_any (v : List M.Cl) (b off cap : Nat) (key : ByteArray) (w : World) (hv : M.valueFault v = 0) (hrow : Row w b off v) (hb : b < w.heap.size) (hcap : v.length ≤ cap) (hok : ∀ c ∈ v, c.ok) :
    Calls Tryz.prog 74 #[.slice (some ⟨b, off, none⟩) v.length cap, .string key] w (Ans w (getOut v key)) := by
  have hl1 := (M.fault_zero hv).1
  have hl2 := (M.fault_zero hv).2.1
  have HV := hide hv
  have OK := hide hok
  have B0 : ∀ o, Below w.heap.size w (w.alloc o) := fun o => (Below.refl _ _).alloc (Nat.le_refl _) o
  have HB0 := hide B0
  clear B0
  have hR0 : Own (w.alloc (.cells #[.int .i64 0, .slice none 0 0] 59)) w.heap.size 59 [.int .i64 0, .slice none 0 0] := ⟨_, heap_alloc_new _ _, rfl⟩
  have g := hrow 0 (by omega)
  have g0 := g.1
  simp only [Nat.zero_mul, Nat.add_zero] at g0
  clear g
  have HR0 := hide hR0
  clear hR0
  have hA := (M.places_in hv 0 (by omega)).2.2.2
  by_cases k0 : (v.getD 0 M.zero).kind = 0
  · have fin := hide (get_null (key := key) hv k0)
    have gz : ∀ o, (w.alloc o).cell? ⟨b, off, none⟩ = some (.int .i64 0) := fun o => (((unhide HB0) o).cell hb).trans (by rw [g0, k0])
    clear g0 k0 hv hok
    go_enter Tryz.func74, Tryz.ntmps74
    go_wp2_with fail
    refine (l3Null_any _).mono ?_
    rintro ec wc ⟨sc, rfl, hrc, hbc⟩
    have hRc := (unhide HR0).below hbc (unhide HR0).lt
    have r0 := hRc.cell 0
    have r1 := hRc.cell 1
    have z0 := hRc.frozen 0
    have z1 := hRc.frozen 1
    simp only [List.getElem?_cons_zero, List.getElem?_cons_succ] at r0 r1
    have HE := hide (Ans.store hrc ((unhide HB0) _) (unhide HR0).lt hbc)
    obtain ⟨ac, mc, cc, rfl⟩ := hrc.shape
    clear gz hrc hbc
    go_wp2_with fail
    refine bodyPost_ret (v := .agg #[.int .i64 0, .slice ac mc cc]) (by simp [results, Tryz.results74, go_sem, r0, r1]) rfl (ans_of (unhide fin) ((unhide HE) _ _).1 ((unhide HE) _ _).2)
  by_cases k6 : (v.getD 0 M.zero).kind = 6
  · have fin := hide (get_some (v := v) (key := key) (.inr k6))
    have gz : ∀ o, (w.alloc o).cell? ⟨b, off, none⟩ = some (.int .i64 6) := fun o => (((unhide HB0) o).cell hb).trans (by rw [g0, k6])
    have HK := hide (fun w' (r : Row w' b off v) hb' => l1Keys_any v b off cap w' hv r hb' hcap hok)
    have HP := hide (fun w' (r : Row w' b off v) hb' => l1Parts_any v b off cap w' hv r hb' hcap hok)
    clear g0 k0 k6 hok
    go_enter Tryz.func74, Tryz.ntmps74
    go_wp2_with fail
    refine ((unhide HK) _ (hrow.below ((unhide HB0) _) hb) (by simp; omega)).mono ?_
    rintro e1 w1 ⟨s1, rfl, hk1, hb1⟩
    have hR := (unhide HR0).below hb1 (unhide HR0).lt
    have B1 : Below w.heap.size w w1 := ((unhide HB0) _).trans (hb1.mono (by simp))
    obtain ⟨ka, kc, rfl, hkc, htv⟩ := hk1.tv
    have hkl := keysAt_length v 0
    have hsl := subs_length v 0
    have hget := hide (fun i (hi : i < M.arity v 0) => keysAt_getD' v i hi)
    have hget2 := hide (fun i (hi : i < M.arity v 0) => subs_getD' v i hi)
    have hhit := hide (fun k hk h hh => getV_hit (v := v) (key := key) (k := k) hk h hh)
    have hnone := hide (fun h => getV_none (v := v) (key := key) h)
    have HTV := hide htv
    clear hk1 htv hb1 gz hv
    rw [hkl] at hkc ⊢
    have HKL := hide hkl
    have HSL := hide hsl
    clear hkl hsl
    generalize M.arity v 0 = m at *
    go_wp2_with fail
    go_loopg [6] m (fun g s6 wr => ∃ k : Nat, Hid (g = m - k) ∧ s6 = .int .i64 k ∧ k ≤ m ∧ Hid (∀ j, j < k → ((v.getD (M.iter v j 1) M.zero).key.toList == key.toList) = false) ∧ Below w1.heap.size w1 wr)
    case atStart => exact ⟨0, rfl, rfl, by omega, fun j hj => absurd hj (by omega), Below.refl _ _⟩
    case round =>
      obtain ⟨k, hg, rfl, hk, hall, hbel⟩ := hrel
      have BR : Below w.heap.size w wr := B1.trans (hbel.mono B1.size)
      have hRr := hR.below hbel hR.lt
      by_cases hlt : k < m
      · obtain ⟨g, rfl, hgl, fk⟩ := ((unhide HTV).below hbel) k (by rw [unhide HKL]; exact hlt)
        rw [(unhide hget) k hlt] at fk
        cases hh : ((v.getD (M.iter v k 1) M.zero).key.toList == key.toList) with
        | true =>
          have fin2 := hide ((unhide fin).trans (by rw [(unhide hhit) k hlt hall.out hh]))
          have hrr := hrow.below BR hb
          have hbr : b < wr.heap.size := Nat.lt_of_lt_of_le hb BR.size
          generalize (v.getD (M.iter v k 1) M.zero).key = ky at *
          go_wp2_with fail
          refine ((unhide HP) _ hrr hbr).mono ?_
          rintro e2 w2 ⟨s2, rfl, hs2, hb2⟩
          obtain ⟨g2, cap2, s3, rfl, hcap2, f2, hr2⟩ := hs2.at (i := k) (by rw [unhide HSL]; exact hlt)
          rw [(unhide hget2) k hlt] at hr2
          rw [unhide HSL] at hcap2 ⊢
          have hR2 := hRr.below hb2 hRr.lt
          have r0 := hR2.cell 0
          have r1 := hR2.cell 1
          have z0 := hR2.frozen 0
          have z1 := hR2.frozen 1
          simp only [List.getElem?_cons_zero, List.getElem?_cons_succ] at r0 r1
          have HE := hide (Ans.store hr2 BR hRr.lt hb2)
          obtain ⟨ac, mc, cc, rfl⟩ := hr2.shape
          clear hr2 hb2 hs2 fk hh
          go_wp2_with fail
          refine bodyPost_ret (v := .agg #[.int .i64 0, .slice ac mc cc]) (by simp [results, Tryz.results74, go_sem, r0, r1]) rfl (ans_of (unhide fin2) ((unhide HE) _ _).1 ((unhide HE) _ _).2)
        | false =>
          have hn2 := hide (show ∀ j, j < k + 1 → ((v.getD (M.iter v j 1) M.zero).key.toList == key.toList) = false by
            intro j hj
            by_cases e : j = k
            · subst e; exact hh
            · exact hall.out j (by omega))
          generalize (v.getD (M.iter v k 1) M.zero).key = ky at *
          go_wp2_with fail
          go_roundg (m - (k + 1))
          case rel => exact ⟨k + 1, rfl, by go_num, by omega, unhide hn2, hbel⟩
          case measure => have := hg.out; omega
      · have hke : k = m := by omega
        subst hke
        have fin2 := hide ((unhide fin).trans (by rw [(unhide hnone) hall.out]))
        go_wp2_with fail
        refine (l3Null_any _).mono ?_
        rintro ec wc ⟨sc, rfl, hrc, hbc⟩
        have hRc := hRr.below hbc hRr.lt
        have r0 := hRc.cell 0
        have r1 := hRc.cell 1
        have z0 := hRc.frozen 0
        have z1 := hRc.frozen 1
        simp only [List.getElem?_cons_zero, List.getElem?_cons_succ] at r0 r1
        have HE := hide (Ans.store hrc BR hRr.lt hbc)
        obtain ⟨ac, mc, cc, rfl⟩ := hrc.shape
        clear hrc hbc
        go_wp2_with fail
        refine bodyPost_ret (v := .agg #[.int .i64 0, .slice ac mc cc]) (by simp [results, Tryz.results74, go_sem, r0, r1]) rfl (ans_of (unhide fin2) ((unhide HE) _ _).1 ((unhide HE) _ _).2)
  · have fin := hide (get_kind (v := v) (key := key) k0 k6)
    generalize v.getD 0 M.zero = c at *
    have gz : ∀ o, (w.alloc o).cell? ⟨b, off, none⟩ = some (.int .i64 c.kind) := fun o => (((unhide HB0) o).cell hb).trans g0
    have e0 : (c.kind == 0) = false := by simp [k0]
    have e6 : (c.kind == 6) = false := by simp [k6]
    clear g0 k0 k6 hok
    go_enter Tryz.func74, Tryz.ntmps74
    go_wp2_with fail
    refine (l3Bad_any _ _).mono ?_
    rintro ec wc ⟨sc, rfl, hrc, hbc⟩
    have hRc := (unhide HR0).below hbc (unhide HR0).lt
    have r0 := hRc.cell 0
    have r1 := hRc.cell 1
    have z0 := hRc.frozen 0
    have z1 := hRc.frozen 1
    simp only [List.getElem?_cons_zero, List.getElem?_cons_succ] at r0 r1
    have HE := hide (Ans.store hrc ((unhide HB0) _) (unhide HR0).lt hbc)
    obtain ⟨ac, mc, cc, rfl⟩ := hrc.shape
    clear gz e0 e6 hrc hbc
    go_wp2_with fail
    refine bodyPost_ret (v := .agg #[.int .i64 6, .slice ac mc cc]) (by simp [results, Tryz.results74, go_sem, r0, r1]) rfl (ans_of (unhide fin) ((unhide HE) _ _).1 ((unhide HE) _ _).2)

end Go.Proofs.YtcglddahphkcpaaGreatDoor

namespace Go.Proofs.YtcglddahphkcpaaGreatDoor
open Go.RowKit
set_option linter.unusedVariables false

set_option maxRecDepth 100000 in
set_option maxHeartbeats 2000000 in
theorem implGetKey_any (v : List M.Cl) (b off cap : Nat) (key : ByteArray) (w : World) (hrow : Row w b off v) (hb : b < w.heap.size) (hn : v.length ≤ 1048576) (hcap : v.length ≤ cap) (hok : ∀ c ∈ v, c.ok) (hk : key.size ≤ 9223372036854775807) :
    Calls Tryz.prog 178 #[.slice (some ⟨b, off, none⟩) v.length cap, .string key] w (Ans w (getKeyOut v key)) := by
  have OK := hide hok
  have B0 : ∀ o, Below w.heap.size w (w.alloc o) := fun o => (Below.refl _ _).alloc (Nat.le_refl _) o
  have HB0 := hide B0
  clear B0
  have HKF := hide (fun o => keyedFault_any key (some ⟨w.heap.size + 1, 0, none⟩) 1 [v] ((w.alloc o).alloc (.cells #[.slice (some ⟨b, off, none⟩) v.length cap] 24)) (LV.one (w.alloc o) (w.heap.size + 1) b off cap v 24 (by simp) (hrow.below ((unhide HB0) _) hb) (by simp; omega) hcap) (by simp) (by simp) (len_one hn) (okS_one hok) hk)
  simp only [List.length_cons, List.length_nil, Nat.zero_add] at HKF
  clear hok
  go_enter Tryz.func178, Tryz.ntmps178
  go_wp2_with fail
  refine ((unhide HKF) _).mono ?_
  rintro e1 w1 ⟨rfl, hb1⟩
  have hR : Own w1 w.heap.size 59 [.int .i64 0, .slice none 0 0] := Own.below (Own.alloc ⟨_, heap_alloc_new _ _, rfl⟩ _) hb1 (by simp; omega)
  have B1 : Below w.heap.size w w1 := (((unhide HB0) _).alloc (by simp) _).trans (hb1.mono (by simp; omega))
  have hrow1 := hrow.below B1 hb
  have hb1' : b < w1.heap.size := Nat.lt_of_lt_of_le hb B1.size
  clear hb1 HKF
  by_cases hv : M.valueFault v = 0
  · by_cases ht : M.textOk key = true
    · have hko : keyedOut [v] key = 0 := by unfold keyedOut; rw [firstBad_one, if_neg (by simp [hv]), if_pos ht]
      rw [hko]
      clear hko
      have fin := hide (gk_ok hv ht)
      have hl1 := (M.fault_zero hv).1
      have hl2 := (M.fault_zero hv).2.1
      have g := hrow1 0 (by omega)
      have g0 := g.1
      simp only [Nat.zero_mul, Nat.add_zero] at g0
      clear g
      by_cases kk : (v.getD 0 M.zero).kind = 0 ∨ (v.getD 0 M.zero).kind = 6
      · have fin2 := hide ((unhide fin).trans (get_some (v := v) (key := key) kk))
        have HC := hide (fun w' (r : Row w' b off v) hb' => childPlaces_any v b off cap 0 w' hv (by omega) r hb' hcap)
        have hin := M.places_in hv 0 (by omega)
        have HIN := hide hin.1
        have hend := hide hin.2.2.1
        have hA := hin.2.2.2
        have hhit := hide (fun k hk h hh => getV_hit (v := v) (key := key) (k := k) hk h hh)
        have hnone := hide (fun h => getV_none (v := v) (key := key) h)
        have HV := hide hv
        clear hin ht hv fin
        generalize M.arity v 0 = m at *
        rcases kk with kk | kk
        all_goals
          rw [kk] at g0
          clear kk
          go_wp2_with fail
          refine ((unhide HC) _ hrow1 hb1').mono ?_
          rintro e2 w2 ⟨sa, rfl, hra, hb2⟩
          have hR2 := hR.below hb2 hR.lt
          have B2 : Below w.heap.size w w2 := B1.trans (hb2.mono B1.size)
          clear hb2 g0 HC
          obtain ⟨_, ⟨rfl, hnil⟩ | ⟨ba, ca, rfl, _, hca, hoa⟩⟩ := hra
          · have hm0 : m = 0 := by have := congrArg List.length hnil; rwa [firstPl_length] at this
            subst hm0
            have fin3 := hide ((unhide fin2).trans (by rw [(unhide hnone) (fun j hj => by omega)]))
            go_wp2_with fail
            refine wp_loop_rounds 1 ?_
            rw [rounds_succ]
            go_wp2_with fail
            refine (nullResult_any _).mono ?_
            rintro ec wc ⟨sc, rfl, hrc, hbc⟩
            have hRc := hR2.below hbc hR2.lt
            have r0 := hRc.cell 0
            have r1 := hRc.cell 1
            have z0 := hRc.frozen 0
            have z1 := hRc.frozen 1
            simp only [List.getElem?_cons_zero, List.getElem?_cons_succ] at r0 r1
            have HE := hide (Ans.store hrc B2 hR2.lt hbc)
            obtain ⟨ac, mc, cc, rfl⟩ := hrc.shape
            clear hrc hbc
            go_wp2_with fail
            refine bodyPost_ret (v := .agg #[.int .i64 0, .slice ac mc cc]) (by simp [results, Tryz.results178, go_sem, r0, r1]) rfl (ans_of (unhide fin3) ((unhide HE) _ _).1 ((unhide HE) _ _).2)
          · rw [firstPl_length] at hca ⊢
            go_wp2_with fail
            go_loopg [32] m (fun g s32 wr => ∃ k : Nat, Hid (g = m - k) ∧ s32 = .int .i64 k ∧ k ≤ m ∧ Hid (∀ j, j < k → ((v.getD (M.iter v j 1) M.zero).key.toList == key.toList) = false) ∧ Below w2.heap.size w2 wr)
            case atStart => exact ⟨0, rfl, rfl, by omega, fun j hj => absurd hj (by omega), Below.refl _ _⟩
            case round =>
              obtain ⟨k, hg, rfl, hk', hall, hbel⟩ := hrel
              have BR : Below w.heap.size w wr := B2.trans (hbel.mono B2.size)
              have hRr := hR2.below hbel hR2.lt
              by_cases hlt : k < m
              · have h1 := (unhide HIN) k hlt
                have h2 := unhide hend
                have fa := (hoa.below hbel hoa.lt).cell (i := k) (by rw [firstPl_length]; exact hlt)
                rw [firstPl_getD v 0 m k hlt] at fa
                have hrr := hrow.below BR hb
                have fk := (hrr (M.iter v k (0 + 1)) (by omega)).2.2.2.1
                simp only [Nat.zero_add] at fa fk h1
                have hp : M.iter v k 1 < v.length := by omega
                have hbr : b < wr.heap.size := Nat.lt_of_lt_of_le hb BR.size
                clear h1 h2
                cases hh : ((v.getD (M.iter v k 1) M.zero).key.toList == key.toList) with
                | true =>
                  have fin3 := hide ((unhide fin2).trans (by rw [(unhide hhit) k hlt hall.out hh]))
                  generalize (v.getD (M.iter v k 1) M.zero).key = ky at *
                  have HPO := hide (partOf_any v b off cap (M.iter v k 1) wr (unhide HV) hp hrr hbr hcap)
                  generalize M.iter v k 1 = p at *
                  go_wp2_with fail
                  refine (unhide HPO).mono ?_
                  rintro e3 w3 ⟨s3, rfl, hr3, hb3⟩
                  have hR3 := hRr.below hb3 hRr.lt
                  have r0 := hR3.cell 0
                  have r1 := hR3.cell 1
                  have z0 := hR3.frozen 0
                  have z1 := hR3.frozen 1
                  simp only [List.getElem?_cons_zero, List.getElem?_cons_succ] at r0 r1
                  have HE := hide (Ans.store hr3 BR hRr.lt hb3)
                  obtain ⟨ac, mc, cc, rfl⟩ := hr3.shape
                  clear hr3 hb3 fk hh fa HPO
                  go_wp2_with fail
                  refine bodyPost_ret (v := .agg #[.int .i64 0, .slice ac mc cc]) (by simp [results, Tryz.results178, go_sem, r0, r1]) rfl (ans_of (unhide fin3) ((unhide HE) _ _).1 ((unhide HE) _ _).2)
                | false =>
                  have hn2 := hide (show ∀ j, j < k + 1 → ((v.getD (M.iter v j 1) M.zero).key.toList == key.toList) = false by
                    intro j hj
                    by_cases e : j = k
                    · subst e; exact hh
                    · exact hall.out j (by omega))
                  generalize (v.getD (M.iter v k 1) M.zero).key = ky at *
                  generalize M.iter v k 1 = p at *
                  go_wp2_with fail
                  go_roundg (m - (k + 1))
                  case rel => exact ⟨k + 1, rfl, by go_num, by omega, unhide hn2, hbel⟩
                  case measure => have := hg.out; omega
              · have hke : k = m := by omega
                subst hke
                have fin3 := hide ((unhide fin2).trans (by rw [(unhide hnone) hall.out]))
                go_wp2_with fail
                refine (nullResult_any _).mono ?_
                rintro ec wc ⟨sc, rfl, hrc, hbc⟩
                have hRc := hRr.below hbc hRr.lt
                have r0 := hRc.cell 0
                have r1 := hRc.cell 1
                have z0 := hRc.frozen 0
                have z1 := hRc.frozen 1
                simp only [List.getElem?_cons_zero, List.getElem?_cons_succ] at r0 r1
                have HE := hide (Ans.store hrc BR hRr.lt hbc)
                obtain ⟨ac, mc, cc, rfl⟩ := hrc.shape
                clear hrc hbc
                go_wp2_with fail
                refine bodyPost_ret (v := .agg #[.int .i64 0, .slice ac mc cc]) (by simp [results, Tryz.results178, go_sem, r0, r1]) rfl (ans_of (unhide fin3) ((unhide HE) _ _).1 ((unhide HE) _ _).2)
      · have h0 : (v.getD 0 M.zero).kind ≠ 0 := fun e => kk (.inl e)
        have h6 : (v.getD 0 M.zero).kind ≠ 6 := fun e => kk (.inr e)
        have fin2 := hide ((unhide fin).trans (get_kind (v := v) (key := key) h0 h6))
        generalize v.getD 0 M.zero = c at *
        have n0 : (c.kind != 0) = true := by simp [h0]
        have n6 : (c.kind != 6) = true := by simp [h6]
        have r0 := hR.cell 0
        have r1 := hR.cell 1
        have z0 := hR.frozen 0
        have z1 := hR.frozen 1
        simp only [List.getElem?_cons_zero, List.getElem?_cons_succ] at r0 r1
        clear h0 h6 kk fin hv ht
        go_wp2_with fail
        refine bodyPost_ret (v := .agg #[.int .i64 6, .slice none 0 0]) (by simp [results, Tryz.results178, go_sem, r0, r1]) rfl (ans_of (unhide fin2) (resNil _ _) (store_below B1 _ _))
    · have ht' : M.textOk key = false := by simpa using ht
      have hko : keyedOut [v] key = 5 := by unfold keyedOut; rw [firstBad_one, if_neg (by simp [hv]), if_neg ht]
      rw [hko]
      have fin := hide (gk_text hv ht')
      have r0 := hR.cell 0
      have r1 := hR.cell 1
      have z0 := hR.frozen 0
      have z1 := hR.frozen 1
      simp only [List.getElem?_cons_zero, List.getElem?_cons_succ] at r0 r1
      clear hko ht ht' hv
      go_wp2_with fail
      refine bodyPost_ret (v := .agg #[.int .i64 5, .slice none 0 0]) (by simp [results, Tryz.results178, go_sem, r0, r1]) rfl (ans_of (unhide fin) (resNil _ _) (store_below B1 _ _))
  · have hko : keyedOut [v] key = M.valueFault v := by unfold keyedOut; rw [firstBad_one, if_pos hv]
    have fin := hide (gk_bad (key := key) hv)
    rw [hko]
    clear hko
    generalize M.valueFault v = q at *
    have hz' : (q == 0) = false := by simp [hv]
    have r0 := hR.cell 0
    have r1 := hR.cell 1
    have z0 := hR.frozen 0
    have z1 := hR.frozen 1
    simp only [List.getElem?_cons_zero, List.getElem?_cons_succ] at r0 r1
    clear hv
    go_wp2_with fail
    refine bodyPost_ret (v := .agg #[.int .i64 q, .slice none 0 0]) (by simp [results, Tryz.results178, go_sem, r0, r1]) rfl (ans_of (unhide fin) (resNil _ _) (store_below B1 _ _))

end Go.Proofs.YtcglddahphkcpaaGreatDoor

namespace Go.Proofs.YtcglddahphkcpaaGreatDoor
open Go.RowKit
set_option linter.unusedVariables false

/-- The size of a number. -/
def size (n : Int) : Int := if n < 0 then -n else n
/-- What is known of a cell that has no fault. -/
theorem code_bd {c : M.Cl} (h : M.cellCode c = 0) : 0 ≤ c.kind ∧ c.kind ≤ 6 ∧ -1000000000000000 ≤ c.num ∧ c.num ≤ 1000000000000000 ∧ 0 ≤ c.n ∧ c.n ≤ 200 ∧ M.textOk c.text = true ∧ M.textOk c.key = true := by
  unfold M.cellCode at h
  split at h
  · cases h
  split at h
  · cases h
  split at h
  · cases h
  split at h
  · rename_i h4; exact ⟨by omega, by omega, by omega, by omega, by omega, by omega, h4.1, h4.2⟩
  · cases h
theorem textOk_size {s : ByteArray} (h : M.textOk s = true) : s.size ≤ 60 := by
  unfold M.textOk at h
  rw [Bool.and_eq_true] at h
  exact of_decide_eq_true h.1

end Go.Proofs.YtcglddahphkcpaaGreatDoor

namespace Go.Proofs.YtcglddahphkcpaaGreatDoor
open Go.RowKit
set_option linter.unusedVariables false

def atIn (v : List M.Cl) (c : M.Cl) : Int × List M.Cl := if c.kind = 4 then getOut v c.text else if c.kind = 3 then idxOut v c.num else (6, [])
end Go.Proofs.YtcglddahphkcpaaGreatDoor
