/-
  spec.GetKey and impl.GetKey.
-/
import Derived.Test.YthaabakpcokomaaBoth
import Derived.Test.YthaabakpcokomaaPrtI
namespace Go.Proofs.Ythaabakpcokomaa
open Go.RowKit
set_option linter.unusedVariables false

theorem keysAt_getD' (v : List M.Cl) (i : Nat) (hi : i < M.arity v 0) : (keysAt v 0).getD i ByteArray.empty = (v.getD (M.iter v i 1) M.zero).key := by
  simp [keysAt, M.places, List.getD_eq_getElem?_getD, hi]
theorem subs_getD' (v : List M.Cl) (i : Nat) (hi : i < M.arity v 0) : (subs v 0).getD i [] = part v (M.iter v i 1) := by
  simp [subs, M.places, List.getD_eq_getElem?_getD, hi]

set_option maxHeartbeats 2000000 in
theorem l3Get_any (v : List M.Cl) (b off cap : Nat) (key : ByteArray) (w : World) (hv : M.valueFault v = 0) (hrow : Row w b off v) (hb : b < w.heap.size) (hcap : v.length ≤ cap) (hok : ∀ c ∈ v, c.ok) :
    Calls Try.prog 123 #[.slice (some ⟨b, off, none⟩) v.length cap, .string key] w (Ans w (getOut v key)) := by
  have hl1 := (M.fault_zero hv).1
  have hl2 := (M.fault_zero hv).2.1
  have HV := hide hv
  have OK := hide hok
  have B0 : ∀ o, Below w.heap.size w (w.alloc o) := fun o => (Below.refl _ _).alloc (Nat.le_refl _) o
  have HB0 := hide B0
  clear B0
  have hR0 : Own (w.alloc (.cells #[.int .i64 0, .slice none 0 0] 36)) w.heap.size 36 [.int .i64 0, .slice none 0 0] := ⟨_, heap_alloc_new _ _, rfl⟩
  have g := hrow 0 (by omega)
  have g0 := g.1
  simp only [Nat.zero_mul, Nat.add_zero] at g0
  clear g
  have HR0 := hide hR0
  clear hR0
  have hA := (M.places_in hv 0 (by omega)).2.2.2
  by_cases k0 : (v.getD 0 M.zero).kind = 0
  · have fin := hide (get_null (key := key) hv k0)
    have gz : ∀ o, (w.alloc o).cell? ⟨b, off, none⟩ = some (.int .i64 0) := fun o => (((unhide HB0) o).cell hb).trans (by rw [g0, k0])
    clear g0 k0 hv hok
    go_enter Try.func123, Try.ntmps123
    go_wp2_with fail
    refine (l3Null_any _).mono ?_
    rintro ec wc ⟨sc, rfl, hrc, hbc⟩
    have hRc := (unhide HR0).below hbc (unhide HR0).lt
    have r0 := hRc.cell 0
    have r1 := hRc.cell 1
    have z0 := hRc.frozen 0
    have z1 := hRc.frozen 1
    simp only [List.getElem?_cons_zero, List.getElem?_cons_succ] at r0 r1
    have HE := hide (Ans.store hrc ((unhide HB0) _) (unhide HR0).lt hbc)
    obtain ⟨ac, mc, cc, rfl⟩ := hrc.shape
    clear gz hrc hbc
    go_wp2_with fail
    refine bodyPost_ret (v := .agg #[.int .i64 0, .slice ac mc cc]) (by simp [results, Try.results123, go_sem, r0, r1]) rfl (ans_of (unhide fin) ((unhide HE) _ _).1 ((unhide HE) _ _).2)
  by_cases k6 : (v.getD 0 M.zero).kind = 6
  · have fin := hide (get_some (v := v) (key := key) (.inr k6))
    have gz : ∀ o, (w.alloc o).cell? ⟨b, off, none⟩ = some (.int .i64 6) := fun o => (((unhide HB0) o).cell hb).trans (by rw [g0, k6])
    have HK := hide (fun w' (r : Row w' b off v) hb' => l1Keys_any v b off cap w' hv r hb' hcap hok)
    have HP := hide (fun w' (r : Row w' b off v) hb' => l1Parts_any v b off cap w' hv r hb' hcap hok)
    clear g0 k0 k6 hok
    go_enter Try.func123, Try.ntmps123
    go_wp2_with fail
    refine ((unhide HK) _ (hrow.below ((unhide HB0) _) hb) (by simp; omega)).mono ?_
    rintro e1 w1 ⟨s1, rfl, hk1, hb1⟩
    have hR := (unhide HR0).below hb1 (unhide HR0).lt
    have B1 : Below w.heap.size w w1 := ((unhide HB0) _).trans (hb1.mono (by simp))
    obtain ⟨ka, kc, rfl, hkc, htv⟩ := hk1.tv
    have hkl := keysAt_length v 0
    have hsl := subs_length v 0
    have hget := hide (fun i (hi : i < M.arity v 0) => keysAt_getD' v i hi)
    have hget2 := hide (fun i (hi : i < M.arity v 0) => subs_getD' v i hi)
    have hhit := hide (fun k hk h hh => getV_hit (v := v) (key := key) (k := k) hk h hh)
    have hnone := hide (fun h => getV_none (v := v) (key := key) h)
    have HTV := hide htv
    clear hk1 htv hb1 gz hv
    rw [hkl] at hkc ⊢
    have HKL := hide hkl
    have HSL := hide hsl
    clear hkl hsl
    generalize M.arity v 0 = m at *
    go_wp2_with fail
    go_loopg [6] m (fun g s6 wr => ∃ k : Nat, Hid (g = m - k) ∧ s6 = .int .i64 k ∧ k ≤ m ∧ Hid (∀ j, j < k → ((v.getD (M.iter v j 1) M.zero).key.toList == key.toList) = false) ∧ Below w1.heap.size w1 wr)
    case atStart => exact ⟨0, rfl, rfl, by omega, fun j hj => absurd hj (by omega), Below.refl _ _⟩
    case round =>
      obtain ⟨k, hg, rfl, hk, hall, hbel⟩ := hrel
      have BR : Below w.heap.size w wr := B1.trans (hbel.mono B1.size)
      have hRr := hR.below hbel hR.lt
      by_cases hlt : k < m
      · obtain ⟨g, rfl, hgl, fk⟩ := ((unhide HTV).below hbel) k (by rw [unhide HKL]; exact hlt)
        rw [(unhide hget) k hlt] at fk
        cases hh : ((v.getD (M.iter v k 1) M.zero).key.toList == key.toList) with
        | true =>
          have fin2 := hide ((unhide fin).trans (by rw [(unhide hhit) k hlt hall.out hh]))
          have hrr := hrow.below BR hb
          have hbr : b < wr.heap.size := Nat.lt_of_lt_of_le hb BR.size
          generalize (v.getD (M.iter v k 1) M.zero).key = ky at *
          go_wp2_with fail
          refine ((unhide HP) _ hrr hbr).mono ?_
          rintro e2 w2 ⟨s2, rfl, hs2, hb2⟩
          obtain ⟨g2, cap2, s3, rfl, hcap2, f2, hr2⟩ := hs2.at (i := k) (by rw [unhide HSL]; exact hlt)
          rw [(unhide hget2) k hlt] at hr2
          rw [unhide HSL] at hcap2 ⊢
          have hR2 := hRr.below hb2 hRr.lt
          have r0 := hR2.cell 0
          have r1 := hR2.cell 1
          have z0 := hR2.frozen 0
          have z1 := hR2.frozen 1
          simp only [List.getElem?_cons_zero, List.getElem?_cons_succ] at r0 r1
          have HE := hide (Ans.store hr2 BR hRr.lt hb2)
          obtain ⟨ac, mc, cc, rfl⟩ := hr2.shape
          clear hr2 hb2 hs2 fk hh
          go_wp2_with fail
          refine bodyPost_ret (v := .agg #[.int .i64 0, .slice ac mc cc]) (by simp [results, Try.results123, go_sem, r0, r1]) rfl (ans_of (unhide fin2) ((unhide HE) _ _).1 ((unhide HE) _ _).2)
        | false =>
          have hn2 := hide (show ∀ j, j < k + 1 → ((v.getD (M.iter v j 1) M.zero).key.toList == key.toList) = false by
            intro j hj
            by_cases e : j = k
            · subst e; exact hh
            · exact hall.out j (by omega))
          generalize (v.getD (M.iter v k 1) M.zero).key = ky at *
          go_wp2_with fail
          go_roundg (m - (k + 1))
          case rel => exact ⟨k + 1, rfl, by go_num, by omega, unhide hn2, hbel⟩
          case measure => have := hg.out; omega
      · have hke : k = m := by omega
        subst hke
        have fin2 := hide ((unhide fin).trans (by rw [(unhide hnone) hall.out]))
        go_wp2_with fail
        refine (l3Null_any _).mono ?_
        rintro ec wc ⟨sc, rfl, hrc, hbc⟩
        have hRc := hRr.below hbc hRr.lt
        have r0 := hRc.cell 0
        have r1 := hRc.cell 1
        have z0 := hRc.frozen 0
        have z1 := hRc.frozen 1
        simp only [List.getElem?_cons_zero, List.getElem?_cons_succ] at r0 r1
        have HE := hide (Ans.store hrc BR hRr.lt hbc)
        obtain ⟨ac, mc, cc, rfl⟩ := hrc.shape
        clear hrc hbc
        go_wp2_with fail
        refine bodyPost_ret (v := .agg #[.int .i64 0, .slice ac mc cc]) (by simp [results, Try.results123, go_sem, r0, r1]) rfl (ans_of (unhide fin2) ((unhide HE) _ _).1 ((unhide HE) _ _).2)
  · have fin := hide (get_kind (v := v) (key := key) k0 k6)
    generalize v.getD 0 M.zero = c at *
    have gz : ∀ o, (w.alloc o).cell? ⟨b, off, none⟩ = some (.int .i64 c.kind) := fun o => (((unhide HB0) o).cell hb).trans g0
    have e0 : (c.kind == 0) = false := by simp [k0]
    have e6 : (c.kind == 6) = false := by simp [k6]
    clear g0 k0 k6 hok
    go_enter Try.func123, Try.ntmps123
    go_wp2_with fail
    refine (l3Bad_any _ _).mono ?_
    rintro ec wc ⟨sc, rfl, hrc, hbc⟩
    have hRc := (unhide HR0).below hbc (unhide HR0).lt
    have r0 := hRc.cell 0
    have r1 := hRc.cell 1
    have z0 := hRc.frozen 0
    have z1 := hRc.frozen 1
    simp only [List.getElem?_cons_zero, List.getElem?_cons_succ] at r0 r1
    have HE := hide (Ans.store hrc ((unhide HB0) _) (unhide HR0).lt hbc)
    obtain ⟨ac, mc, cc, rfl⟩ := hrc.shape
    clear gz e0 e6 hrc hbc
    go_wp2_with fail
    refine bodyPost_ret (v := .agg #[.int .i64 6, .slice ac mc cc]) (by simp [results, Try.results123, go_sem, r0, r1]) rfl (ans_of (unhide fin) ((unhide HE) _ _).1 ((unhide HE) _ _).2)

end Go.Proofs.Ythaabakpcokomaa
