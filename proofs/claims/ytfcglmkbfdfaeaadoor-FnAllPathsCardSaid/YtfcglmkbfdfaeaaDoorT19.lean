/-
  impl.GetIndex.
  spec.LengthOf and impl.LengthOf.
  spec.GetAt and impl.GetAt.
-/
import Derived.Test.YtfcglmkbfdfaeaaDoorT14
import Derived.Test.YtfcglmkbfdfaeaaDoorT15
import Derived.Test.YtfcglmkbfdfaeaaDoorT17
import Derived.Test.YtfcglmkbfdfaeaaDoorT18
namespace Go.Proofs.YtfcglmkbfdfaeaaDoor
open Go.RowKit
set_option linter.unusedVariables false

set_option maxRecDepth 100000 in
set_option maxHeartbeats 2000000 in
theorem implGetIndex_any (v : List M.Cl) (b off cap : Nat) (n : Int) (w : World) (hrow : Row w b off v) (hb : b < w.heap.size) (hn : v.length ≤ 1048576) (hcap : v.length ≤ cap) (hok : ∀ c ∈ v, c.ok) (n0 : -9223372036854775808 ≤ n) (n1 : n ≤ 9223372036854775807) :
    Calls Tryd.prog 63 #[.slice (some ⟨b, off, none⟩) v.length cap, .int .i64 n] w (Ans w (getIdxOut v n)) := by
  have OK := hide hok
  have B0 : ∀ o, Below w.heap.size w (w.alloc o) := fun o => (Below.refl _ _).alloc (Nat.le_refl _) o
  have HB0 := hide B0
  clear B0
  clear hok
  go_enter Tryd.func63, Tryd.ntmps63
  go_wp2_with fail
  refine (implFault_any v b off cap _ (hrow.below ((unhide HB0) _) hb) (by simp; omega) hn hcap (unhide OK)).mono ?_
  rintro e1 w1 ⟨rfl, hb1⟩
  have hR : Own w1 w.heap.size 31 [.int .i64 0, .slice none 0 0] := Own.below ⟨_, heap_alloc_new _ _, rfl⟩ hb1 (by simp)
  have B1 : Below w.heap.size w w1 := ((unhide HB0) _).trans (hb1.mono (by simp))
  have hrow1 := hrow.below B1 hb
  have hb1' : b < w1.heap.size := Nat.lt_of_lt_of_le hb B1.size
  clear hb1
  by_cases hv : M.valueFault v = 0
  · rw [hv]
    have fin := hide (gi_ok (n := n) hv)
    have hl1 := (M.fault_zero hv).1
    have hl2 := (M.fault_zero hv).2.1
    have g := hrow1 0 (by omega)
    have g0 := g.1
    simp only [Nat.zero_mul, Nat.add_zero] at g0
    clear g
    by_cases kk : (v.getD 0 M.zero).kind = 0 ∨ (v.getD 0 M.zero).kind = 5
    · have fin2 := hide ((unhide fin).trans (idx_some (v := v) (n := n) kk))
      have HC := hide (fun w' (r : Row w' b off v) hb' => childPlaces_any v b off cap 0 w' hv (by omega) r hb' hcap)
      have HPT := hide (fun a (ha : a < v.length) w' (r : Row w' b off v) hb' => partOf_any v b off cap a w' hv ha r hb' hcap)
      have hin := M.places_in hv 0 (by omega)
      have HIN := hide hin.1
      have hend := hide hin.2.2.1
      have hA := hin.2.2.2
      have hout := hide (fun h => idx_out (v := v) (n := n) h)
      have hneg := hide (fun k h1 h2 h3 => idx_neg (v := v) (n := n) (k := k) h1 h2 h3)
      have hpos := hide (fun k h => idx_pos (v := v) (k := k) h)
      clear hin hv fin
      generalize M.arity v 0 = m at *
      rcases kk with kk | kk
      all_goals
        rw [kk] at g0
        clear kk
        go_wp2_with fail
        refine ((unhide HC) _ hrow1 hb1').mono ?_
        rintro e2 w2 ⟨sa, rfl, hra, hb2⟩
        have hR2 := hR.below hb2 hR.lt
        have B2 : Below w.heap.size w w2 := B1.trans (hb2.mono B1.size)
        have hrr := hrow.below B2 hb
        have hbr : b < w2.heap.size := Nat.lt_of_lt_of_le hb B2.size
        clear hb2 g0 HC
        by_cases hout1 : n < -(m : Int) ∨ (m : Int) ≤ n
        · have fin3 := hide ((unhide fin2).trans (by rw [(unhide hout) hout1]))
          have hsh : ∃ aa cx, sa = .slice aa m cx := by
            obtain ⟨_, ⟨rfl, hnil⟩ | ⟨ba, ca, rfl, _, hca, hoa⟩⟩ := hra
            · have hm0 : m = 0 := by have := congrArg List.length hnil; rwa [firstPl_length] at this
              exact ⟨_, _, by rw [hm0]⟩
            · exact ⟨_, _, by rw [firstPl_length]⟩
          obtain ⟨aa, cx, rfl⟩ := hsh
          clear hra hout hneg hpos
          rcases hout1 with hout1 | hout1
          all_goals
            go_wp2_with fail
            refine (nullResult_any _).mono ?_
            rintro ec wc ⟨sc, rfl, hrc, hbc⟩
            have hRc := hR2.below hbc hR2.lt
            have r0 := hRc.cell 0
            have r1 := hRc.cell 1
            have z0 := hRc.frozen 0
            have z1 := hRc.frozen 1
            simp only [List.getElem?_cons_zero, List.getElem?_cons_succ] at r0 r1
            have HE := hide (Ans.store hrc B2 hR2.lt hbc)
            obtain ⟨ac, mc, cc, rfl⟩ := hrc.shape
            clear hrc hbc
            go_wp2_with fail
            refine bodyPost_ret (v := .agg #[.int .i64 0, .slice ac mc cc]) (by simp [results, Tryd.results63, go_sem, r0, r1]) rfl (ans_of (unhide fin3) ((unhide HE) _ _).1 ((unhide HE) _ _).2)
        · obtain ⟨_, ⟨rfl, hnil⟩ | ⟨ba, ca, rfl, _, hca, hoa⟩⟩ := hra
          · have hm0 : m = 0 := by have := congrArg List.length hnil; rwa [firstPl_length] at this
            omega
          have q1 : -(m : Int) ≤ n := by omega
          have q2 : n < (m : Int) := by omega
          clear hout1
          rw [firstPl_length] at hca ⊢
          by_cases hn0 : n < 0
          · obtain ⟨k, hk⟩ := Int.eq_ofNat_of_zero_le (show 0 ≤ n + (m : Int) by omega)
            have fin3 := hide ((unhide fin2).trans (by rw [(unhide hneg) k (by omega) hn0 hk]))
            have hkm : k < m := by omega
            have fa := hoa.cell (i := k) (by rw [firstPl_length]; exact hkm)
            rw [firstPl_getD v 0 m k hkm] at fa
            simp only [Nat.zero_add] at fa
            have hp : M.iter v k 1 < v.length := by have h1 := (unhide HIN) k hkm; have h2 := unhide hend; simp only [Nat.zero_add] at h1; omega
            have HPO := hide ((unhide HPT) (M.iter v k 1) hp w2 hrr hbr)
            obtain rfl : n = (k : Int) - (m : Int) := by omega
            have hsum : (k : Int) - (m : Int) + (m : Int) = (k : Int) := by omega
            clear hk hout hneg hpos
            generalize M.iter v k 1 = p at *
            go_wp2_with fail
            refine (unhide HPO).mono ?_
            rintro e3 w3 ⟨s3, rfl, hr3, hb3⟩
            have hR3 := hR2.below hb3 hR2.lt
            have r0 := hR3.cell 0
            have r1 := hR3.cell 1
            have z0 := hR3.frozen 0
            have z1 := hR3.frozen 1
            simp only [List.getElem?_cons_zero, List.getElem?_cons_succ] at r0 r1
            have HE := hide (Ans.store hr3 B2 hR2.lt hb3)
            obtain ⟨ac, mc, cc, rfl⟩ := hr3.shape
            clear hr3 hb3 HPO fa
            go_wp2_with fail
            refine bodyPost_ret (v := .agg #[.int .i64 0, .slice ac mc cc]) (by simp [results, Tryd.results63, go_sem, r0, r1]) rfl (ans_of (unhide fin3) ((unhide HE) _ _).1 ((unhide HE) _ _).2)
          · obtain ⟨k, rfl⟩ := Int.eq_ofNat_of_zero_le (show 0 ≤ n by omega)
            have fin3 := hide ((unhide fin2).trans (by rw [(unhide hpos) k (by omega)]))
            have hkm : k < m := by omega
            have fa := hoa.cell (i := k) (by rw [firstPl_length]; exact hkm)
            rw [firstPl_getD v 0 m k hkm] at fa
            simp only [Nat.zero_add] at fa
            have hp : M.iter v k 1 < v.length := by have h1 := (unhide HIN) k hkm; have h2 := unhide hend; simp only [Nat.zero_add] at h1; omega
            have HPO := hide ((unhide HPT) (M.iter v k 1) hp w2 hrr hbr)
            clear hout hneg hpos
            generalize M.iter v k 1 = p at *
            go_wp2_with fail
            refine (unhide HPO).mono ?_
            rintro e3 w3 ⟨s3, rfl, hr3, hb3⟩
            have hR3 := hR2.below hb3 hR2.lt
            have r0 := hR3.cell 0
            have r1 := hR3.cell 1
            have z0 := hR3.frozen 0
            have z1 := hR3.frozen 1
            simp only [List.getElem?_cons_zero, List.getElem?_cons_succ] at r0 r1
            have HE := hide (Ans.store hr3 B2 hR2.lt hb3)
            obtain ⟨ac, mc, cc, rfl⟩ := hr3.shape
            clear hr3 hb3 HPO fa
            go_wp2_with fail
            refine bodyPost_ret (v := .agg #[.int .i64 0, .slice ac mc cc]) (by simp [results, Tryd.results63, go_sem, r0, r1]) rfl (ans_of (unhide fin3) ((unhide HE) _ _).1 ((unhide HE) _ _).2)
    · have h0 : (v.getD 0 M.zero).kind ≠ 0 := fun e => kk (.inl e)
      have h5 : (v.getD 0 M.zero).kind ≠ 5 := fun e => kk (.inr e)
      have fin2 := hide ((unhide fin).trans (idx_kind (v := v) (n := n) h0 h5))
      generalize v.getD 0 M.zero = c at *
      have m0 : (c.kind != 0) = true := by simp [h0]
      have m5 : (c.kind != 5) = true := by simp [h5]
      have r0 := hR.cell 0
      have r1 := hR.cell 1
      have z0 := hR.frozen 0
      have z1 := hR.frozen 1
      simp only [List.getElem?_cons_zero, List.getElem?_cons_succ] at r0 r1
      clear h0 h5 kk fin hv
      go_wp2_with fail
      refine bodyPost_ret (v := .agg #[.int .i64 6, .slice none 0 0]) (by simp [results, Tryd.results63, go_sem, r0, r1]) rfl (ans_of (unhide fin2) (resNil _ _) (store_below B1 _ _))
  · have fin := hide (gi_bad (n := n) hv)
    generalize M.valueFault v = q at *
    have hz' : (q == 0) = false := by simp [hv]
    have r0 := hR.cell 0
    have r1 := hR.cell 1
    have z0 := hR.frozen 0
    have z1 := hR.frozen 1
    simp only [List.getElem?_cons_zero, List.getElem?_cons_succ] at r0 r1
    clear hv
    go_wp2_with fail
    refine bodyPost_ret (v := .agg #[.int .i64 q, .slice none 0 0]) (by simp [results, Tryd.results63, go_sem, r0, r1]) rfl (ans_of (unhide fin) (resNil _ _) (store_below B1 _ _))

end Go.Proofs.YtfcglmkbfdfaeaaDoor

namespace Go.Proofs.YtfcglmkbfdfaeaaDoor
open Go.RowKit
set_option linter.unusedVariables false

/-- The size of a number. -/
def size (n : Int) : Int := if n < 0 then -n else n
/-- What is known of a cell that has no fault. -/
theorem code_bd {c : M.Cl} (h : M.cellCode c = 0) : 0 ≤ c.kind ∧ c.kind ≤ 6 ∧ -1000000000000000 ≤ c.num ∧ c.num ≤ 1000000000000000 ∧ 0 ≤ c.n ∧ c.n ≤ 200 ∧ M.textOk c.text = true ∧ M.textOk c.key = true := by
  unfold M.cellCode at h
  split at h
  · cases h
  split at h
  · cases h
  split at h
  · cases h
  split at h
  · rename_i h4; exact ⟨by omega, by omega, by omega, by omega, by omega, by omega, h4.1, h4.2⟩
  · cases h
theorem textOk_size {s : ByteArray} (h : M.textOk s = true) : s.size ≤ 60 := by
  unfold M.textOk at h
  rw [Bool.and_eq_true] at h
  exact of_decide_eq_true h.1

end Go.Proofs.YtfcglmkbfdfaeaaDoor

namespace Go.Proofs.YtfcglmkbfdfaeaaDoor
open Go.RowKit
set_option linter.unusedVariables false

def atIn (v : List M.Cl) (c : M.Cl) : Int × List M.Cl := if c.kind = 4 then getOut v c.text else if c.kind = 3 then idxOut v c.num else (6, [])
def gaOut (v u : List M.Cl) : Int × List M.Cl := if bothOut v u ≠ 0 then (bothOut v u, []) else atIn v (u.getD 0 M.zero)
theorem ga_bad {v u : List M.Cl} (h : bothOut v u ≠ 0) : gaOut v u = (bothOut v u, []) := if_pos h
theorem ga_ok {v u : List M.Cl} (h : bothOut v u = 0) : gaOut v u = atIn v (u.getD 0 M.zero) := by unfold gaOut; rw [if_neg (by simp [h])]
theorem at_4 {v : List M.Cl} {c : M.Cl} (h : c.kind = 4) : atIn v c = getOut v c.text := if_pos h
theorem at_3 {v : List M.Cl} {c : M.Cl} (h : c.kind = 3) : atIn v c = idxOut v c.num := by unfold atIn; rw [if_neg (by omega), if_pos h]
theorem at_no {v : List M.Cl} {c : M.Cl} (h4 : c.kind ≠ 4) (h3 : c.kind ≠ 3) : atIn v c = (6, []) := by unfold atIn; rw [if_neg h4, if_neg h3]

set_option maxRecDepth 100000 in
set_option maxHeartbeats 2000000 in
theorem implGetAt_any (v : List M.Cl) (b off cap : Nat) (u : List M.Cl) (b' off' cap' : Nat) (w : World) (hrow : Row w b off v) (hb : b < w.heap.size) (hn : v.length ≤ 1048576) (hcap : v.length ≤ cap) (hok : ∀ c ∈ v, c.ok) (hrow' : Row w b' off' u) (hb' : b' < w.heap.size) (hn' : u.length ≤ 1048576) (hcap' : u.length ≤ cap') (hok' : ∀ c ∈ u, c.ok) :
    Calls Tryd.prog 39 #[.slice (some ⟨b, off, none⟩) v.length cap, .slice (some ⟨b', off', none⟩) u.length cap'] w (Ans w (gaOut v u)) := by
  have OK := hide hok
  have B0 : ∀ o, Below w.heap.size w (w.alloc o) := fun o => (Below.refl _ _).alloc (Nat.le_refl _) o
  have HB0 := hide B0
  clear B0
  have HKF := hide (fun o => firstFaultV_any (some ⟨w.heap.size + 1, 0, none⟩) 2 [v, u] ((w.alloc o).alloc (.cells #[.slice (some ⟨b, off, none⟩) v.length cap, .slice (some ⟨b', off', none⟩) u.length cap'] 24)) (LV.two (w.alloc o) (w.heap.size + 1) b off cap b' off' cap' v u 24 (by simp) (hrow.below ((unhide HB0) _) hb) (by simp; omega) hcap (hrow'.below ((unhide HB0) _) hb') (by simp; omega) hcap') (by simp) (by simp) (len_two hn hn') (okS_two hok hok'))
  simp only [List.length_cons, List.length_nil, Nat.zero_add, firstBad_both] at HKF
  clear hok hok'
  go_enter Tryd.func39, Tryd.ntmps39
  go_wp2_with fail
  refine ((unhide HKF) _).mono ?_
  rintro e1 w1 ⟨rfl, hb1⟩
  have hR : Own w1 w.heap.size 31 [.int .i64 0, .slice none 0 0] := Own.below (Own.alloc ⟨_, heap_alloc_new _ _, rfl⟩ _) hb1 (by simp; omega)
  have B1 : Below w.heap.size w w1 := (((unhide HB0) _).alloc (by simp) _).trans (hb1.mono (by simp; omega))
  have hrow1 := hrow.below B1 hb
  have hb1' : b < w1.heap.size := Nat.lt_of_lt_of_le hb B1.size
  have hrow2 := hrow'.below B1 hb'
  have hb2' : b' < w1.heap.size := Nat.lt_of_lt_of_le hb' B1.size
  clear hb1 HKF
  generalize hq : bothOut v u = q
  by_cases hz : q = 0
  · subst hz
    have fin := hide (ga_ok hq)
    obtain ⟨hv, hu⟩ := both_zero hq
    have hl1 := (M.fault_zero hu).1
    have hcd := M.first_zero (M.fault_zero hu).2.2.1 _ (getD_mem u 0 (by omega))
    obtain ⟨c0, c1, c2, c3, c4, c5, c6, _⟩ := code_bd hcd
    obtain ⟨f0, f1, f2, _, _⟩ := hrow2 0 (by omega)
    simp only [Nat.zero_mul, Nat.add_zero] at f0 f1 f2
    generalize u.getD 0 M.zero = c at *
    clear hcd hq
    by_cases k4 : c.kind = 4
    · have c7 := textOk_size c6
      have fin2 := hide (((unhide fin).trans (at_4 (v := v) k4)).trans (gk_ok hv c6).symm)
      have HG := hide (implGetKey_any v b off cap c.text w1 hrow1 hb1' hn hcap (unhide OK) (by omega))
      rw [k4] at f0
      clear k4 hv hu c6 fin
      generalize hR2 : getKeyOut v c.text = R at *
      obtain ⟨rc, rl⟩ := R
      clear hR2
      go_wp2_with fail
      refine (unhide HG).mono ?_
      rintro ec wc ⟨sc, rfl, hrc, hbc⟩
      have hRc := hR.below hbc hR.lt
      have r0 := hRc.cell 0
      have r1 := hRc.cell 1
      have z0 := hRc.frozen 0
      have z1 := hRc.frozen 1
      simp only [List.getElem?_cons_zero, List.getElem?_cons_succ] at r0 r1
      have HE := hide (Ans.store hrc B1 hR.lt hbc)
      obtain ⟨ac, mc, cc, rfl⟩ := hrc.shape
      clear f0 f1 f2 hrc hbc
      go_wp2_with fail
      refine bodyPost_ret (v := .agg #[.int .i64 rc, .slice ac mc cc]) (by simp [results, Tryd.results39, go_sem, r0, r1]) rfl (ans_of (unhide fin2) ((unhide HE) _ _).1 ((unhide HE) _ _).2)
    by_cases k3 : c.kind = 3
    · have fin2 := hide (((unhide fin).trans (at_3 (v := v) k3)).trans (gi_ok (n := c.num) hv).symm)
      have HG := hide (implGetIndex_any v b off cap c.num w1 hrow1 hb1' hn hcap (unhide OK) (by omega) (by omega))
      rw [k3] at f0
      clear k4 k3 hv hu c6 fin
      generalize hR2 : getIdxOut v c.num = R at *
      obtain ⟨rc, rl⟩ := R
      clear hR2
      go_wp2_with fail
      refine (unhide HG).mono ?_
      rintro ec wc ⟨sc, rfl, hrc, hbc⟩
      have hRc := hR.below hbc hR.lt
      have r0 := hRc.cell 0
      have r1 := hRc.cell 1
      have z0 := hRc.frozen 0
      have z1 := hRc.frozen 1
      simp only [List.getElem?_cons_zero, List.getElem?_cons_succ] at r0 r1
      have HE := hide (Ans.store hrc B1 hR.lt hbc)
      obtain ⟨ac, mc, cc, rfl⟩ := hrc.shape
      clear f0 f1 f2 hrc hbc
      go_wp2_with fail
      refine bodyPost_ret (v := .agg #[.int .i64 rc, .slice ac mc cc]) (by simp [results, Tryd.results39, go_sem, r0, r1]) rfl (ans_of (unhide fin2) ((unhide HE) _ _).1 ((unhide HE) _ _).2)
    · have fin2 := hide ((unhide fin).trans (at_no (v := v) k4 k3))
      have e4 : (c.kind == 4) = false := by simp [k4]
      have e3 : (c.kind == 3) = false := by simp [k3]
      have r0 := hR.cell 0
      have r1 := hR.cell 1
      have z0 := hR.frozen 0
      have z1 := hR.frozen 1
      simp only [List.getElem?_cons_zero, List.getElem?_cons_succ] at r0 r1
      clear k4 k3 hv hu c6 fin
      go_wp2_with fail
      refine bodyPost_ret (v := .agg #[.int .i64 6, .slice none 0 0]) (by simp [results, Tryd.results39, go_sem, r0, r1]) rfl (ans_of (unhide fin2) (resNil _ _) (store_below B1 _ _))
  · have fin := hide ((ga_bad (by rw [hq]; exact hz)).trans (by rw [hq]))
    have hz' : (q == 0) = false := by simp [hz]
    have r0 := hR.cell 0
    have r1 := hR.cell 1
    have z0 := hR.frozen 0
    have z1 := hR.frozen 1
    simp only [List.getElem?_cons_zero, List.getElem?_cons_succ] at r0 r1
    clear hq
    go_wp2_with fail
    refine bodyPost_ret (v := .agg #[.int .i64 q, .slice none 0 0]) (by simp [results, Tryd.results39, go_sem, r0, r1]) rfl (ans_of (unhide fin) (resNil _ _) (store_below B1 _ _))

end Go.Proofs.YtfcglmkbfdfaeaaDoor
