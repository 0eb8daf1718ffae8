/-
  impl.GetPath and spec.GetPath, whole.
-/
import Derived.Test.YtlbmpldknfcfhaaDoorU27
namespace Go.Proofs.YtlbmpldknfcfhaaDoor
open Go.RowKit
set_option linter.unusedVariables false

set_option maxRecDepth 100000 in
set_option maxHeartbeats 1000000 in
theorem implGetPath_any (v : List M.Cl) (b off cap : Nat) (p : List M.Cl) (b' off' cap' : Nat) (w : World) (hrow : Row w b off v) (hb : b < w.heap.size) (hn : v.length ≤ 1048576) (hcap : v.length ≤ cap) (hok : ∀ c ∈ v, c.ok) (hrow' : Row w b' off' p) (hb' : b' < w.heap.size) (hn' : p.length ≤ 1048576) (hcap' : p.length ≤ cap') (hc : cap' ≤ 9223372036854775807) (hok' : ∀ c ∈ p, c.ok) :
    Calls Tryd.prog 30 #[.slice (some ⟨b, off, none⟩) v.length cap, .slice (some ⟨b', off', none⟩) p.length cap'] w (Ans w (Pth.getOutP v p)) := by
  have B0 : ∀ o, Below w.heap.size w (w.alloc o) := fun o => (Below.refl _ _).alloc (Nat.le_refl _) o
  have HA := hide (fun x => pathedFault_any v b off cap p b' off' cap' (w.alloc x) (hrow.below (B0 x) hb) (by simp; omega) hn hcap hok (hrow'.below (B0 x) hb') (by simp; omega) hn' hcap' hc hok')
  have HB0 := hide B0
  clear B0 hok hok'
  go_enter Tryd.func30, Tryd.ntmps30
  go_wp2_with fail
  refine ((unhide HA) _).mono ?_
  rintro e1 w1 ⟨rfl, hb1⟩
  have hR : Own w1 w.heap.size 56 [.int .i64 0, .slice none 0 0] := Own.below ⟨_, heap_alloc_new _ _, rfl⟩ hb1 (by simp)
  have B1 : Below w.heap.size w w1 := ((unhide HB0) _).trans (hb1.mono (by simp))
  have hrow1 := hrow.below B1 hb
  have hb1' : b < w1.heap.size := Nat.lt_of_lt_of_le hb B1.size
  have hrow2 := hrow'.below B1 hb'
  have hb2' : b' < w1.heap.size := Nat.lt_of_lt_of_le hb' B1.size
  clear hb1 HA hrow hrow'
  generalize hq : Pth.asked v p = q
  by_cases hz : q = 0
  · subst hz
    have fin := hide (Pth.getP_ok hq)
    obtain ⟨hv, hp⟩ := Pth.asked_no hq
    have hst := (Pth.steps hp).2.2
    have hpv := (Pth.fault_no hp).1
    have hpl := Pth.lens hpv
    have HD := hide (List.length_drop (i := 1) (l := p))
    have HSO := hide (stepsOf_any p b' off' cap' w1 hpl.1 hc hcap' hrow2)
    have HG := hide (fun o (r : Row w1 b' o (p.drop 1)) => getSteps_any v b off cap (p.drop 1) b' o (cap' - 1) w1 hv hrow1 hb1' hcap hst r hb2' (by rw [unhide HD]; omega) (by rw [unhide HD]; omega) (by omega))
    clear hq hv hp hst hpv hpl hrow1 hrow2 HD
    generalize hR2 : Pth.getS v (p.drop 1) = R at *
    obtain ⟨rc, rl⟩ := R
    clear hR2
    generalize p.drop 1 = cs at *
    go_wp2_with fail
    refine (unhide HSO).mono ?_
    rintro e2 w2 ⟨o, rfl, hw2, hr2⟩
    rw [hw2]
    have HGO := hide ((unhide HG) o hr2)
    clear hw2 w2 hr2 HG HSO
    go_wp2_with fail
    refine (unhide HGO).mono ?_
    rintro ec wc ⟨sc, rfl, hrc, hbc⟩
    have hRc := hR.below hbc hR.lt
    have r0 := hRc.cell 0
    have r1 := hRc.cell 1
    have z0 := hRc.frozen 0
    have z1 := hRc.frozen 1
    simp only [List.getElem?_cons_zero, List.getElem?_cons_succ] at r0 r1
    have HE := hide (Ans.store hrc B1 hR.lt hbc)
    obtain ⟨ac, mc, cc, rfl⟩ := hrc.shape
    clear hrc hbc
    go_wp2_with fail
    refine bodyPost_ret (v := .agg #[.int .i64 rc, .slice ac mc cc]) (by simp [results, Tryd.results30, go_sem, r0, r1]) rfl (ans_of (unhide fin) ((unhide HE) _ _).1 ((unhide HE) _ _).2)
  · have fin := hide ((Pth.getP_bad (by rw [hq]; exact hz)).trans (by rw [hq]))
    have hz' : (q == 0) = false := by simp [hz]
    have r0 := hR.cell 0
    have r1 := hR.cell 1
    have z0 := hR.frozen 0
    have z1 := hR.frozen 1
    simp only [List.getElem?_cons_zero, List.getElem?_cons_succ] at r0 r1
    clear hq hrow1 hrow2
    go_wp2_with fail
    refine bodyPost_ret (v := .agg #[.int .i64 q, .slice none 0 0]) (by simp [results, Tryd.results30, go_sem, r0, r1]) rfl (ans_of (unhide fin) (resNil _ _) (store_below B1 _ _))

set_option maxRecDepth 100000 in
set_option maxHeartbeats 1000000 in
theorem specGetPath_any (v : List M.Cl) (b off cap : Nat) (p : List M.Cl) (b' off' cap' : Nat) (w : World) (hrow : Row w b off v) (hb : b < w.heap.size) (hn : v.length ≤ 1048576) (hcap : v.length ≤ cap) (hok : ∀ c ∈ v, c.ok) (hrow' : Row w b' off' p) (hb' : b' < w.heap.size) (hn' : p.length ≤ 1048576) (hcap' : p.length ≤ cap') (hok' : ∀ c ∈ p, c.ok) :
    Calls Tryd.prog 27 #[.slice (some ⟨b, off, none⟩) v.length cap, .slice (some ⟨b', off', none⟩) p.length cap'] w (Ans w (Pth.getOutP v p)) := by
  have B0 : ∀ o, Below w.heap.size w (w.alloc o) := fun o => (Below.refl _ _).alloc (Nat.le_refl _) o
  have HA := hide (fun x => l13Asked_any v b off cap p b' off' cap' (w.alloc x) (hrow.below (B0 x) hb) (by simp; omega) hn hcap hok (hrow'.below (B0 x) hb') (by simp; omega) hn' hcap' hok')
  have HB0 := hide B0
  have OK' := hide hok'
  clear B0 hok hok'
  go_enter Tryd.func27, Tryd.ntmps27
  go_wp2_with fail
  refine ((unhide HA) _).mono ?_
  rintro e1 w1 ⟨rfl, hb1⟩
  have hR : Own w1 w.heap.size 56 [.int .i64 0, .slice none 0 0] := Own.below ⟨_, heap_alloc_new _ _, rfl⟩ hb1 (by simp)
  have B1 : Below w.heap.size w w1 := ((unhide HB0) _).trans (hb1.mono (by simp))
  have hrow1 := hrow.below B1 hb
  have hb1' : b < w1.heap.size := Nat.lt_of_lt_of_le hb B1.size
  have hrow2 := hrow'.below B1 hb'
  have hb2' : b' < w1.heap.size := Nat.lt_of_lt_of_le hb' B1.size
  clear hb1 HA hrow hrow'
  generalize hq : Pth.asked v p = q
  by_cases hz : q = 0
  · subst hz
    have fin := hide (Pth.getP_ok hq)
    obtain ⟨hv, hp⟩ := Pth.asked_no hq
    have hst := Pth.steps hp
    have hpv := (Pth.fault_no hp).1
    have hpl := Pth.lens hpv
    have HD := hide (List.length_drop (i := 1) (l := p))
    have HSO := hide (l1Parts_any p b' off' cap' w1 hpv hrow2 hb2' hcap' (unhide OK'))
    have NE := hide (subs_all hpv (unhide OK')).2.2.2
    have HG := hide (fun w2 (hb2 : Below w1.heap.size w1 w2) a c (hc : (p.drop 1).length ≤ c) hc2 (l : LV w2 a (subs p 0)) => l13Get_any v b off cap (p.drop 1) (subs p 0) a c w2 hv (hrow1.below hb2 hb1') (Nat.lt_of_lt_of_le hb1' hb2.size) hcap hst.2.2 hst.1 hst.2.1 l (by rw [unhide HD]; omega) hc hc2)
    have hsl := hst.1
    clear hq hv hp hst hpv hpl hrow1 hrow2 HD
    generalize hR2 : Pth.getS v (p.drop 1) = R at *
    obtain ⟨rc, rl⟩ := R
    clear hR2
    generalize p.drop 1 = cs at *
    go_wp2_with fail
    refine (unhide HSO).mono ?_
    rintro e2 w2 ⟨s, rfl, hss, hb2⟩
    have hcm : ∀ a n c, s = .slice a n c → c ≤ 9223372036854775807 := by
      intro a n c e
      subst e
      obtain ⟨ss, _, ⟨_, h2 | ⟨g, c2, cur, h3, _, _, _, h7, _⟩⟩, _⟩ := hss
      · simp only [Value.slice.injEq] at h2; omega
      · simp only [Value.slice.injEq] at h3; unfold maxLen at h7; omega
    obtain ⟨a, c, rfl, hac, hlv⟩ := hss.lv (unhide NE)
    have hR2 := hR.below hb2 hR.lt
    have B2 := B1.trans (hb2.mono B1.size)
    rw [hsl] at hac
    have HGO := hide ((unhide HG) w2 hb2 a c hac (hcm _ _ _ rfl) hlv)
    rw [hsl]
    clear hss hlv hb2 HG HSO NE hcm hR B1 hsl
    go_wp2_with fail
    refine (unhide HGO).mono ?_
    rintro ec wc ⟨sc, rfl, hrc, hbc⟩
    have hRc := hR2.below hbc hR2.lt
    have r0 := hRc.cell 0
    have r1 := hRc.cell 1
    have z0 := hRc.frozen 0
    have z1 := hRc.frozen 1
    simp only [List.getElem?_cons_zero, List.getElem?_cons_succ] at r0 r1
    have HE := hide (Ans.store hrc B2 hR2.lt hbc)
    obtain ⟨ac, mc, cc, rfl⟩ := hrc.shape
    clear hrc hbc
    go_wp2_with fail
    refine bodyPost_ret (v := .agg #[.int .i64 rc, .slice ac mc cc]) (by simp [results, Tryd.results27, go_sem, r0, r1]) rfl (ans_of (unhide fin) ((unhide HE) _ _).1 ((unhide HE) _ _).2)
  · have fin := hide ((Pth.getP_bad (by rw [hq]; exact hz)).trans (by rw [hq]))
    have hz' : (q == 0) = false := by simp [hz]
    clear hq hrow1 hrow2
    go_wp2_with fail
    refine (l3Bad_any _ _).mono ?_
    rintro ec wc ⟨sc, rfl, hrc, hbc⟩
    have hRc := hR.below hbc hR.lt
    have r0 := hRc.cell 0
    have r1 := hRc.cell 1
    have z0 := hRc.frozen 0
    have z1 := hRc.frozen 1
    simp only [List.getElem?_cons_zero, List.getElem?_cons_succ] at r0 r1
    have HE := hide (Ans.store hrc B1 hR.lt hbc)
    obtain ⟨ac, mc, cc, rfl⟩ := hrc.shape
    clear hrc hbc
    go_wp2_with fail
    refine bodyPost_ret (v := .agg #[.int .i64 q, .slice ac mc cc]) (by simp [results, Tryd.results27, go_sem, r0, r1]) rfl (ans_of (unhide fin) ((unhide HE) _ _).1 ((unhide HE) _ _).2)
end Go.Proofs.YtlbmpldknfcfhaaDoor
