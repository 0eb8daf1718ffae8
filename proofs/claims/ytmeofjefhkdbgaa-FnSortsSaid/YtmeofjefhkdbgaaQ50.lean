/-
  impl.SortOf.
-/
import Derived.Test.YtmeofjefhkdbgaaQ43
import Derived.Test.YtmeofjefhkdbgaaQ49
namespace Go.Proofs.Ytmeofjefhkdbgaa
open Go.RowKit Go.WideShapes
set_option linter.unusedVariables false
set_option linter.unusedSimpArgs false

/-- The sorted row is the row of what is sorted. -/
theorem sorted_good {ps : List (List M.Cl)} {n : Nat} {f : Nat → Nat} (hn : ps.length = n) (hp : St.Per 0 n (fun k => k) f) (hs : St.Srt (St.pltV ps) 0 n f) : (List.range n).map f = St.sortI ps n := by
  refine St.Good.unique (ps := ps) (k := n) ⟨?_, fun x => ?_, by simp⟩ (St.good_sortI ps n)
  · rw [List.pairwise_map]
    refine List.Pairwise.imp_of_mem (R := (· < ·)) (fun {a b} ha hb hab => ?_) (List.pairwise_lt_range (n := n))
    exact hs a b (by omega) hab (List.mem_range.1 hb)
  · rw [List.mem_map]
    constructor
    · rintro ⟨a, ha, rfl⟩
      obtain ⟨j, _, j2, e⟩ := hp.2.1 a (by omega) (List.mem_range.1 ha)
      rw [e]; exact j2
    · intro hx
      obtain ⟨k, _, k2, e⟩ := hp.2.2 x (by omega) hx
      exact ⟨k, List.mem_range.2 k2, e⟩
theorem sorted_at {ps : List (List M.Cl)} {f : Nat → Nat} (hp : St.Per 0 ps.length (fun k => k) f) (hs : St.Srt (St.pltV ps) 0 ps.length f) {j : Nat} (hj : j < ps.length) : (sortedP ps).getD j [] = ps.getD (f j) [] ∧ f j < ps.length := by
  have h := sorted_good rfl hp hs
  refine ⟨?_, ?_⟩
  · unfold sortedP
    rw [← h, List.map_map, List.getD_eq_getElem?_getD, List.getElem?_map, List.getElem?_eq_getElem (by simpa using hj)]
    simp
  · obtain ⟨q, _, q2, e⟩ := hp.2.1 j (by omega) hj
    rw [e]; exact q2

set_option maxRecDepth 100000 in
set_option maxHeartbeats 4000000 in
theorem implSort_arr (v : List M.Cl) (b off cap : Nat) (w w1 : World) (hv : M.valueFault v = 0) (hrow : Row w1 b off v) (hb : b < w1.heap.size) (hcap : v.length ≤ cap) (hok : ∀ c ∈ v, c.ok) (B1 : Below w.heap.size w w1) :
    Calls Try.prog 20 #[.slice (some ⟨b, off, none⟩) v.length cap] w1 fun e w2 => ∃ (a : Option Addr) (c : Nat), e = .returned (.slice a (subs v 0).length c) ∧ Below w1.heap.size w1 w2 ∧ Calls Try.prog 21 #[.slice a (subs v 0).length c, .func (.func 22) #[] #[]] w2 fun r w3 => r = .returned (.tuple #[]) ∧ LV w3 a (sortedP (subs v 0)) ∧ (subs v 0).length ≤ c ∧ Below w1.heap.size w1 w3 := by
  have hall := subs_all hv hok
  refine (partsOf_any v b off cap w1 hv hrow hb hcap).mono ?_
  rintro e w2 ⟨s, rfl, hs, hb2⟩
  generalize subs v 0 = ps at *
  obtain ⟨a, c, β, γ, rfl, hc, HP⟩ := hs.ss.opened hall.2.2.2
  refine ⟨a, c, rfl, hb2, ?_⟩
  by_cases h0 : ps.length = 0
  · have hnil : ps = [] := List.length_eq_zero_iff.1 h0
    subst hnil
    have hs0 := hs.ss
    obtain ⟨xs, _, ho, _⟩ := hs0
    obtain ⟨_, ⟨e1, _⟩ | ⟨g, cap', cur, e1, _, e3, _⟩⟩ := ho
    · cases e1
      refine (sortStableS_none _ _).mono ?_
      rintro r w3 ⟨rfl, rfl⟩
      exact ⟨rfl, fun i hi => by simp [sortedP, St.sortI] at hi, Nat.zero_le _, hb2⟩
    · cases e1
      refine (sortStableS_empty g c _ _).mono ?_
      rintro r w3 ⟨rfl, rfl⟩
      exact ⟨rfl, fun i hi => by simp [sortedP, St.sortI] at hi, Nat.zero_le _, hb2⟩
  · obtain ⟨g, rfl, hBg, hg, _⟩ := HP 0 (by omega)
    have HP' : ∀ i, i < ps.length → w2.cell? ⟨g, i, none⟩ = some (.slice (some ⟨β i, 0, none⟩) (ps.getD i []).length (γ i)) ∧ β i < w2.heap.size ∧ β i ≠ g ∧ (ps.getD i []).length ≤ γ i ∧ Row w2 (β i) 0 (ps.getD i []) := fun i hi => by
      obtain ⟨g', e, _, _, q⟩ := HP i hi
      cases e
      exact q
    have hPA : PartsAt w2 g β (fun i => (ps.getD i []).length) γ ps := fun i hi => by
      obtain ⟨_, q2, q3, q4, q5⟩ := HP' i hi
      exact ⟨hall.2.1 i hi, hall.2.2.1 i hi, rfl, q4, q2, q3, q5⟩
    have hOS : OwnS β (fun i => (ps.getD i []).length) γ w2 g ps.length (fun k => k) := by
      obtain ⟨xs, hxl, ho, _⟩ := hs.ss
      obtain ⟨_, ⟨e1, _⟩ | ⟨g', cap', cur, e1, _, e3, e4, e5, e6, e7⟩⟩ := ho
      · cases e1
      · cases e1
        refine ⟨cur.toList, ⟨cur, e3, rfl⟩, ?_, fun i hi => ?_⟩
        · simp at e6 ⊢; omega
        · have hcell := (HP' i hi).1
          have hown : Own w2 g 24 cur.toList := ⟨cur, e3, rfl⟩
          rw [hown.cell i] at hcell
          exact hcell
    refine (sortStableS_any g ps.length c β _ γ ps w2 hOS hPA rfl (by omega) (by omega) hc).mono ?_
    rintro r w3 ⟨rfl, f, ho3, hper, hsrt, hbut⟩
    have hPA3 := hPA.but hbut
    refine ⟨rfl, fun j hj => ?_, hc, hb2.trans (hbut.below hb2.size hBg)⟩
    rw [sortedP_length] at hj
    obtain ⟨e1, e2⟩ := sorted_at hper hsrt hj
    obtain ⟨_, _, _, q4, q5, _, q7⟩ := hPA3 (f j) e2
    rw [e1]
    exact ⟨g, β (f j), 0, γ (f j), rfl, ho3.lt, ho3.cell hj, q4, q5, q7⟩

set_option maxRecDepth 100000 in
set_option maxHeartbeats 4000000 in
theorem implSortOf_any (v : List M.Cl) (b off cap : Nat) (w : World) (hrow : Row w b off v) (hb : b < w.heap.size) (hn : v.length ≤ 1048576) (hcap : v.length ≤ cap) (hok : ∀ c ∈ v, c.ok) :
    Calls Try.prog 7 #[.slice (some ⟨b, off, none⟩) v.length cap] w (Ans w (sortOut v)) := by
  have OK := hide hok
  have B0 : ∀ o, Below w.heap.size w (w.alloc o) := fun o => (Below.refl _ _).alloc (Nat.le_refl _) o
  have HB0 := hide B0
  clear B0
  clear hok
  go_enter Try.func7, Try.ntmps7
  go_wp2_with fail
  refine (implFault_any v b off cap _ (hrow.below ((unhide HB0) _) hb) (by simp; omega) hn hcap (unhide OK)).mono ?_
  rintro e1 w1 ⟨rfl, hb1⟩
  have hR : Own w1 w.heap.size 27 [.int .i64 0, .slice none 0 0] := Own.below ⟨_, heap_alloc_new _ _, rfl⟩ hb1 (by simp)
  have B1 : Below w.heap.size w w1 := ((unhide HB0) _).trans (hb1.mono (by simp))
  have hrow1 := hrow.below B1 hb
  have hb1' : b < w1.heap.size := Nat.lt_of_lt_of_le hb B1.size
  clear hb1
  generalize hq : M.valueFault v = q
  by_cases hz : q = 0
  · subst hz
    have fin := hide (sort_ok hq)
    have hl1 := (M.fault_zero hq).1
    obtain ⟨f0, _, _, _, _⟩ := hrow1 0 (by omega)
    simp only [Nat.zero_mul, Nat.add_zero] at f0
    by_cases k5 : (v.getD 0 M.zero).kind = 5
    · have fin2 := hide ((unhide fin).trans (sort_5 k5))
      have HPS := hide (implSort_arr v b off cap w w1 hq hrow1 hb1' hcap (unhide OK) B1)
      have HF := hide (sorted_facts hq (unhide OK))
      have HTO := hide (told_ok (sorted_valid hq (unhide OK)))
      have HLEN := hide (sortedP_length (subs v 0))
      rw [k5] at f0
      clear k5 hq fin
      go_wp2_with fail
      refine (unhide HPS).mono ?_
      rintro e2 w2 ⟨a, c, rfl, hb2, hsort⟩
      have HS := hide hsort
      clear hsort f0 HPS
      go_wp2_with fail
      refine (unhide HS).mono ?_
      rintro e3 w3 ⟨rfl, hlv, hc, hb3⟩
      have hR3 := hR.below hb3 hR.lt
      have B3 : Below w.heap.size w w3 := B1.trans (hb3.mono B1.size)
      have hw3 : w.heap.size < w3.heap.size := hR3.lt
      have HF1 := hide (show (sortedP (subs v 0)).length ≤ 4096 by have := (unhide HF).1; omega)
      have HF2 := hide (unhide HF).2.1
      have HOM := hide (show arrV (sortedP (subs v 0)) ≠ [] ∧ (arrV (sortedP (subs v 0))).length ≤ 1048576 ∧ ∀ c ∈ arrV (sortedP (subs v 0)), c.ok from ⟨arrV_ne _, arrV_le (unhide HF1) (unhide HF2), arrK_ok _ (unhide HF1) (unhide HF).2.2 _ (Nat.le_refl _)⟩)
      rw [← unhide HLEN] at hc ⊢
      clear HS HF hb2 hb3 HLEN
      generalize sortedP (subs v 0) = SP at *
      go_wp2_with fail
      refine (layArrayV_any a c SP _ hlv hc (unhide HF1) (unhide HF2)).mono ?_
      rintro e6 w6 ⟨s6, rfl, hr6, hb6⟩
      have hR6 := hR3.below hb6 hR3.lt
      have B6 : Below w.heap.size w w6 := B3.trans (hb6.mono B3.size)
      have HT := hide (implTold_any s6 _ _ w6 hr6 hb6.size (unhide HOM).1 (unhide HOM).2.1 (unhide HOM).2.2)
      rw [unhide HTO] at HT
      obtain ⟨at6, mt6, ct6, rfl⟩ := hr6.shape
      clear hr6 hb6 hlv
      go_wp2_with fail
      refine (unhide HT).mono ?_
      rintro e7 w7 ⟨s7, rfl, hr7, hb7⟩
      have hR7 := hR6.below hb7 hR6.lt
      have r0 := hR7.cell 0
      have r1 := hR7.cell 1
      have z0 := hR7.frozen 0
      have z1 := hR7.frozen 1
      simp only [List.getElem?_cons_zero, List.getElem?_cons_succ] at r0 r1
      have HE := hide (Ans.storeC hr7 hw3 (B6.trans (hb7.mono B6.size)))
      obtain ⟨ac, mc, cc, rfl⟩ := hr7.shape
      clear hr7 hb7 HT
      go_wp2_with fail
      refine bodyPost_ret (v := .agg #[.int .i64 0, .slice ac mc cc]) (by simp [results, Try.results7, go_sem, r0, r1]) rfl (ans_of (unhide fin2) ((unhide HE) _ _).1 ((unhide HE) _ _).2)
    · have fin2 := hide ((unhide fin).trans (sort_no k5))
      generalize v.getD 0 M.zero = x at *
      have e5 : (x.kind != 5) = true := by simpa using k5
      have e5' : (x.kind == 5) = false := by simpa using k5
      have r0 := hR.cell 0
      have r1 := hR.cell 1
      have z0 := hR.frozen 0
      have z1 := hR.frozen 1
      simp only [List.getElem?_cons_zero, List.getElem?_cons_succ] at r0 r1
      clear k5 hq fin
      go_wp2_with fail
      refine bodyPost_ret (v := .agg #[.int .i64 6, .slice none 0 0]) (by simp [results, Try.results7, go_sem, r0, r1]) rfl (ans_of (unhide fin2) (resNil _ _) (store_below B1 _ _))
  · have fin := hide ((sort_bad (by rw [hq]; exact hz)).trans (by rw [hq]))
    have hz' : (q == 0) = false := by simp [hz]
    have r0 := hR.cell 0
    have r1 := hR.cell 1
    have z0 := hR.frozen 0
    have z1 := hR.frozen 1
    simp only [List.getElem?_cons_zero, List.getElem?_cons_succ] at r0 r1
    clear hq
    go_wp2_with fail
    refine bodyPost_ret (v := .agg #[.int .i64 q, .slice none 0 0]) (by simp [results, Try.results7, go_sem, r0, r1]) rfl (ans_of (unhide fin) (resNil _ _) (store_below B1 _ _))

end Go.Proofs.Ytmeofjefhkdbgaa
