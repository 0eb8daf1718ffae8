/-
  spec.AddAll and impl.AddAll.
-/
import Derived.Test.YtjoghcolfehkcaaSum2
namespace Go.Proofs.Ytjoghcolfehkcaa
open Go.RowKit
set_option linter.unusedVariables false

set_option maxHeartbeats 1000000 in
theorem specAddAll_any (v : List M.Cl) (b off cap : Nat) (w : World) (hrow : Row w b off v) (hb : b < w.heap.size) (hn : v.length ≤ 1048576) (hcap : v.length ≤ cap) (hok : ∀ c ∈ v, c.ok) :
    Calls Try.prog 44 #[.slice (some ⟨b, off, none⟩) v.length cap] w (Ans w (sumOut v)) := by
  have OK := hide hok
  have B0 : ∀ o, Below w.heap.size w (w.alloc o) := fun o => (Below.refl _ _).alloc (Nat.le_refl _) o
  have HB0 := hide B0
  clear B0
  clear hok
  go_enter Try.func44, Try.ntmps44
  go_wp2_with fail
  refine (specFault_any v b off cap _ (hrow.below ((unhide HB0) _) hb) (by simp; omega) hn hcap (unhide OK)).mono ?_
  rintro e1 w1 ⟨rfl, hb1⟩
  have hR : Own w1 w.heap.size 26 [.int .i64 0, .slice none 0 0] := Own.below ⟨_, heap_alloc_new _ _, rfl⟩ hb1 (by simp)
  have B1 : Below w.heap.size w w1 := ((unhide HB0) _).trans (hb1.mono (by simp))
  have hrow1 := hrow.below B1 hb
  have hb1' : b < w1.heap.size := Nat.lt_of_lt_of_le hb B1.size
  clear hb1
  generalize hq : M.valueFault v = q
  by_cases hz : q = 0
  · subst hz
    have HG := hide (l3Sum_any v b off cap w1 hq hrow1 hb1' hcap (unhide OK))
    clear hq
    generalize sumOut v = R at *
    obtain ⟨rc, rl⟩ := R
    go_wp2_with fail
    refine (unhide HG).mono ?_
    rintro ec wc ⟨sc, rfl, hrc, hbc⟩
    have hRc := hR.below hbc hR.lt
    have r0 := hRc.cell 0
    have r1 := hRc.cell 1
    have z0 := hRc.frozen 0
    have z1 := hRc.frozen 1
    simp only [List.getElem?_cons_zero, List.getElem?_cons_succ] at r0 r1
    have HE := hide (Ans.store hrc B1 hR.lt hbc)
    obtain ⟨ac, mc, cc, rfl⟩ := hrc.shape
    clear hrc hbc
    go_wp2_with fail
    refine bodyPost_ret (v := .agg #[.int .i64 rc, .slice ac mc cc]) (by simp [results, Try.results44, go_sem, r0, r1]) rfl (ans_of rfl ((unhide HE) _ _).1 ((unhide HE) _ _).2)
  · have fin := hide ((sum_bad (by rw [hq]; exact hz)).trans (by rw [hq]))
    have hz' : (q == 0) = false := by simp [hz]
    clear hq
    go_wp2_with fail
    refine (l3Bad_any _ _).mono ?_
    rintro ec wc ⟨sc, rfl, hrc, hbc⟩
    have hRc := hR.below hbc hR.lt
    have r0 := hRc.cell 0
    have r1 := hRc.cell 1
    have z0 := hRc.frozen 0
    have z1 := hRc.frozen 1
    simp only [List.getElem?_cons_zero, List.getElem?_cons_succ] at r0 r1
    have HE := hide (Ans.store hrc B1 hR.lt hbc)
    obtain ⟨ac, mc, cc, rfl⟩ := hrc.shape
    clear hrc hbc
    go_wp2_with fail
    refine bodyPost_ret (v := .agg #[.int .i64 q, .slice ac mc cc]) (by simp [results, Try.results44, go_sem, r0, r1]) rfl (ans_of (unhide fin) ((unhide HE) _ _).1 ((unhide HE) _ _).2)


theorem sum_of_each (v : List M.Cl) (hok : ∀ c ∈ v, c.ok) : ((eachOut v).1 ≠ 0 ∧ sumOut v = ((eachOut v).1, [])) ∨ ((eachOut v).1 = 0 ∧ sumOut v = sumK (eachOut v).2 (eachOut v).2.length ∧ (eachOut v).2.length ≤ 200 ∧ (∀ j, j < (eachOut v).2.length → M.valueFault ((eachOut v).2.getD j []) = 0) ∧ OkS (eachOut v).2) := by
  by_cases hv : M.valueFault v = 0
  · by_cases kk : (v.getD 0 M.zero).kind = 5 ∨ (v.getD 0 M.zero).kind = 6
    · right
      rw [each_ok hv kk, sum_ok hv kk]
      obtain ⟨a, b, c, _⟩ := subs_all hv hok
      exact ⟨rfl, rfl, a, b, c⟩
    · left
      rw [each_no hv kk, sum_no hv kk]
      exact ⟨by decide, rfl⟩
  · left
    rw [each_bad hv, sum_bad hv]
    exact ⟨hv, rfl⟩

set_option maxRecDepth 100000 in
set_option maxHeartbeats 4000000 in
theorem implAddAll_any (v : List M.Cl) (b off cap : Nat) (w : World) (hrow : Row w b off v) (hb : b < w.heap.size) (hn : v.length ≤ 1048576) (hcap : v.length ≤ cap) (hok : ∀ c ∈ v, c.ok) :
    Calls Try.prog 45 #[.slice (some ⟨b, off, none⟩) v.length cap] w (Ans w (sumOut v)) := by
  have OK := hide hok
  have HSE := hide (sum_of_each v hok)
  have B0 : ∀ o, Below w.heap.size w (w.alloc o) := fun o => (Below.refl _ _).alloc (Nat.le_refl _) o
  have HB0 := hide B0
  clear B0
  clear hok
  go_enter Try.func45, Try.ntmps45
  go_wp2_with fail
  refine (implEachOf_any v b off cap _ (hrow.below ((unhide HB0) _) hb) (by simp; omega) hn hcap (unhide OK)).mono ?_
  rintro e1 w1 ⟨s1, rfl, hr1, hb1⟩
  have hR : Own w1 w.heap.size 26 [.int .i64 0, .slice none 0 0] := Own.below ⟨_, heap_alloc_new _ _, rfl⟩ hb1 (by simp)
  have B1 : Below w.heap.size w w1 := ((unhide HB0) _).trans (hb1.mono (by simp))
  have hp1 := hr1.ps
  clear hb1 hr1
  generalize eachOut v = E at *
  obtain ⟨ec, el⟩ := E
  obtain ⟨a1, n1, c1, rfl⟩ := hp1.shape
  have HP1 := hide (fun o => hp1.alloc o)
  have hRA := hide (fun o => hR.alloc o)
  have HBA := hide (fun o => B1.alloc B1.size o)
  have hne : w.heap.size ≠ w1.heap.size := by have := hR.lt; omega
  clear hp1
  rcases unhide HSE with ⟨hz, hs⟩ | ⟨hz, hs, hl, hv, ho⟩
  · simp only at hz hs
    have fin := hide hs
    have d0 : (ec != 0) = true := by simpa using hz
    have r0 := fun o => ((unhide hRA) o).cell 0
    have r1 := fun o => ((unhide hRA) o).cell 1
    have z0 := fun o => ((unhide hRA) o).frozen 0
    have z1 := fun o => ((unhide hRA) o).frozen 1
    simp only [List.getElem?_cons_zero, List.getElem?_cons_succ] at r0 r1
    have HE := hide (fun o => store_below ((unhide HBA) o))
    clear hs HSE
    go_wp2_with fail
    refine bodyPost_ret (v := .agg #[.int .i64 ec, .slice none 0 0]) (by simp [results, Try.results45, go_sem, r0, r1]) rfl (ans_of (unhide fin) (resNil _ _) ((unhide HE) _ _ _))
  · simp only at hz hs hl hv ho
    subst hz
    have HG := hide (fun o => sumOf_any _ el _ _ _ ((unhide HP1) o) (by simp) hl hv ho)
    have fin := hide hs
    generalize sumK el el.length = R at *
    obtain ⟨rc, rl⟩ := R
    clear hs hl hv ho HSE
    go_wp2_with fail
    refine ((unhide HG) _).mono ?_
    rintro ec wc ⟨sc, rfl, hrc, hbc⟩
    have hRc := ((unhide hRA) _).below hbc ((unhide hRA) _).lt
    have r0 := hRc.cell 0
    have r1 := hRc.cell 1
    have z0 := hRc.frozen 0
    have z1 := hRc.frozen 1
    simp only [List.getElem?_cons_zero, List.getElem?_cons_succ] at r0 r1
    have HE := hide (Ans.store hrc ((unhide HBA) _) ((unhide hRA) _).lt hbc)
    obtain ⟨ac, mc, cc, rfl⟩ := hrc.shape
    clear hrc hbc
    go_wp2_with fail
    refine bodyPost_ret (v := .agg #[.int .i64 rc, .slice ac mc cc]) (by simp [results, Try.results45, go_sem, r0, r1]) rfl (ans_of (unhide fin) ((unhide HE) _ _).1 ((unhide HE) _ _).2)

end Go.Proofs.Ytjoghcolfehkcaa
