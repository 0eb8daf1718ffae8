/-
  What CodeFault answers: the model's, the program's.
-/
import Derived.Test.YtfmljlhcaimafaaDoorInH
import Derived.Test.YtfmljlhcaimafaaDoorInA
namespace Go.Proofs.YtfmljlhcaimafaaDoor
open Go.RowKit
set_option linter.unusedVariables false
set_option linter.unusedSimpArgs false


namespace Ic
/-- What CodeFault answers. -/
def CfSaid (w : World) (l : List Ic) (rg : Int) (e : Ending) (w' : World) : Prop := e = .returned (.agg #[.int .i64 (fault l rg).1, .int .i64 (fault l rg).2, .slice none 0 0, .int .i64 0]) ∧ Below w.heap.size w w'
theorem cf_of {w w' : World} {l : List Ic} {rg c a : Int} (h : fault l rg = (c, a)) (hb : Below w.heap.size w w') : CfSaid w l rg (.returned (.agg #[.int .i64 c, .int .i64 a, .slice none 0 0, .int .i64 0])) w' := ⟨by rw [h], hb⟩
theorem sets4 {B : Nat} {w w' : World} (h : Below B w w') (x0 x1 x2 x3 : Value) : Below B w ((((w'.setCell ⟨B, 0, none⟩ x0).setCell ⟨B, 1, none⟩ x1).setCell ⟨B, 2, none⟩ x2).setCell ⟨B, 3, none⟩ x3) := (((h.setCell (Nat.le_refl _) _).setCell (Nat.le_refl _) _).setCell (Nat.le_refl _) _).setCell (Nat.le_refl _) _
theorem mem_at (l : List Ic) (k : Nat) (hk : k < l.length) : l.getD k zero ∈ l := by
  rw [List.getD_eq_getElem?_getD, List.getElem?_eq_getElem hk]; exact List.getElem_mem hk
end Ic

set_option maxRecDepth 100000 in
set_option maxHeartbeats 4000000 in
theorem specCode_any (b : Nat) (l : List Ic) (rg : Int) (w : World) (hrow : Ic.Row w b l) (hb : b < w.heap.size) (hsz : ∀ i, i < l.length → (l.getD i Ic.zero).val.length ≤ 1048576) (hok : ∀ c ∈ l, c.ok) (hn : l.length ≤ 1048576) :
    Calls Tryd.prog 8 #[.slice (some ⟨b, 0, none⟩) l.length l.length, .int .i64 rg] w (Ic.CfSaid w l rg) := by
  obtain ⟨w0, hw0⟩ : ∃ w0, w0 = w.alloc (.cells #[.int .i64 0, .int .i64 0, .slice none 0 0, .int .i64 0] 26) := ⟨_, rfl⟩
  have B0 : Below w.heap.size w w0 := by rw [hw0]; exact (Below.refl _ _).alloc (Nat.le_refl _) _
  have O0 : Own w0 w.heap.size 26 [.int .i64 0, .int .i64 0, .slice none 0 0, .int .i64 0] := by rw [hw0]; exact ⟨_, heap_alloc_new _ _, rfl⟩
  have HR := hide hrow
  have HZ := hide hsz
  have HK := hide hok
  clear hrow hsz hok
  by_cases hrg : rg < 0 ∨ 1000 < rg
  · have fin := hide (Ic.fault_regs (l := l) hrg)
    go_enter Tryd.func8, Tryd.ntmps8
    go_wp2_with fail
    refine (l1In_no _ _ _ _ hrg).mono ?_
    rintro e w2 ⟨rfl, hw2⟩
    rw [hw2]
    clear hw2
    go_wp2_with fail
    refine bodyPost_ret (v := .agg #[.int .i64 3, .int .i64 0, .slice none 0 0, .int .i64 0]) (by simp [results, Tryd.results8, go_sem]; try rfl) rfl (Ic.cf_of (unhide fin) ?_)
    repeat (first | exact Below.refl _ _ | refine Below.setCell ?_ (Nat.le_refl _) _ | refine Below.alloc ?_ (by simp <;> omega) _)
  by_cases hm : l.length < 1 ∨ 6000 < l.length
  · have fin := hide (Ic.fault_many (rg := rg) hrg hm)
    rcases hm with hm | hm
    · have h0 : l.length = 0 := by omega
      rw [h0]
      clear h0 hm
      go_enter Tryd.func8, Tryd.ntmps8
      go_wp2_with fail
      refine (l1In_yes _ _ _ _ (by omega) (by omega)).mono ?_
      rintro e w2 ⟨rfl, hw2⟩
      rw [hw2]
      clear hw2
      go_wp2_with fail
      refine bodyPost_ret (v := .agg #[.int .i64 2, .int .i64 0, .slice none 0 0, .int .i64 0]) (by simp [results, Tryd.results8, go_sem]; try rfl) rfl (Ic.cf_of (unhide fin) ?_)
      repeat (first | exact Below.refl _ _ | refine Below.setCell ?_ (Nat.le_refl _) _ | refine Below.alloc ?_ (by simp <;> omega) _)
    · have e1 : decide ((l.length : Int) < 1) = false := decide_eq_false (by omega)
      have e2 : (l.length : Int) > 6000 := by omega
      clear hm
      go_enter Tryd.func8, Tryd.ntmps8
      go_wp2_with fail
      refine (l1In_yes _ _ _ _ (by omega) (by omega)).mono ?_
      rintro e w2 ⟨rfl, hw2⟩
      rw [hw2]
      clear hw2
      go_wp2_with fail
      refine bodyPost_ret (v := .agg #[.int .i64 2, .int .i64 0, .slice none 0 0, .int .i64 0]) (by simp [results, Tryd.results8, go_sem]; try rfl) rfl (Ic.cf_of (unhide fin) ?_)
      repeat (first | exact Below.refl _ _ | refine Below.setCell ?_ (Nat.le_refl _) _ | refine Below.alloc ?_ (by simp <;> omega) _)
  have e1 : decide ((l.length : Int) < 1) = false := decide_eq_false (by omega)
  have e2 : decide ((l.length : Int) > 6000) = false := decide_eq_false (by omega)
  have h6 : l.length ≤ 6000 := by omega
  have h1 : 1 ≤ l.length := by omega
  have hr0 : 0 ≤ rg := by omega
  have hr1 : rg ≤ 1000 := by omega
  have HRG := hide hrg
  have HM := hide hm
  clear hrg hm
  go_enter Tryd.func8, Tryd.ntmps8
  go_wp2_with fail
  refine (l1In_yes _ _ _ _ (by omega) (by omega)).mono ?_
  rintro e w2 ⟨rfl, hw2⟩
  rw [hw2]
  clear hw2
  go_wp2_with fail
  rw [← hw0]
  clear hw0
  go_loopg [5] l.length (fun gh s5 wr => ∃ k : Nat, Hid (gh = l.length - k) ∧ s5 = .int .i64 (k : Int) ∧ k ≤ l.length ∧ Hid (∀ j, j < k → Ic.oneF (l.getD j Ic.zero) j l.length rg = 0) ∧ Hid (Below w0.heap.size w0 wr))
  case atStart => exact ⟨0, rfl, rfl, by omega, fun j hj => absurd hj (by omega), Below.refl _ _⟩
  case round =>
    obtain ⟨k, hg, rfl, hk, hall, hbel0⟩ := hrel
    have hbw : Below w.heap.size w wr := B0.trans (hbel0.out.mono B0.size)
    have Or := O0.below hbel0.out O0.lt
    by_cases hlt : k < l.length
    · have hltI : (k : Int) < (l.length : Int) := by omega
      have HC := hide (l8One_any b l k rg (l.getD k Ic.zero) wr ((unhide HR).below hbw hb) (Nat.lt_of_lt_of_le hb hbw.size) hlt h6 hr0 hr1 rfl ((unhide HZ) k hlt) ((unhide HK) _ (Ic.mem_at l k hlt)).2.2)
      have hstop := hide (fun h => Ic.fault_one (unhide HRG) (unhide HM) hlt hall.out h)
      have hnext := hide (fun h : Ic.oneF (l.getD k Ic.zero) k l.length rg = 0 => show ∀ j, j < k + 1 → Ic.oneF (l.getD j Ic.zero) j l.length rg = 0 from fun j hj => by
        by_cases e : j = k
        · subst e; exact h
        · exact hall.out j (by omega))
      generalize Ic.oneF (l.getD k Ic.zero) k l.length rg = c at HC hstop hnext
      clear hlt hall
      go_wp2_with fail
      refine (unhide HC).mono ?_
      rintro e w2 ⟨rfl, hb2⟩
      have B2 : Below w0.heap.size w0 w2 := hbel0.out.trans (hb2.mono hbel0.out.size)
      have BW2 : Below w.heap.size w w2 := B0.trans (B2.mono B0.size)
      have O2 := O0.below B2 O0.lt
      clear HC hb2
      by_cases hc : c = 0
      · have hn2 := hide ((unhide hnext) hc)
        have g1 : (c != 0) = false := by simp [hc]
        clear hc hnext hstop Or hbw hbel0
        go_wp2_with fail
        go_roundg (l.length - (k + 1))
        case rel => exact ⟨k + 1, rfl, by go_num, by omega, unhide hn2, B2⟩
        case measure => have := hg.out; omega
      · have fin := hide ((unhide hstop) hc)
        have g1 : (c != 0) = true := by simpa using hc
        have c0 := O2.cell 0
        have z0 := O2.frozen 0
        have c1 := O2.cell 1
        have z1 := O2.frozen 1
        have c2 := O2.cell 2
        have z2 := O2.frozen 2
        have c3 := O2.cell 3
        have z3 := O2.frozen 3
        simp only [List.getElem?_cons_zero, List.getElem?_cons_succ] at c0 c1 c2 c3
        clear hc hnext hstop Or hbw hbel0 O2
        go_wp2_with fail
        refine bodyPost_ret (v := .agg #[.int .i64 c, .int .i64 (k : Int), .slice none 0 0, .int .i64 0]) (by simp [results, Tryd.results8, go_sem, c0, c1, c2, c3]; try rfl) rfl (Ic.cf_of (unhide fin) (Ic.sets4 BW2 _ _ _ _))
    · have hltI : ¬ (k : Int) < (l.length : Int) := by omega
      have hke : k = l.length := by omega
      subst hke
      have HALL := hide hall.out
      have HT := hide (l8Heights_any b l rg wr ((unhide HR).below hbw hb) (Nat.lt_of_lt_of_le hb hbw.size) h1 h6 hall.out)
      clear hall hlt
      go_wp2_with fail
      refine (unhide HT).mono ?_
      rintro e w2 ⟨x, rfl, hb2, hx⟩
      have B2 : Below w0.heap.size w0 w2 := hbel0.out.trans (hb2.mono hbel0.out.size)
      have BW2 : Below w.heap.size w w2 := B0.trans (B2.mono B0.size)
      have O2 := O0.below B2 O0.lt
      have c0 := O2.cell 0
      have z0 := O2.frozen 0
      have c1 := O2.cell 1
      have z1 := O2.frozen 1
      have c2 := O2.cell 2
      have z2 := O2.frozen 2
      have c3 := O2.cell 3
      have z3 := O2.frozen 3
      simp only [List.getElem?_cons_zero, List.getElem?_cons_succ] at c0 c1 c2 c3
      clear HT hb2 Or hbw hbel0 B2 O2
      rcases hx with ⟨o, ho, rfl, _, _⟩ | ⟨q, hq, rfl, _⟩
      · have fin := hide (Ic.fault_ok (unhide HRG) (unhide HM) (unhide HALL) ho)
        clear ho
        go_wp2_with fail
        refine bodyPost_ret (v := .agg #[.int .i64 0, .int .i64 0, .slice none 0 0, .int .i64 0]) (by simp [results, Tryd.results8, go_sem, c0, c1, c2, c3]; try rfl) rfl (Ic.cf_of (unhide fin) (Ic.sets4 BW2 _ _ _ _))
      · have fin := hide (Ic.fault_code (unhide HRG) (unhide HM) (unhide HALL) hq)
        have hq0 : (0 : Int) ≤ (q : Int) := by omega
        clear hq
        go_wp2_with fail
        refine bodyPost_ret (v := .agg #[.int .i64 9, .int .i64 (q : Int), .slice none 0 0, .int .i64 0]) (by simp [results, Tryd.results8, go_sem, c0, c1, c2, c3]; try rfl) rfl (Ic.cf_of (unhide fin) (Ic.sets4 BW2 _ _ _ _))

set_option maxRecDepth 100000 in
set_option maxHeartbeats 4000000 in
theorem implCode_any (b : Nat) (l : List Ic) (rg : Int) (w : World) (hrow : Ic.Row w b l) (hb : b < w.heap.size) (hsz : ∀ i, i < l.length → (l.getD i Ic.zero).val.length ≤ 1048576) (hok : ∀ c ∈ l, c.ok) (hn : l.length ≤ 1048576) (hS : Shp w) :
    Calls Tryd.prog 10 #[.slice (some ⟨b, 0, none⟩) l.length l.length, .int .i64 rg] w (Ic.CfSaid w l rg) := by
  obtain ⟨w0, hw0⟩ : ∃ w0, w0 = w.alloc (.cells #[.int .i64 0, .int .i64 0, .slice none 0 0, .int .i64 0] 26) := ⟨_, rfl⟩
  have B0 : Below w.heap.size w w0 := by rw [hw0]; exact (Below.refl _ _).alloc (Nat.le_refl _) _
  have O0 : Own w0 w.heap.size 26 [.int .i64 0, .int .i64 0, .slice none 0 0, .int .i64 0] := by rw [hw0]; exact ⟨_, heap_alloc_new _ _, rfl⟩
  have HR := hide hrow
  have HZ := hide hsz
  have HK := hide hok
  have HS := hide hS
  clear hrow hsz hok hS
  by_cases hrg : rg < 0 ∨ 1000 < rg
  · have fin := hide (Ic.fault_regs (l := l) hrg)
    by_cases h1 : rg < 0
    · have d1 : decide (rg < 0) = true := decide_eq_true h1
      clear hrg h1
      go_enter Tryd.func10, Tryd.ntmps10
      go_wp2_with fail
      refine bodyPost_ret (v := .agg #[.int .i64 3, .int .i64 0, .slice none 0 0, .int .i64 0]) (by simp [results, Tryd.results10, go_sem]; try rfl) rfl (Ic.cf_of (unhide fin) ?_)
      repeat (first | exact Below.refl _ _ | refine Below.setCell ?_ (Nat.le_refl _) _ | refine Below.alloc ?_ (by simp <;> omega) _)
    · have d1 : decide (rg < 0) = false := decide_eq_false h1
      have d2 : rg > 1000 := by omega
      clear hrg h1
      go_enter Tryd.func10, Tryd.ntmps10
      go_wp2_with fail
      refine bodyPost_ret (v := .agg #[.int .i64 3, .int .i64 0, .slice none 0 0, .int .i64 0]) (by simp [results, Tryd.results10, go_sem]; try rfl) rfl (Ic.cf_of (unhide fin) ?_)
      repeat (first | exact Below.refl _ _ | refine Below.setCell ?_ (Nat.le_refl _) _ | refine Below.alloc ?_ (by simp <;> omega) _)
  have d1 : decide (rg < 0) = false := decide_eq_false (by omega)
  have d2 : decide (rg > 1000) = false := decide_eq_false (by omega)
  by_cases hm : l.length < 1 ∨ 6000 < l.length
  · have fin := hide (Ic.fault_many (rg := rg) hrg hm)
    rcases hm with hm | hm
    · have h0 : l.length = 0 := by omega
      rw [h0]
      clear h0 hm
      go_enter Tryd.func10, Tryd.ntmps10
      go_wp2_with fail
      refine bodyPost_ret (v := .agg #[.int .i64 2, .int .i64 0, .slice none 0 0, .int .i64 0]) (by simp [results, Tryd.results10, go_sem]; try rfl) rfl (Ic.cf_of (unhide fin) ?_)
      repeat (first | exact Below.refl _ _ | refine Below.setCell ?_ (Nat.le_refl _) _ | refine Below.alloc ?_ (by simp <;> omega) _)
    · have e1 : ((l.length : Int) == 0) = false := beq_eq_false_iff_ne.2 (by omega)
      have e2 : (l.length : Int) > 6000 := by omega
      clear hm
      go_enter Tryd.func10, Tryd.ntmps10
      go_wp2_with fail
      refine bodyPost_ret (v := .agg #[.int .i64 2, .int .i64 0, .slice none 0 0, .int .i64 0]) (by simp [results, Tryd.results10, go_sem]; try rfl) rfl (Ic.cf_of (unhide fin) ?_)
      repeat (first | exact Below.refl _ _ | refine Below.setCell ?_ (Nat.le_refl _) _ | refine Below.alloc ?_ (by simp <;> omega) _)
  have e1 : ((l.length : Int) == 0) = false := beq_eq_false_iff_ne.2 (by omega)
  have e2 : decide ((l.length : Int) > 6000) = false := decide_eq_false (by omega)
  have h6 : l.length ≤ 6000 := by omega
  have h1 : 1 ≤ l.length := by omega
  have hr0 : 0 ≤ rg := by omega
  have hr1 : rg ≤ 1000 := by omega
  have HRG := hide hrg
  have HM := hide hm
  clear hrg hm
  go_enter Tryd.func10, Tryd.ntmps10
  go_wp2_with fail
  rw [← hw0]
  clear hw0
  go_loopg [26] l.length (fun gh s26 wr => ∃ k : Nat, Hid (gh = l.length - k) ∧ s26 = .int .i64 (k : Int) ∧ k ≤ l.length ∧ Hid (∀ j, j < k → Ic.oneF (l.getD j Ic.zero) j l.length rg = 0) ∧ Hid (Below w0.heap.size w0 wr))
  case atStart => exact ⟨0, rfl, rfl, by omega, fun j hj => absurd hj (by omega), Below.refl _ _⟩
  case round =>
    obtain ⟨k, hg, rfl, hk, hall, hbel0⟩ := hrel
    have hbw : Below w.heap.size w wr := B0.trans (hbel0.out.mono B0.size)
    have Or := O0.below hbel0.out O0.lt
    by_cases hlt : k < l.length
    · have hltI : (k : Int) < (l.length : Int) := by omega
      have HC := hide (inFault_any b l k rg (l.getD k Ic.zero) wr ((unhide HR).below hbw hb) (Nat.lt_of_lt_of_le hb hbw.size) hlt h6 hr0 hr1 rfl ((unhide HZ) k hlt) ((unhide HK) _ (Ic.mem_at l k hlt)).2.2 ((unhide HS).below hbw))
      have hstop := hide (fun h => Ic.fault_one (unhide HRG) (unhide HM) hlt hall.out h)
      have hnext := hide (fun h : Ic.oneF (l.getD k Ic.zero) k l.length rg = 0 => show ∀ j, j < k + 1 → Ic.oneF (l.getD j Ic.zero) j l.length rg = 0 from fun j hj => by
        by_cases e : j = k
        · subst e; exact h
        · exact hall.out j (by omega))
      generalize Ic.oneF (l.getD k Ic.zero) k l.length rg = c at HC hstop hnext
      clear hlt hall
      go_wp2_with fail
      refine (unhide HC).mono ?_
      rintro e w2 ⟨rfl, hb2⟩
      have B2 : Below w0.heap.size w0 w2 := hbel0.out.trans (hb2.mono hbel0.out.size)
      have BW2 : Below w.heap.size w w2 := B0.trans (B2.mono B0.size)
      have O2 := O0.below B2 O0.lt
      clear HC hb2
      by_cases hc : c = 0
      · have hn2 := hide ((unhide hnext) hc)
        have g1 : (c != 0) = false := by simp [hc]
        clear hc hnext hstop Or hbw hbel0
        go_wp2_with fail
        go_roundg (l.length - (k + 1))
        case rel => exact ⟨k + 1, rfl, by go_num, by omega, unhide hn2, B2⟩
        case measure => have := hg.out; omega
      · have fin := hide ((unhide hstop) hc)
        have g1 : (c != 0) = true := by simpa using hc
        have c0 := O2.cell 0
        have z0 := O2.frozen 0
        have c1 := O2.cell 1
        have z1 := O2.frozen 1
        have c2 := O2.cell 2
        have z2 := O2.frozen 2
        have c3 := O2.cell 3
        have z3 := O2.frozen 3
        simp only [List.getElem?_cons_zero, List.getElem?_cons_succ] at c0 c1 c2 c3
        clear hc hnext hstop Or hbw hbel0 O2
        go_wp2_with fail
        refine bodyPost_ret (v := .agg #[.int .i64 c, .int .i64 (k : Int), .slice none 0 0, .int .i64 0]) (by simp [results, Tryd.results10, go_sem, c0, c1, c2, c3]; try rfl) rfl (Ic.cf_of (unhide fin) (Ic.sets4 BW2 _ _ _ _))
    · have hltI : ¬ (k : Int) < (l.length : Int) := by omega
      have hke : k = l.length := by omega
      subst hke
      have HALL := hide hall.out
      have HT := hide (heightsAhead_any b l rg wr ((unhide HR).below hbw hb) (Nat.lt_of_lt_of_le hb hbw.size) h1 h6 hall.out ((unhide HS).below hbw))
      clear hall hlt
      go_wp2_with fail
      refine (unhide HT).mono ?_
      rintro e w2 ⟨v, hv, rfl, hrw, hb2, hx⟩
      have B2 : Below w0.heap.size w0 w2 := hbel0.out.trans (hb2.mono hbel0.out.size)
      have BW2 : Below w.heap.size w w2 := B0.trans (B2.mono B0.size)
      have O2 := O0.below B2 O0.lt
      have c0 := O2.cell 0
      have z0 := O2.frozen 0
      have c1 := O2.cell 1
      have z1 := O2.frozen 1
      have c2 := O2.cell 2
      have z2 := O2.frozen 2
      have c3 := O2.cell 3
      have z3 := O2.frozen 3
      simp only [List.getElem?_cons_zero, List.getElem?_cons_succ] at c0 c1 c2 c3
      obtain ⟨av, cv, rfl⟩ : ∃ (a : Option Addr) (c : Nat), v = .slice a hv.length c := by
        obtain ⟨h0, h1 | ⟨g, c, cur, h2, hg, hh, rest⟩⟩ := hrw
        · exact ⟨none, 0, by rw [h1.1, h1.2]⟩
        · exact ⟨_, _, h2⟩
      clear HT hb2 Or hbw hbel0 B2 O2 hrw
      rcases hx with ⟨ho, hl⟩ | ⟨hq, hl⟩
      · have fin := hide (Ic.fault_ok (unhide HRG) (unhide HM) (unhide HALL) ho)
        have g1 : ¬ (hv.length : Int) < (l.length : Int) := by omega
        clear ho hl
        go_wp2_with fail
        refine bodyPost_ret (v := .agg #[.int .i64 0, .int .i64 0, .slice none 0 0, .int .i64 0]) (by simp [results, Tryd.results10, go_sem, c0, c1, c2, c3]; try rfl) rfl (Ic.cf_of (unhide fin) (Ic.sets4 BW2 _ _ _ _))
      · have fin := hide (Ic.fault_code (unhide HRG) (unhide HM) (unhide HALL) hq)
        have g1 : (hv.length : Int) < (l.length : Int) := by omega
        clear hq hl
        go_wp2_with fail
        refine bodyPost_ret (v := .agg #[.int .i64 9, .int .i64 (hv.length : Int), .slice none 0 0, .int .i64 0]) (by simp [results, Tryd.results10, go_sem, c0, c1, c2, c3]; try rfl) rfl (Ic.cf_of (unhide fin) (Ic.sets4 BW2 _ _ _ _))

end Go.Proofs.YtfmljlhcaimafaaDoor
