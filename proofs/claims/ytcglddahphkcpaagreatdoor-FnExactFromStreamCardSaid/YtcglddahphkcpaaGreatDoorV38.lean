/-
  spec.l15Event and both StreamFaults.
-/
import Derived.Test.YtcglddahphkcpaaGreatDoorV17
import Derived.Test.YtcglddahphkcpaaGreatDoorV37
namespace Go.Proofs.YtcglddahphkcpaaGreatDoor
open Go.RowKit
set_option linter.unusedVariables false
set_option linter.unusedSimpArgs false

namespace Sev
theorem l15Leaf_any (l : List M.Cl) (b off cap : Nat) (w : World) (hrow : Row w b off l) (h1 : 1 ≤ l.length) :
    Calls Tryz.prog 86 #[.slice (some ⟨b, off, none⟩) l.length cap] w fun e w' => e = .returned (.bool ((l.getD 0 M.zero).n == 0)) ∧ w' = w := by
  obtain ⟨_, _, _, _, f4⟩ := hrow 0 (by omega)
  simp only [Nat.zero_mul, Nat.add_zero] at f4
  have hI : (0 : Int) < (l.length : Int) := by omega
  generalize (l.getD 0 M.zero).n = n at *
  clear hrow
  go_enter Tryz.func86, Tryz.ntmps86
  go_wp2_with fail
  go_ret
  exact ⟨rfl, rfl⟩

set_option maxRecDepth 100000 in
set_option maxHeartbeats 1000000 in
theorem specEvent_any (l : List M.Cl) (b off cap : Nat) (w : World) (hrow : Row w b off l) (hb : b < w.heap.size) (hn : l.length ≤ 1048576) (hcap : l.length ≤ cap) (hok : ∀ c ∈ l, c.ok) :
    Calls Tryz.prog 70 #[.slice (some ⟨b, off, none⟩) l.length cap] w fun e w' => e = .returned (.int .i64 (fault l)) ∧ Below w.heap.size w w' := by
  have HPT := hide (fun w' (hbl : Below w.heap.size w w') hv => l1Parts_any l b off cap w' hv (hrow.below hbl hb) (Nat.lt_of_lt_of_le hb hbl.size) hcap hok)
  have HPO := hide (fun hv (j : Nat) hj => part_ok hv hok (j := j) hj)
  have HNE := hide (fun hv => (subs_all hv hok).2.2.2)
  have HRW := hide (fun w' (hbl : Below w.heap.size w w') => hrow.below hbl hb)
  have HF := hide (specFault_any l b off cap w hrow hb hn hcap hok)
  clear hrow hok hn
  go_enter Tryz.func70, Tryz.ntmps70
  go_wp2_with fail
  refine (unhide HF).mono ?_
  rintro e w1 ⟨rfl, hb1⟩
  clear HF
  generalize hq : M.valueFault l = q
  by_cases hz : q = 0
  · subst hz
    have hl1 := Pth.lens hq
    obtain ⟨f0, _, _, _, f4⟩ := (unhide HRW) w1 hb1 0 (by omega)
    simp only [Nat.zero_mul, Nat.add_zero] at f0 f4
    have FK := hide (fault_kind hq)
    have FP := hide (fault_path hq)
    have F1 := hide (fault_one hq)
    have F2 := hide (fault_two hq)
    have HQ := hide hq
    have hl1 := hl1.1
    clear hq HRW
    by_cases hk : (l.getD 0 M.zero).kind = 5
    · rw [hk] at f0
      by_cases h12 : (l.getD 0 M.zero).n < 1 ∨ 2 < (l.getD 0 M.zero).n
      · have fin := hide ((unhide FK) (.inr h12))
        have HIN := hide (fun W => l1In_no (l.getD 0 M.zero).n 1 2 W h12)
        generalize (l.getD 0 M.zero).n = n at *
        clear FK FP F1 F2 HPT HPO hk h12 HNE
        go_wp2_with fail
        refine ((unhide HIN) _).mono ?_
        rintro e w2 ⟨rfl, rfl⟩
        clear HIN
        go_wp2_with fail
        go_ret
        exact ⟨ret_int (unhide fin).symm, hb1⟩
      have FP := hide ((unhide FP) hk (by omega) (by omega))
      have F1 := hide ((unhide F1) hk)
      have F2 := hide ((unhide F2) hk)
      have HIN := hide (fun W => l1In_yes (l.getD 0 M.zero).n 1 2 W (by omega) (by omega))
      have HP := hide ((unhide HPT) w1 hb1 (unhide HQ))
      have HN := hide ((unhide HNE) (unhide HQ))
      have hn12 : (l.getD 0 M.zero).n = 1 ∨ (l.getD 0 M.zero).n = 2 := by omega
      clear FK hk HPT HNE h12
      rcases hn12 with e1 | e1
      · have F1 := hide ((unhide F1) e1)
        have hpl := parts_n (n := 1) e1
        have hp := (unhide HPO) (unhide HQ) 0 (by omega)
        rw [e1] at f4 HIN
        clear F2 HPO e1
        go_wp2_with fail
        refine ((unhide HIN) _).mono ?_
        rintro e w2 ⟨rfl, rfl⟩
        clear HIN f0 f4
        go_wp2_with fail
        refine (unhide HP).mono ?_
        rintro e w2 ⟨s, rfl, hs, hb2⟩
        obtain ⟨a, c, rfl, hac, hlv⟩ := hs.lv (unhide HN)
        have B2 : Below w.heap.size w w2 := hb1.trans (hb2.mono hb1.size)
        obtain ⟨g, b0, o0, c0, rfl, hg, k0, hc0, hb0, hr0⟩ := hlv 0 (by omega)
        rw [hpl] at hac ⊢
        clear hs hlv HP HN hb2 hpl
        have hrP : Row w2 b0 o0 (P l 0) := hr0
        have kP : w2.cell? ⟨g, 0, none⟩ = some (.slice (some ⟨b0, o0, none⟩) (P l 0).length c0) := k0
        have hcP : (P l 0).length ≤ c0 := hc0
        clear hr0 k0 hc0
        have HPF := hide (specPathFault_any (P l 0) b0 o0 c0 w2 hrP hb0 (by omega) hcP hp.2.1)
        have HRW := hide (fun W (h : Below w2.heap.size w2 W) => hrP.below h hb0)
        have HKP := hide (fun W (h : Below w2.heap.size w2 W) => (h.cell hg).trans kP)
        have hpl1 := hp.2.2.2.1
        clear hp hrP
        generalize P l 0 = p at *
        go_wp2_with fail
        refine (unhide HPF).mono ?_
        rintro e w3 ⟨rfl, hb3⟩
        have B3 : Below w.heap.size w w3 := B2.trans (hb3.mono B2.size)
        have k0 := (unhide HKP) w3 hb3
        obtain ⟨_, _, _, _, k4⟩ := (unhide HRW) w3 hb3 0 (by omega)
        simp only [Nat.zero_mul, Nat.add_zero] at k4
        have hpI : (0 : Int) < (p.length : Int) := by omega
        clear HPF hb3 B2 HRW HKP kP
        generalize hr : Pth.fault p = r at *
        by_cases hz : r = 0
        · subst hz
          have F1 := hide ((unhide F1) rfl)
          clear FP hr
          generalize (p.getD 0 M.zero).n = pn at *
          by_cases e : pn = 0
          · have fin := hide (show fault l = 1 by rw [unhide F1, if_pos e])
            rw [e] at k4
            clear F1 e
            go_wp2_with fail
            go_ret
            exact ⟨ret_int (unhide fin).symm, B3⟩
          · have fin := hide (show fault l = 0 by rw [unhide F1, if_neg e])
            have e' : (pn == 0) = false := by simp [e]
            clear F1 e
            go_wp2_with fail
            go_ret
            exact ⟨ret_int (unhide fin).symm, B3⟩
        · have fin := hide ((unhide FP) hz)
          have hz' : (r == 0) = false := by simp [hz]
          clear FP F1 hr hz k4
          go_wp2_with fail
          go_ret
          exact ⟨ret_int (unhide fin).symm, B3⟩
      · have F2 := hide ((unhide F2) e1)
        have hpl := parts_n (n := 2) e1
        have hp := (unhide HPO) (unhide HQ) 0 (by omega)
        have hx := (unhide HPO) (unhide HQ) 1 (by omega)
        rw [e1] at f4 HIN
        clear F1 HPO e1
        go_wp2_with fail
        refine ((unhide HIN) _).mono ?_
        rintro e w2 ⟨rfl, rfl⟩
        clear HIN f0 f4
        go_wp2_with fail
        refine (unhide HP).mono ?_
        rintro e w2 ⟨s, rfl, hs, hb2⟩
        obtain ⟨a, c, rfl, hac, hlv⟩ := hs.lv (unhide HN)
        have B2 : Below w.heap.size w w2 := hb1.trans (hb2.mono hb1.size)
        obtain ⟨g, b0, o0, c0, rfl, hg, k0, hc0, hb0, hr0⟩ := hlv 0 (by omega)
        obtain ⟨g', b1, o1, c1, eg, hg', k1, hc1, hbx, hr1⟩ := hlv 1 (by omega)
        injection eg with eg
        injection eg with eg
        subst eg
        rw [hpl] at hac ⊢
        clear hs hlv HP HN hb2 hpl hg'
        have hrP : Row w2 b0 o0 (P l 0) := hr0
        have kP : w2.cell? ⟨g, 0, none⟩ = some (.slice (some ⟨b0, o0, none⟩) (P l 0).length c0) := k0
        have hcP : (P l 0).length ≤ c0 := hc0
        have hrX : Row w2 b1 o1 (P l 1) := hr1
        have kX : w2.cell? ⟨g, 1, none⟩ = some (.slice (some ⟨b1, o1, none⟩) (P l 1).length c1) := k1
        have hcX : (P l 1).length ≤ c1 := hc1
        clear hr0 k0 hc0 hr1 k1 hc1
        have HPF := hide (specPathFault_any (P l 0) b0 o0 c0 w2 hrP hb0 (by omega) hcP hp.2.1)
        have HLF := hide (fun W (h : Below w2.heap.size w2 W) => l15Leaf_any (P l 1) b1 o1 c1 W (hrX.below h hbx) hx.2.2.2.1)
        have HKP := hide (fun W (h : Below w2.heap.size w2 W) => (h.cell hg).trans kX)
        clear hp hrP hx hrX kX
        generalize P l 0 = p at *
        generalize P l 1 = x at *
        go_wp2_with fail
        refine (unhide HPF).mono ?_
        rintro e w3 ⟨rfl, hb3⟩
        have B3 : Below w.heap.size w w3 := B2.trans (hb3.mono B2.size)
        have k1 := (unhide HKP) w3 hb3
        have HL := hide ((unhide HLF) w3 hb3)
        clear HPF hb3 B2 HLF HKP kP
        generalize hr : Pth.fault p = r at *
        by_cases hz : r = 0
        · subst hz
          have F2 := hide ((unhide F2) rfl)
          clear FP hr
          generalize (x.getD 0 M.zero).n = xn at *
          by_cases e : xn = 0
          · have fin := hide (show fault l = 0 by rw [unhide F2, if_pos e])
            rw [show (xn == 0) = true by simp [e]] at HL
            clear F2 e
            go_wp2_with fail
            refine (unhide HL).mono ?_
            rintro e w4 ⟨rfl, rfl⟩
            go_wp2_with fail
            go_ret
            exact ⟨ret_int (unhide fin).symm, B3⟩
          · have fin := hide (show fault l = 1 by rw [unhide F2, if_neg e])
            rw [show (xn == 0) = false by simp [e]] at HL
            clear F2 e
            go_wp2_with fail
            refine (unhide HL).mono ?_
            rintro e w4 ⟨rfl, rfl⟩
            go_wp2_with fail
            go_ret
            exact ⟨ret_int (unhide fin).symm, B3⟩
        · have fin := hide ((unhide FP) hz)
          have hz' : (r == 0) = false := by simp [hz]
          clear FP F2 hr hz HL
          go_wp2_with fail
          go_ret
          exact ⟨ret_int (unhide fin).symm, B3⟩
    · have fin := hide ((unhide FK) (.inl hk))
      have n5 : ((l.getD 0 M.zero).kind != 5) = true := bne_iff_ne.2 hk
      generalize (l.getD 0 M.zero).kind = kd at *
      clear FK FP F1 F2 HPT HPO hk HNE
      go_wp2_with fail
      go_ret
      exact ⟨ret_int (unhide fin).symm, hb1⟩
  · have fin := hide ((fault_bad (by rw [hq]; exact hz)).trans hq)
    have hz' : (q == 0) = false := by simp [hz]
    clear hq HRW HPT HPO HNE
    go_wp2_with fail
    go_ret
    exact ⟨ret_int (unhide fin).symm, hb1⟩

/-- What StreamFault tells of a list: a code and a place. -/
def first : List (List M.Cl) → Nat → Int × Int × List M.Cl
  | [], _ => (0, 0, [])
  | e :: l, k => if fault e = 0 then first l (k + 1) else (fault e, (k : Int), [])
def faults (l : List (List M.Cl)) : Int × Int × List M.Cl := if l.length < 1 ∨ 200 < l.length then (2, 0, []) else first l 0
theorem first_hit : ∀ (l : List (List M.Cl)) (n k : Nat), k < l.length → (∀ j, j < k → fault (l.getD j []) = 0) → fault (l.getD k []) ≠ 0 → first l n = (fault (l.getD k []), ((n + k : Nat) : Int), []) := by
  intro l
  induction l with
  | nil => intro n k hk; simp at hk
  | cons e l ih =>
    intro n k hk hall hne
    cases k with
    | zero => simp only [List.getD_cons_zero] at hne ⊢; rw [first, if_neg hne]; rfl
    | succ k =>
      have h0 := hall 0 (by omega)
      simp only [List.getD_cons_zero] at h0
      simp only [List.getD_cons_succ] at hne ⊢
      rw [first, if_pos h0]
      rw [ih (n + 1) k (by simpa using hk) (fun j hj => by have := hall (j + 1) (by omega); simpa only [List.getD_cons_succ] using this) hne]
      rw [show n + 1 + k = n + (k + 1) by omega]
theorem first_none : ∀ (l : List (List M.Cl)) (n : Nat), (∀ j, j < l.length → fault (l.getD j []) = 0) → first l n = (0, 0, []) := by
  intro l
  induction l with
  | nil => intro n _; rfl
  | cons e l ih =>
    intro n hall
    have h0 := hall 0 (by simp)
    simp only [List.getD_cons_zero] at h0
    rw [first, if_pos h0]
    exact ih (n + 1) (fun j hj => by have := hall (j + 1) (by simpa using hj); simpa only [List.getD_cons_succ] using this)
theorem faults_many {l : List (List M.Cl)} (h : l.length < 1 ∨ 200 < l.length) : faults l = (2, 0, []) := if_pos h
theorem faults_few {l : List (List M.Cl)} (h : ¬ (l.length < 1 ∨ 200 < l.length)) : faults l = first l 0 := if_neg h
theorem first_nil : ∀ (l : List (List M.Cl)) (n : Nat), (first l n).2.2 = [] := by
  intro l
  induction l with
  | nil => intro n; rfl
  | cons e l ih => intro n; rw [first]; split; exact ih _; rfl
theorem faults_nil (l : List (List M.Cl)) : (faults l).2.2 = [] := by unfold faults; split; rfl; exact first_nil _ _
theorem faults_no {l : List (List M.Cl)} (h : (faults l).1 = 0) : 1 ≤ l.length ∧ l.length ≤ 200 ∧ ∀ j, j < l.length → fault (l.getD j []) = 0 := by
  by_cases hm : l.length < 1 ∨ 200 < l.length
  · rw [faults_many hm] at h; cases h
  rw [faults_few hm] at h
  refine ⟨by omega, by omega, fun j hj => ?_⟩
  clear hm
  suffices H : ∀ (l : List (List M.Cl)) (n : Nat), (first l n).1 = 0 → ∀ j, j < l.length → fault (l.getD j []) = 0 from H l 0 h j hj
  clear h hj j l
  intro l
  induction l with
  | nil => intro n _ j hj; simp at hj
  | cons e l ih =>
    intro n h j hj
    rw [first] at h
    split at h
    · rename_i h0
      cases j with
      | zero => simpa only [List.getD_cons_zero] using h0
      | succ j => simpa only [List.getD_cons_succ] using ih (n + 1) h j (by simpa using hj)
    · rename_i h0; exact absurd h h0

/-- The call told the code, the place and the cells of out, these in memory of their own. -/
def AnsR (w : World) (out : Int × Int × List M.Cl) (e : Ending) (w' : World) : Prop := ∃ sv, e = .returned (.agg #[.int .i64 out.1, .int .i64 out.2.1, sv]) ∧ Res w' w.heap.size sv out.2.2 ∧ Below w.heap.size w w'
theorem ansR_of {w w' : World} {out : Int × Int × List M.Cl} {c p : Int} {sv : Value} {l : List M.Cl} (fin : out = (c, p, l)) (hr : Res w' w.heap.size sv l) (hb : Below w.heap.size w w') : AnsR w out (.returned (.agg #[.int .i64 c, .int .i64 p, sv])) w' := by
  subst fin; exact ⟨sv, rfl, hr, hb⟩
theorem below3 {w w2 : World} (h : Below w.heap.size w w2) (x y z : Value) : Below w.heap.size w (((w2.setCell ⟨w.heap.size, 0, none⟩ x).setCell ⟨w.heap.size, 1, none⟩ y).setCell ⟨w.heap.size, 2, none⟩ z) := ((h.setCell (Nat.le_refl _) _).setCell (Nat.le_refl _) _).setCell (Nat.le_refl _) _
-- THE TAIL (mk_suf.py)

set_option maxRecDepth 100000 in
set_option maxHeartbeats 1000000 in
theorem implStream_any (g : Nat) (ps : List (List M.Cl)) (w : World) (hL : LR w g ps) (hn : ps.length ≤ 1048576) (hln : tot ps ps.length ≤ 1048576) (hok : OkS ps) :
    Calls Tryz.prog 23 #[.slice (some ⟨g, 0, none⟩) ps.length ps.length] w (AnsR w (faults ps)) := by
  have HL := hide hL
  have OK := hide hok
  have HN := hide hln
  clear hL hok hln
  have HB0 := hide (fun o => (show Below w.heap.size w (w.alloc o) from (Below.refl _ _).alloc (Nat.le_refl _) o))
  by_cases hm : ps.length < 1 ∨ 200 < ps.length
  · have fin := hide (faults_many hm)
    by_cases hm1 : ps.length < 1
    · have hmI : (ps.length : Int) < 1 := by omega
      clear hm HL
      go_enter Tryz.func23, Tryz.ntmps23
      go_wp2_with fail
      refine bodyPost_ret (v := .agg #[.int .i64 2, .int .i64 0, .slice none 0 0]) (by simp [results, Tryz.results23, go_sem]) rfl (ansR_of (unhide fin) (resNil _ _) ((unhide HB0) _))
    · have hmI : (200 : Int) < (ps.length : Int) := by omega
      clear hm HL
      go_enter Tryz.func23, Tryz.ntmps23
      go_wp2_with fail
      refine bodyPost_ret (v := .agg #[.int .i64 2, .int .i64 0, .slice none 0 0]) (by simp [results, Tryz.results23, go_sem]) rfl (ansR_of (unhide fin) (resNil _ _) ((unhide HB0) _))
  have FF := hide (faults_few hm)
  have hmI : (1 : Int) ≤ (ps.length : Int) := by omega
  have hmJ : (ps.length : Int) ≤ 200 := by omega
  clear hm
  go_enter Tryz.func23, Tryz.ntmps23
  go_wp2_with fail
  go_loopg [17] ps.length (fun gh s17 wr => ∃ k : Nat, Hid (gh = ps.length - k) ∧ s17 = .int .i64 k ∧ k ≤ ps.length ∧ Hid (∀ j, j < k → fault (ps.getD j []) = 0) ∧ Own wr w.heap.size 26 [.int .i64 0, .int .i64 0, .slice none 0 0] ∧ Below w.heap.size w wr)
  case atStart => exact ⟨0, rfl, rfl, by omega, fun j hj => absurd hj (by omega), ⟨_, heap_alloc_new _ _, rfl⟩, (unhide HB0) _⟩
  case round =>
    obtain ⟨k, hg, rfl, hk, hall, hR, hbel⟩ := hrel
    by_cases hlt : k < ps.length
    · obtain ⟨b, f0, hb, hr⟩ := ((unhide HL).below hbel).2 k hlt
      have hq := Nat.le_trans (len_le ps k hlt) (unhide HN)
      have hok := (unhide OK) k hlt
      have hhit := hide (fun hz => (unhide FF).trans (first_hit ps 0 k hlt hall.out hz))
      have hnext := hide (fun (h0 : fault (ps.getD k []) = 0) j (hj : j < k + 1) => show fault (ps.getD j []) = 0 by
        by_cases e : j = k
        · subst e; exact h0
        · exact hall.out j (by omega))
      have HE := hide (implEvent_any (ps.getD k []) b 0 (ps.getD k []).length wr hr hb hq (Nat.le_refl _) hok)
      have hltI : (k : Int) < (ps.length : Int) := by omega
      clear hok hr hall FF
      generalize ps.getD k [] = p at *
      go_wp2_with fail
      refine (unhide HE).mono ?_
      rintro e1 w1 ⟨rfl, hb1⟩
      have hR1 := hR.below hb1 hR.lt
      have B1 : Below w.heap.size w w1 := hbel.trans (hb1.mono hbel.size)
      clear f0 hb1 hR hbel HE
      generalize hqq : fault p = q at *
      by_cases hz : q = 0
      · subst hz
        have hn2 := hide ((unhide hnext) rfl)
        clear hhit hnext
        go_wp2_with fail
        go_roundg (ps.length - (k + 1))
        case rel => exact ⟨k + 1, rfl, by go_num, by omega, unhide hn2, hR1, B1⟩
        case measure => have := hg.out; omega
      · have fin := hide ((unhide hhit) hz)
        rw [Nat.zero_add] at fin
        have hz' : (q == 0) = false := by simp [hz]
        have r0 := hR1.cell 0
        have r1 := hR1.cell 1
        have r2 := hR1.cell 2
        have z0 := hR1.frozen 0
        have z1 := hR1.frozen 1
        have z2 := hR1.frozen 2
        simp only [List.getElem?_cons_zero, List.getElem?_cons_succ] at r0 r1 r2
        clear hhit hnext hqq
        go_wp2_with fail
        refine bodyPost_ret (v := .agg #[.int .i64 q, .int .i64 k, .slice none 0 0]) (by simp [results, Tryz.results23, go_sem, r0, r1, r2]) rfl (ansR_of (unhide fin) (resNil _ _) (below3 B1 _ _ _))
    · have hke : k = ps.length := by omega
      have hv : ∀ j, j < ps.length → fault (ps.getD j []) = 0 := by rw [← hke]; exact hall.out
      have fin := hide ((unhide FF).trans (first_none ps 0 hv))
      have r0 := hR.cell 0
      have r1 := hR.cell 1
      have r2 := hR.cell 2
      have z0 := hR.frozen 0
      have z1 := hR.frozen 1
      have z2 := hR.frozen 2
      simp only [List.getElem?_cons_zero, List.getElem?_cons_succ] at r0 r1 r2
      clear hke hv hall
      go_wp2_with fail
      refine bodyPost_ret (v := .agg #[.int .i64 0, .int .i64 0, .slice none 0 0]) (by simp [results, Tryz.results23, go_sem, r0, r1, r2]) rfl (ansR_of (unhide fin) (resNil _ _) (below3 hbel _ _ _))

set_option maxRecDepth 100000 in
set_option maxHeartbeats 1000000 in
theorem specStream_any (g : Nat) (ps : List (List M.Cl)) (w : World) (hL : LR w g ps) (hn : ps.length ≤ 1048576) (hln : tot ps ps.length ≤ 1048576) (hok : OkS ps) :
    Calls Tryz.prog 32 #[.slice (some ⟨g, 0, none⟩) ps.length ps.length] w (AnsR w (faults ps)) := by
  have HL := hide hL
  have OK := hide hok
  have HN := hide hln
  clear hL hok hln
  have HB0 := hide (fun o => (show Below w.heap.size w (w.alloc o) from (Below.refl _ _).alloc (Nat.le_refl _) o))
  by_cases hm : ps.length < 1 ∨ 200 < ps.length
  · have fin := hide (faults_many hm)
    by_cases hm1 : ps.length < 1
    · have hmI : (ps.length : Int) < 1 := by omega
      clear hm HL
      go_enter Tryz.func32, Tryz.ntmps32
      go_wp2_with fail
      refine bodyPost_ret (v := .agg #[.int .i64 2, .int .i64 0, .slice none 0 0]) (by simp [results, Tryz.results32, go_sem]) rfl (ansR_of (unhide fin) (resNil _ _) ((unhide HB0) _))
    · have hmI : (200 : Int) < (ps.length : Int) := by omega
      clear hm HL
      go_enter Tryz.func32, Tryz.ntmps32
      go_wp2_with fail
      refine bodyPost_ret (v := .agg #[.int .i64 2, .int .i64 0, .slice none 0 0]) (by simp [results, Tryz.results32, go_sem]) rfl (ansR_of (unhide fin) (resNil _ _) ((unhide HB0) _))
  have FF := hide (faults_few hm)
  have hmI : (1 : Int) ≤ (ps.length : Int) := by omega
  have hmJ : (ps.length : Int) ≤ 200 := by omega
  clear hm
  go_enter Tryz.func32, Tryz.ntmps32
  go_wp2_with fail
  go_loopg [3] ps.length (fun gh s3 wr => ∃ k : Nat, Hid (gh = ps.length - k) ∧ s3 = .int .i64 k ∧ k ≤ ps.length ∧ Hid (∀ j, j < k → fault (ps.getD j []) = 0) ∧ Own wr w.heap.size 26 [.int .i64 0, .int .i64 0, .slice none 0 0] ∧ Below w.heap.size w wr)
  case atStart => exact ⟨0, rfl, rfl, by omega, fun j hj => absurd hj (by omega), ⟨_, heap_alloc_new _ _, rfl⟩, (unhide HB0) _⟩
  case round =>
    obtain ⟨k, hg, rfl, hk, hall, hR, hbel⟩ := hrel
    by_cases hlt : k < ps.length
    · obtain ⟨b, f0, hb, hr⟩ := ((unhide HL).below hbel).2 k hlt
      have hq := Nat.le_trans (len_le ps k hlt) (unhide HN)
      have hok := (unhide OK) k hlt
      have hhit := hide (fun hz => (unhide FF).trans (first_hit ps 0 k hlt hall.out hz))
      have hnext := hide (fun (h0 : fault (ps.getD k []) = 0) j (hj : j < k + 1) => show fault (ps.getD j []) = 0 by
        by_cases e : j = k
        · subst e; exact h0
        · exact hall.out j (by omega))
      have HE := hide (specEvent_any (ps.getD k []) b 0 (ps.getD k []).length wr hr hb hq (Nat.le_refl _) hok)
      have hltI : (k : Int) < (ps.length : Int) := by omega
      clear hok hr hall FF
      generalize ps.getD k [] = p at *
      go_wp2_with fail
      refine (unhide HE).mono ?_
      rintro e1 w1 ⟨rfl, hb1⟩
      have hR1 := hR.below hb1 hR.lt
      have B1 : Below w.heap.size w w1 := hbel.trans (hb1.mono hbel.size)
      clear f0 hb1 hR hbel HE
      generalize hqq : fault p = q at *
      by_cases hz : q = 0
      · subst hz
        have hn2 := hide ((unhide hnext) rfl)
        clear hhit hnext
        go_wp2_with fail
        go_roundg (ps.length - (k + 1))
        case rel => exact ⟨k + 1, rfl, by go_num, by omega, unhide hn2, hR1, B1⟩
        case measure => have := hg.out; omega
      · have fin := hide ((unhide hhit) hz)
        rw [Nat.zero_add] at fin
        have hz' : (q == 0) = false := by simp [hz]
        have r0 := hR1.cell 0
        have r1 := hR1.cell 1
        have r2 := hR1.cell 2
        have z0 := hR1.frozen 0
        have z1 := hR1.frozen 1
        have z2 := hR1.frozen 2
        simp only [List.getElem?_cons_zero, List.getElem?_cons_succ] at r0 r1 r2
        clear hhit hnext hqq
        go_wp2_with fail
        refine bodyPost_ret (v := .agg #[.int .i64 q, .int .i64 k, .slice none 0 0]) (by simp [results, Tryz.results32, go_sem, r0, r1, r2]) rfl (ansR_of (unhide fin) (resNil _ _) (below3 B1 _ _ _))
    · have hke : k = ps.length := by omega
      have hv : ∀ j, j < ps.length → fault (ps.getD j []) = 0 := by rw [← hke]; exact hall.out
      have fin := hide ((unhide FF).trans (first_none ps 0 hv))
      have r0 := hR.cell 0
      have r1 := hR.cell 1
      have r2 := hR.cell 2
      have z0 := hR.frozen 0
      have z1 := hR.frozen 1
      have z2 := hR.frozen 2
      simp only [List.getElem?_cons_zero, List.getElem?_cons_succ] at r0 r1 r2
      clear hke hv hall
      go_wp2_with fail
      refine bodyPost_ret (v := .agg #[.int .i64 0, .int .i64 0, .slice none 0 0]) (by simp [results, Tryz.results32, go_sem, r0, r1, r2]) rfl (ansR_of (unhide fin) (resNil _ _) (below3 hbel _ _ _))
end Sev
end Go.Proofs.YtcglddahphkcpaaGreatDoor
