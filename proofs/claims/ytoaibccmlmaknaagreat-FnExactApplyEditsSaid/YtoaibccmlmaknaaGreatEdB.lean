/-
  Faults of edits: plainly, and impl.editFault, spec.l14Edit, both EditsFaults over a list that lies anywhere.
  ApplyEdits: plainly, and both of them over edits that lie anywhere.
-/
import Derived.Test.YtoaibccmlmaknaaGreatRedT
import Derived.Test.YtoaibccmlmaknaaGreatPthF
import Derived.Test.YtoaibccmlmaknaaGreatPthO
import Derived.Test.YtoaibccmlmaknaaGreatPthN
namespace Go.Proofs.YtoaibccmlmaknaaGreat
open Go.RowKit
set_option linter.unusedVariables false
set_option linter.unusedSimpArgs false

theorem implFault_nil (a : Option Addr) (cap : Nat) (w : World) : Calls Tryz.prog 26 #[.slice a 0 cap] w fun e w' => e = .returned (.int .i64 2) ∧ Below w.heap.size w w' := by
  go_enter Tryz.func26, Tryz.ntmps26
  go_wp2_with fail
  go_ret
  exact ⟨rfl, Below.refl _ _⟩
theorem specFault_nil (a : Option Addr) (cap : Nat) (w : World) : Calls Tryz.prog 19 #[.slice a 0 cap] w fun e w' => e = .returned (.int .i64 2) ∧ Below w.heap.size w w' := by
  go_enter Tryz.func19, Tryz.ntmps19
  go_wp2_with fail
  go_ret
  exact ⟨rfl, Below.refl _ _⟩
theorem implPathFault_nil (a : Option Addr) (cap : Nat) (w : World) : Calls Tryz.prog 66 #[.slice a 0 cap] w fun e w' => e = .returned (.int .i64 2) ∧ Below w.heap.size w w' := by
  go_enter Tryz.func66, Tryz.ntmps66
  go_wp2_with fail
  refine (implFault_nil a cap _).mono ?_
  rintro e w1 ⟨rfl, hb1⟩
  go_wp2_with fail
  go_ret
  exact ⟨rfl, hb1⟩
theorem specPathFault_nil (a : Option Addr) (cap : Nat) (w : World) : Calls Tryz.prog 54 #[.slice a 0 cap] w fun e w' => e = .returned (.int .i64 2) ∧ Below w.heap.size w w' := by
  go_enter Tryz.func54, Tryz.ntmps54
  go_wp2_with fail
  refine (specFault_nil a cap _).mono ?_
  rintro e w1 ⟨rfl, hb1⟩
  go_wp2_with fail
  go_ret
  exact ⟨rfl, hb1⟩
theorem implFault_cells (a : Option Addr) (cap : Nat) (l : List M.Cl) (w : World) (h : Cells w a cap l) (hn : l.length ≤ 1048576) : Calls Tryz.prog 26 #[.slice a l.length cap] w fun e w' => e = .returned (.int .i64 (M.valueFault l)) ∧ Below w.heap.size w w' := by
  obtain ⟨h1, h2, h3, rfl | ⟨b, off, rfl, hb, hr⟩⟩ := h
  · exact implFault_nil a cap w
  · exact implFault_any l b off cap w hr hb hn h2 h3
theorem implPathFault_cells (a : Option Addr) (cap : Nat) (l : List M.Cl) (w : World) (h : Cells w a cap l) (hn : l.length ≤ 1048576) : Calls Tryz.prog 66 #[.slice a l.length cap] w fun e w' => e = .returned (.int .i64 (Pth.fault l)) ∧ Below w.heap.size w w' := by
  obtain ⟨h1, h2, h3, rfl | ⟨b, off, rfl, hb, hr⟩⟩ := h
  · exact implPathFault_nil a cap w
  · exact implPathFault_any l b off cap w hr hb hn h2 h1 h3
theorem specFault_cells (a : Option Addr) (cap : Nat) (l : List M.Cl) (w : World) (h : Cells w a cap l) (hn : l.length ≤ 1048576) : Calls Tryz.prog 19 #[.slice a l.length cap] w fun e w' => e = .returned (.int .i64 (M.valueFault l)) ∧ Below w.heap.size w w' := by
  obtain ⟨h1, h2, h3, rfl | ⟨b, off, rfl, hb, hr⟩⟩ := h
  · exact specFault_nil a cap w
  · exact specFault_any l b off cap w hr hb hn h2 h3
theorem specPathFault_cells (a : Option Addr) (cap : Nat) (l : List M.Cl) (w : World) (h : Cells w a cap l) (hn : l.length ≤ 1048576) : Calls Tryz.prog 54 #[.slice a l.length cap] w fun e w' => e = .returned (.int .i64 (Pth.fault l)) ∧ Below w.heap.size w w' := by
  obtain ⟨h1, h2, h3, rfl | ⟨b, off, rfl, hb, hr⟩⟩ := h
  · exact specPathFault_nil a cap w
  · exact specPathFault_any l b off cap w hr hb hn h2 h3

/-- A path's first cell tells how many steps it has. -/
theorem Pth.first_n {p : List M.Cl} (h : Pth.fault p = 0) : 1 ≤ p.length ∧ p.length ≤ 200 ∧ (p.getD 0 M.zero).n = (p.length : Int) - 1 := by
  obtain ⟨hv, hk, hs⟩ := Pth.fault_no h
  have hl := Pth.lens hv
  have hp := (Pth.places hv hs).1
  have hcd := Pth.cell_code hv (i := 0) (by omega)
  unfold M.arity at hp
  have hge : 0 ≤ (p.getD 0 M.zero).n := by
    unfold M.cellCode at hcd
    split at hcd
    · cases hcd
    split at hcd
    · cases hcd
    split at hcd
    · cases hcd
    rename_i h3
    omega
  exact ⟨hl.1, hl.2, by omega⟩

namespace Ed
/-- What EditsFault tells of an edit. -/
def fault (e : Ed) : Int := if e.op ≠ 1 ∧ e.op ≠ 2 then 1 else if Pth.fault e.path ≠ 0 then Pth.fault e.path else if e.op = 1 then M.valueFault e.x else if 0 < e.x.length ∨ e.path.length = 1 then 1 else 0
theorem fault_op {e : Ed} (h1 : e.op ≠ 1) (h2 : e.op ≠ 2) : fault e = 1 := if_pos ⟨h1, h2⟩
theorem fault_path {e : Ed} (h : e.op = 1 ∨ e.op = 2) (hp : Pth.fault e.path ≠ 0) : fault e = Pth.fault e.path := by unfold fault; rw [if_neg (by omega), if_pos hp]
theorem fault_set {e : Ed} (h : e.op = 1) (hp : Pth.fault e.path = 0) : fault e = M.valueFault e.x := by unfold fault; rw [if_neg (by omega), if_neg (by simp [hp]), if_pos h]
theorem fault_drop {e : Ed} (h : e.op = 2) (hp : Pth.fault e.path = 0) : fault e = if 0 < e.x.length ∨ e.path.length = 1 then 1 else 0 := by unfold fault; rw [if_neg (by omega), if_neg (by simp [hp]), if_neg (by omega)]
/-- The first fault of edits. -/
def firstF : List Ed → Int
  | [] => 0
  | e :: l => if fault e = 0 then firstF l else fault e
/-- What EditsFault tells. -/
def faults (l : List Ed) : Int := if 100 < l.length then 2 else firstF l
theorem first_hit : ∀ (l : List Ed) (k : Nat), k < l.length → (∀ j, j < k → fault (l.getD j zero) = 0) → fault (l.getD k zero) ≠ 0 → firstF l = fault (l.getD k zero) := by
  intro l
  induction l with
  | nil => intro k hk; simp at hk
  | cons e l ih =>
    intro k hk hall hne
    cases k with
    | zero => simp only [List.getD_cons_zero] at hne ⊢; rw [firstF, if_neg hne]
    | succ k =>
      have h0 := hall 0 (by omega)
      simp only [List.getD_cons_zero] at h0
      simp only [List.getD_cons_succ] at hne ⊢
      rw [firstF, if_pos h0]
      exact ih k (by simpa using hk) (fun j hj => by have := hall (j + 1) (by omega); simpa only [List.getD_cons_succ] using this) hne
theorem first_none : ∀ (l : List Ed), (∀ j, j < l.length → fault (l.getD j zero) = 0) → firstF l = 0 := by
  intro l
  induction l with
  | nil => intro _; rfl
  | cons e l ih =>
    intro hall
    have h0 := hall 0 (by simp)
    simp only [List.getD_cons_zero] at h0
    rw [firstF, if_pos h0]
    exact ih (fun j hj => by have := hall (j + 1) (by simpa using hj); simpa only [List.getD_cons_succ] using this)
theorem faults_many {l : List Ed} (h : 100 < l.length) : faults l = 2 := if_pos h
theorem faults_few {l : List Ed} (h : ¬ 100 < l.length) : faults l = firstF l := if_neg h
theorem faults_no {l : List Ed} (h : faults l = 0) : l.length ≤ 100 ∧ ∀ j, j < l.length → fault (l.getD j zero) = 0 := by
  unfold faults at h
  split at h
  · cases h
  rename_i hl
  refine ⟨by omega, ?_⟩
  clear hl
  induction l with
  | nil => intro j hj; simp at hj
  | cons e l ih =>
    rw [firstF] at h
    split at h
    · rename_i h0
      intro j hj
      cases j with
      | zero => simpa only [List.getD_cons_zero] using h0
      | succ j => simpa only [List.getD_cons_succ] using ih h j (by simpa using hj)
    · rename_i h0; exact absurd h h0

set_option maxRecDepth 100000 in
set_option maxHeartbeats 1000000 in
theorem implEdit_any (c : Ed) (va vb : Option Addr) (vc vd : Nat) (w : World) (hc : Cells w va vc c.path) (hd : Cells w vb vd c.x) (hn : c.small) :
    Calls Tryz.prog 48 #[.agg #[.int .i64 c.op, .slice va c.path.length vc, .slice vb c.x.length vd]] w fun e w' => e = .returned (.int .i64 (fault c)) ∧ Below w.heap.size w w' := by
  obtain ⟨W0, hW0⟩ : ∃ W0, W0 = w.alloc (.cells #[.int .i64 c.op, .slice va c.path.length vc, .slice vb c.x.length vd] 51) := ⟨_, rfl⟩
  have B0 : Below w.heap.size w W0 := by rw [hW0]; exact (Below.refl w.heap.size w).alloc (Nat.le_refl _) _
  have O0 : Own W0 w.heap.size 51 [.int .i64 c.op, .slice va c.path.length vc, .slice vb c.x.length vd] := by rw [hW0]; exact ⟨_, heap_alloc_new _ _, rfl⟩
  have q0 := O0.cell 0
  have q1 := O0.cell 1
  simp only [List.getElem?_cons_zero, List.getElem?_cons_succ] at q0 q1
  have HP := hide (implPathFault_cells va vc c.path W0 (hc.below B0) hn.1)
  have HX := hide (fun W (h : Below w.heap.size w W) => implFault_cells vb vd c.x W (hd.below h) hn.2)
  have HC := hide hc
  have hxl := hd.2.1
  have hxm := hd.1
  have HO := hide O0
  clear hc hd
  by_cases h1 : c.op = 1
  · have FP := hide (fault_path (e := c) (.inl h1))
    have FS := hide (fault_set (e := c) h1)
    rw [h1] at q0 hW0 HO ⊢
    clear h1
    go_enter Tryz.func48, Tryz.ntmps48
    go_upto_region 1 with fail
    rw [← hW0]
    clear hW0
    go_wp2_with fail
    refine (unhide HP).mono ?_
    rintro e w1 ⟨rfl, hb1⟩
    have B1 : Below w.heap.size w w1 := B0.trans (hb1.mono B0.size)
    have O1 := (unhide HO).below hb1 (unhide HO).lt
    clear HP q0 q1 hb1
    generalize hq : Pth.fault c.path = q at *
    by_cases hz : q = 0
    · subst hz
      have fin := hide ((unhide FS) rfl)
      have HV := hide ((unhide HX) w1 B1)
      have q0 := O1.cell 0
      have q2 := O1.cell 2
      simp only [List.getElem?_cons_zero, List.getElem?_cons_succ] at q0 q2
      clear FP FS hq HX O1 HO
      go_wp2_with fail
      refine (unhide HV).mono ?_
      rintro e w2 ⟨rfl, hb2⟩
      have B2 : Below w.heap.size w w2 := B1.trans (hb2.mono B1.size)
      clear HV hb2 q0 q2
      generalize M.valueFault c.x = r at *
      go_wp2_with fail
      go_ret
      exact ⟨ret_int (unhide fin).symm, B2⟩
    · have fin := hide ((unhide FP) hz)
      have hz' : (q == 0) = false := by simp [hz]
      clear FP FS hq HX O1 HO
      go_wp2_with fail
      go_ret
      exact ⟨ret_int (unhide fin).symm, B1⟩
  by_cases h2 : c.op = 2
  · have FP := hide (fault_path (e := c) (.inr h2))
    have FS := hide (fault_drop (e := c) h2)
    rw [h2] at q0 hW0 HO ⊢
    clear h1 h2
    go_enter Tryz.func48, Tryz.ntmps48
    go_upto_region 1 with fail
    rw [← hW0]
    clear hW0
    go_wp2_with fail
    refine (unhide HP).mono ?_
    rintro e w1 ⟨rfl, hb1⟩
    have B1 : Below w.heap.size w w1 := B0.trans (hb1.mono B0.size)
    have O1 := (unhide HO).below hb1 (unhide HO).lt
    clear HP q0 q1 hb1
    have HN := hide (fun h => Pth.first_n (p := c.path) h)
    generalize hq : Pth.fault c.path = q at *
    by_cases hz : q = 0
    · subst hz
      have q0 := O1.cell 0
      have q1 := O1.cell 1
      have q2 := O1.cell 2
      simp only [List.getElem?_cons_zero, List.getElem?_cons_succ] at q0 q1 q2
      have FS := hide ((unhide FS) rfl)
      have hp := (unhide HN) rfl
      have CC := (unhide HC).below B1
      clear FP hq HX O1 HO HN HC
      by_cases hx : 0 < c.x.length
      · have fin := hide (show fault c = 1 by rw [unhide FS, if_pos (.inl hx)])
        have hxI : (0 : Int) < (c.x.length : Int) := by omega
        clear FS hp CC
        go_wp2_with fail
        go_ret
        exact ⟨ret_int (unhide fin).symm, B1⟩
      obtain ⟨hp1, hp2, hp3⟩ := hp
      obtain ⟨cc1, cc2, cc3, cc4⟩ := CC
      have hx0 : c.x.length = 0 := by omega
      have FS := hide (show fault c = if c.path.length = 1 then 1 else 0 by rw [unhide FS]; by_cases e : c.path.length = 1 <;> simp [hx0, e])
      rw [hx0] at q2
      clear hx hx0 hxl hn
      obtain ⟨b, off, rfl, hb, hr⟩ : ∃ b off, va = some ⟨b, off, none⟩ ∧ b < w1.heap.size ∧ _root_.Go.Proofs.YtoaibccmlmaknaaGreat.Row w1 b off c.path := by
        rcases cc4 with e | e
        · rw [e] at hp1; simp at hp1
        · exact e
      have HS := hide (stepsOf_any c.path b off vc w1 hp1 cc1 cc2 hr)
      have hdl := List.length_drop (i := 1) (l := c.path)
      generalize c.path.drop 1 = cs at *
      have HDL := hide hdl
      have hcs : cs.length ≤ 200 := by omega
      clear hr cc3 cc4 hdl hp3
      by_cases e : cs.length = 0
      · have fin := hide (show fault c = 1 by rw [unhide FS, if_pos (by have := unhide HDL; omega)])
        rw [e] at HS
        clear FS HDL e
        go_wp2_with fail
        refine (unhide HS).mono ?_
        rintro e2 w2 ⟨o, rfl, rfl, hrr⟩
        go_wp2_with fail
        go_ret
        exact ⟨ret_int (unhide fin).symm, B1⟩
      · have fin := hide (show fault c = 0 by rw [unhide FS, if_neg (by have := unhide HDL; omega)])
        have e' : ((cs.length : Int) == 0) = false := by simp; intro h; exact e (by rw [h]; rfl)
        clear FS HDL e
        go_wp2_with fail
        refine (unhide HS).mono ?_
        rintro e2 w2 ⟨o, rfl, rfl, hrr⟩
        go_wp2_with fail
        go_ret
        exact ⟨ret_int (unhide fin).symm, B1⟩
    · have fin := hide ((unhide FP) hz)
      have hz' : (q == 0) = false := by simp [hz]
      clear FP FS hq HX O1 HO HN HC
      go_wp2_with fail
      go_ret
      exact ⟨ret_int (unhide fin).symm, B1⟩
  · have fin := hide (fault_op h1 h2)
    have e1 : (c.op == 1) = false := by simp [h1]
    have n1 : (c.op != 1) = true := by simp [h1]
    have e2 : (c.op == 2) = false := by simp [h2]
    have n2 : (c.op != 2) = true := by simp [h2]
    clear HP HX HO HC h1 h2
    go_enter Tryz.func48, Tryz.ntmps48
    go_upto_region 1 with fail
    rw [← hW0]
    clear hW0
    go_wp2_with fail
    go_ret
    exact ⟨ret_int (unhide fin).symm, B0⟩

set_option maxRecDepth 100000 in
set_option maxHeartbeats 1000000 in
theorem specEdit_any (c : Ed) (va vb : Option Addr) (vc vd : Nat) (w : World) (hc : Cells w va vc c.path) (hd : Cells w vb vd c.x) (hn : c.small) :
    Calls Tryz.prog 36 #[.agg #[.int .i64 c.op, .slice va c.path.length vc, .slice vb c.x.length vd]] w fun e w' => e = .returned (.int .i64 (fault c)) ∧ Below w.heap.size w w' := by
  obtain ⟨W0, hW0⟩ : ∃ W0, W0 = w.alloc (.cells #[.int .i64 c.op, .slice va c.path.length vc, .slice vb c.x.length vd] 51) := ⟨_, rfl⟩
  have B0 : Below w.heap.size w W0 := by rw [hW0]; exact (Below.refl w.heap.size w).alloc (Nat.le_refl _) _
  have O0 : Own W0 w.heap.size 51 [.int .i64 c.op, .slice va c.path.length vc, .slice vb c.x.length vd] := by rw [hW0]; exact ⟨_, heap_alloc_new _ _, rfl⟩
  have q0 := O0.cell 0
  have q1 := O0.cell 1
  simp only [List.getElem?_cons_zero, List.getElem?_cons_succ] at q0 q1
  have HP := hide (specPathFault_cells va vc c.path W0 (hc.below B0) hn.1)
  have HX := hide (fun W (h : Below w.heap.size w W) => specFault_cells vb vd c.x W (hd.below h) hn.2)
  have HC := hide hc
  have hxl := hd.2.1
  have hxm := hd.1
  have HO := hide O0
  clear hc hd
  by_cases h1 : c.op = 1
  · have FP := hide (fault_path (e := c) (.inl h1))
    have FS := hide (fault_set (e := c) h1)
    rw [h1] at q0 hW0 HO ⊢
    clear h1
    go_enter Tryz.func36, Tryz.ntmps36
    go_upto_region 1 with fail
    rw [← hW0]
    clear hW0
    go_wp2_with fail
    refine (unhide HP).mono ?_
    rintro e w1 ⟨rfl, hb1⟩
    have B1 : Below w.heap.size w w1 := B0.trans (hb1.mono B0.size)
    have O1 := (unhide HO).below hb1 (unhide HO).lt
    clear HP q0 q1 hb1
    generalize hq : Pth.fault c.path = q at *
    by_cases hz : q = 0
    · subst hz
      have fin := hide ((unhide FS) rfl)
      have HV := hide ((unhide HX) w1 B1)
      have q0 := O1.cell 0
      have q2 := O1.cell 2
      simp only [List.getElem?_cons_zero, List.getElem?_cons_succ] at q0 q2
      clear FP FS hq HX O1 HO
      go_wp2_with fail
      refine (unhide HV).mono ?_
      rintro e w2 ⟨rfl, hb2⟩
      have B2 : Below w.heap.size w w2 := B1.trans (hb2.mono B1.size)
      clear HV hb2 q0 q2
      generalize M.valueFault c.x = r at *
      go_wp2_with fail
      go_ret
      exact ⟨ret_int (unhide fin).symm, B2⟩
    · have fin := hide ((unhide FP) hz)
      have hz' : (q == 0) = false := by simp [hz]
      clear FP FS hq HX O1 HO
      go_wp2_with fail
      go_ret
      exact ⟨ret_int (unhide fin).symm, B1⟩
  by_cases h2 : c.op = 2
  · have FP := hide (fault_path (e := c) (.inr h2))
    have FS := hide (fault_drop (e := c) h2)
    rw [h2] at q0 hW0 HO ⊢
    clear h1 h2
    go_enter Tryz.func36, Tryz.ntmps36
    go_upto_region 1 with fail
    rw [← hW0]
    clear hW0
    go_wp2_with fail
    refine (unhide HP).mono ?_
    rintro e w1 ⟨rfl, hb1⟩
    have B1 : Below w.heap.size w w1 := B0.trans (hb1.mono B0.size)
    have O1 := (unhide HO).below hb1 (unhide HO).lt
    clear HP q0 q1 hb1
    have HN := hide (fun h => Pth.first_n (p := c.path) h)
    generalize hq : Pth.fault c.path = q at *
    by_cases hz : q = 0
    · subst hz
      have q0 := O1.cell 0
      have q1 := O1.cell 1
      have q2 := O1.cell 2
      simp only [List.getElem?_cons_zero, List.getElem?_cons_succ] at q0 q1 q2
      have FS := hide ((unhide FS) rfl)
      have hp := (unhide HN) rfl
      have CC := (unhide HC).below B1
      clear FP hq HX O1 HO HN HC
      by_cases hx : 0 < c.x.length
      · have fin := hide (show fault c = 1 by rw [unhide FS, if_pos (.inl hx)])
        have hxI : (0 : Int) < (c.x.length : Int) := by omega
        clear FS hp CC
        go_wp2_with fail
        go_ret
        exact ⟨ret_int (unhide fin).symm, B1⟩
      obtain ⟨hp1, hp2, hp3⟩ := hp
      obtain ⟨cc1, cc2, cc3, cc4⟩ := CC
      have hx0 : c.x.length = 0 := by omega
      have FS := hide (show fault c = if c.path.length = 1 then 1 else 0 by rw [unhide FS]; by_cases e : c.path.length = 1 <;> simp [hx0, e])
      rw [hx0] at q2
      clear hx hx0 hxl hn
      obtain ⟨b, off, rfl, hb, hr⟩ : ∃ b off, va = some ⟨b, off, none⟩ ∧ b < w1.heap.size ∧ _root_.Go.Proofs.YtoaibccmlmaknaaGreat.Row w1 b off c.path := by
        rcases cc4 with e | e
        · rw [e] at hp1; simp at hp1
        · exact e
      obtain ⟨f0, f1, f2, f3, f4⟩ := hr 0 (by omega)
      simp only [Nat.zero_mul, Nat.add_zero] at f0 f1 f2 f3 f4
      have hpI : (0 : Int) < (c.path.length : Int) := by omega
      rw [hp3] at f4
      clear hr cc3 cc4
      by_cases e : c.path.length = 1
      · have fin := hide (show fault c = 1 by rw [unhide FS, if_pos e])
        rw [e] at f4 q1
        clear FS hp3 e hpI hp1 hp2 cc2
        simp only [Int.natCast_one, Int.sub_self] at f4
        go_wp2_with fail
        go_ret
        exact ⟨ret_int (unhide fin).symm, B1⟩
      · have fin := hide (show fault c = 0 by rw [unhide FS, if_neg e])
        have e' : (((c.path.length : Int) - 1) == 0) = false := by simp; intro h; exact e (by omega)
        obtain ⟨N, hN⟩ : ∃ N : Int, N = (c.path.length : Int) - 1 := ⟨_, rfl⟩
        rw [← hN] at f4 e'
        clear FS hp3 e hN
        go_wp2_with fail
        go_ret
        exact ⟨ret_int (unhide fin).symm, B1⟩
    · have fin := hide ((unhide FP) hz)
      have hz' : (q == 0) = false := by simp [hz]
      clear FP FS hq HX O1 HO HN HC
      go_wp2_with fail
      go_ret
      exact ⟨ret_int (unhide fin).symm, B1⟩
  · have fin := hide (fault_op h1 h2)
    have e1 : (c.op == 1) = false := by simp [h1]
    have n1 : (c.op != 1) = true := by simp [h1]
    have e2 : (c.op == 2) = false := by simp [h2]
    have n2 : (c.op != 2) = true := by simp [h2]
    clear HP HX HO HC h1 h2
    go_enter Tryz.func36, Tryz.ntmps36
    go_upto_region 1 with fail
    rw [← hW0]
    clear hW0
    go_wp2_with fail
    go_ret
    exact ⟨ret_int (unhide fin).symm, B0⟩

set_option maxRecDepth 100000 in
set_option maxHeartbeats 1000000 in
theorem implEdits_any (a : Option Addr) (cap : Nat) (l : List Ed) (w : World) (h : Arg w a cap l) (hn : l.length ≤ 1048576) (hv : ∀ i, i < l.length → (l.getD i zero).small) :
    Calls Tryz.prog 27 #[.slice a l.length cap] w fun e w' => e = .returned (.int .i64 (faults l)) ∧ Below w.heap.size w w' := by
  have hcap := h.2.1
  have hcm := h.1
  have HA := hide h
  have HV := hide hv
  clear h hv
  by_cases hm : 100 < l.length
  · have fin := hide (faults_many hm)
    have hmI : (100 : Int) < (l.length : Int) := by omega
    go_enter Tryz.func27, Tryz.ntmps27
    go_wp2_with fail
    go_ret
    exact ⟨ret_int (unhide fin).symm, Below.refl _ _⟩
  have FF := hide (faults_few hm)
  have hmI : ¬ (100 : Int) < (l.length : Int) := by omega
  have hl : l.length ≤ 100 := by omega
  clear hm
  go_enter Tryz.func27, Tryz.ntmps27
  go_wp2_with fail
  go_loopg [11] l.length (fun g s11 wr => ∃ k : Nat, Hid (g = l.length - k) ∧ s11 = .int .i64 k ∧ k ≤ l.length ∧ Hid (∀ j, j < k → fault (l.getD j zero) = 0) ∧ Below w.heap.size w wr)
  case atStart => exact ⟨0, rfl, rfl, by omega, fun j hj => absurd hj (by omega), Below.refl _ _⟩
  case round =>
    obtain ⟨k, hg, rfl, hk, hall, hbel⟩ := hrel
    by_cases hlt : k < l.length
    · have hltI : (k : Int) < (l.length : Int) := by omega
      obtain ⟨_, _, _, h4⟩ := (unhide HA).below hbel
      obtain ⟨b, off, rfl, hb, hr⟩ : ∃ b off, a = some ⟨b, off, none⟩ ∧ b < wr.heap.size ∧ ∀ i, i < l.length → ArgAt wr b (off + i * 3) (l.getD i zero) := by
        rcases h4 with e | e
        · rw [e] at hlt; simp at hlt
        · exact e
      obtain ⟨f0, ⟨va, vc, f1, hc⟩, vb, vd, f2, hd⟩ := hr k hlt
      have hsm := (unhide HV) k hlt
      have YES := hide (fun (h : fault (l.getD k zero) = 0) => (show ∀ j, j < k + 1 → fault (l.getD j zero) = 0 from fun j hj => by
        by_cases e : j = k
        · rw [e]; exact h
        · exact hall.out j (by omega)))
      have NO := hide (fun (h : fault (l.getD k zero) ≠ 0) => (unhide FF).trans (first_hit l k hlt hall.out h))
      clear hr hall FF HA
      generalize l.getD k zero = n at *
      have HQ := hide (fun y => implEdit_any n va vb vc vd (wr.alloc y) (hc.below ((Below.refl _ _).alloc (Nat.le_refl _) y)) (hd.below ((Below.refl _ _).alloc (Nat.le_refl _) y)) hsm)
      have HB := hide (fun y => hbel.alloc hbel.size y)
      clear hc hd hsm
      go_wp2_with fail
      refine ((unhide HQ) _).mono ?_
      rintro e w1 ⟨rfl, hb1⟩
      have B1 : Below w.heap.size w w1 := ((unhide HB) _).trans (hb1.mono ((unhide HB) _).size)
      clear HQ HB hb1 f0 f1 f2
      generalize fault n = q at *
      by_cases hz : q = 0
      · have Y := hide ((unhide YES) hz)
        subst hz
        clear NO YES
        go_wp2_with fail
        go_roundg (l.length - (k + 1))
        case rel => exact ⟨k + 1, rfl, by go_num, by omega, unhide Y, B1⟩
        case measure => have := hg.out; omega
      · have fin := hide ((unhide NO) hz)
        have hz' : (q == 0) = false := by simp [hz]
        clear NO YES hz
        go_wp2_with fail
        go_ret
        exact ⟨ret_int (unhide fin).symm, B1⟩
    · have hke : k = l.length := by omega
      have fin := hide ((unhide FF).trans (first_none l (by rw [← hke]; exact hall.out)))
      clear hke hall FF HA
      go_wp2_with fail
      go_ret
      exact ⟨ret_int (unhide fin).symm, hbel⟩

set_option maxRecDepth 100000 in
set_option maxHeartbeats 1000000 in
theorem specEdits_any (a : Option Addr) (cap : Nat) (l : List Ed) (w : World) (h : Arg w a cap l) (hn : l.length ≤ 1048576) (hv : ∀ i, i < l.length → (l.getD i zero).small) :
    Calls Tryz.prog 20 #[.slice a l.length cap] w fun e w' => e = .returned (.int .i64 (faults l)) ∧ Below w.heap.size w w' := by
  have hcap := h.2.1
  have hcm := h.1
  have HA := hide h
  have HV := hide hv
  clear h hv
  by_cases hm : 100 < l.length
  · have fin := hide (faults_many hm)
    have hmI : (100 : Int) < (l.length : Int) := by omega
    go_enter Tryz.func20, Tryz.ntmps20
    go_wp2_with fail
    go_ret
    exact ⟨ret_int (unhide fin).symm, Below.refl _ _⟩
  have FF := hide (faults_few hm)
  have hmI : ¬ (100 : Int) < (l.length : Int) := by omega
  have hl : l.length ≤ 100 := by omega
  clear hm
  go_enter Tryz.func20, Tryz.ntmps20
  go_wp2_with fail
  go_loopg [3] l.length (fun g s3 wr => ∃ k : Nat, Hid (g = l.length - k) ∧ s3 = .int .i64 k ∧ k ≤ l.length ∧ Hid (∀ j, j < k → fault (l.getD j zero) = 0) ∧ Below w.heap.size w wr)
  case atStart => exact ⟨0, rfl, rfl, by omega, fun j hj => absurd hj (by omega), Below.refl _ _⟩
  case round =>
    obtain ⟨k, hg, rfl, hk, hall, hbel⟩ := hrel
    by_cases hlt : k < l.length
    · have hltI : (k : Int) < (l.length : Int) := by omega
      obtain ⟨_, _, _, h4⟩ := (unhide HA).below hbel
      obtain ⟨b, off, rfl, hb, hr⟩ : ∃ b off, a = some ⟨b, off, none⟩ ∧ b < wr.heap.size ∧ ∀ i, i < l.length → ArgAt wr b (off + i * 3) (l.getD i zero) := by
        rcases h4 with e | e
        · rw [e] at hlt; simp at hlt
        · exact e
      obtain ⟨f0, ⟨va, vc, f1, hc⟩, vb, vd, f2, hd⟩ := hr k hlt
      have hsm := (unhide HV) k hlt
      have YES := hide (fun (h : fault (l.getD k zero) = 0) => (show ∀ j, j < k + 1 → fault (l.getD j zero) = 0 from fun j hj => by
        by_cases e : j = k
        · rw [e]; exact h
        · exact hall.out j (by omega)))
      have NO := hide (fun (h : fault (l.getD k zero) ≠ 0) => (unhide FF).trans (first_hit l k hlt hall.out h))
      clear hr hall FF HA
      generalize l.getD k zero = n at *
      have HQ := hide (specEdit_any n va vb vc vd wr hc hd hsm)
      clear hc hd hsm
      go_wp2_with fail
      refine (unhide HQ).mono ?_
      rintro e w1 ⟨rfl, hb1⟩
      have B1 : Below w.heap.size w w1 := hbel.trans (hb1.mono hbel.size)
      clear HQ hb1 f0 f1 f2
      generalize fault n = q at *
      by_cases hz : q = 0
      · have Y := hide ((unhide YES) hz)
        subst hz
        clear NO YES
        go_wp2_with fail
        go_roundg (l.length - (k + 1))
        case rel => exact ⟨k + 1, rfl, by go_num, by omega, unhide Y, B1⟩
        case measure => have := hg.out; omega
      · have fin := hide ((unhide NO) hz)
        have hz' : (q == 0) = false := by simp [hz]
        clear NO YES hz
        go_wp2_with fail
        go_ret
        exact ⟨ret_int (unhide fin).symm, B1⟩
    · have hke : k = l.length := by omega
      have fin := hide ((unhide FF).trans (first_none l (by rw [← hke]; exact hall.out)))
      clear hke hall FF HA
      go_wp2_with fail
      go_ret
      exact ⟨ret_int (unhide fin).symm, hbel⟩

theorem Row.arg {w : World} {b : Nat} {l : List Ed} (h : Row w b l) (hb : b < w.heap.size) (hn : l.length ≤ 1048576) (hok : ∀ e ∈ l, e.ok) (hv : ∀ i, i < l.length → (l.getD i zero).small) : Arg w (some ⟨b, 0, none⟩) l.length l := by
  refine ⟨by omega, Nat.le_refl _, hok, .inr ⟨b, 0, rfl, hb, fun i hi => ?_⟩⟩
  obtain ⟨f0, ⟨g, f1, hg, hr⟩, k, f2, hk, hs⟩ := h i hi
  have ho : (l.getD i zero).ok := hok _ (by rw [List.getD_eq_getElem?_getD, List.getElem?_eq_getElem hi]; exact List.getElem_mem _)
  have hs2 := hv i hi
  rw [Nat.zero_add]
  exact ⟨f0, ⟨_, _, f1, by have := hs2.1; omega, Nat.le_refl _, ho.2.1, .inr ⟨g, 0, rfl, hg, hr⟩⟩, _, _, f2, by have := hs2.2; omega, Nat.le_refl _, ho.2.2, .inr ⟨k, 0, rfl, hk, hs⟩⟩
end Ed
end Go.Proofs.YtoaibccmlmaknaaGreat

namespace Go.Proofs.YtoaibccmlmaknaaGreat
open Go.RowKit
set_option linter.unusedVariables false
set_option linter.unusedSimpArgs false

namespace Ed
/-- What an edit without fault makes of a value. -/
def step (v : List M.Cl) (e : Ed) : Int × List M.Cl := if e.op = 1 then Pth.setS v (e.path.drop 1) e.x else Pth.dropS v (e.path.drop 1)
/-- What edits make of a value, the first of them at place k. -/
def go : Nat → List M.Cl → List Ed → Int × Int × List M.Cl
  | _, u, [] => (0, 0, u)
  | k, u, e :: l => if (step u e).1 = 0 then go (k + 1) (step u e).2 l else ((step u e).1, k, [])
/-- What ApplyEdits tells. -/
def applyOut (v : List M.Cl) (l : List Ed) : Int × Int × List M.Cl := if M.valueFault v ≠ 0 then (M.valueFault v, 0, []) else if faults l ≠ 0 then (faults l, 0, []) else go 0 v l
theorem apply_v {v : List M.Cl} {l : List Ed} (h : M.valueFault v ≠ 0) : applyOut v l = (M.valueFault v, 0, []) := if_pos h
theorem apply_l {v : List M.Cl} {l : List Ed} (h : M.valueFault v = 0) (hl : faults l ≠ 0) : applyOut v l = (faults l, 0, []) := by unfold applyOut; rw [if_neg (by simp [h]), if_pos hl]
theorem apply_ok {v : List M.Cl} {l : List Ed} (h : M.valueFault v = 0) (hl : faults l = 0) : applyOut v l = go 0 v (l.drop 0) := by unfold applyOut; rw [if_neg (by simp [h]), if_neg (by simp [hl])]; rfl
theorem drop_at {l : List Ed} {k : Nat} (h : k < l.length) : l.drop k = l.getD k zero :: l.drop (k + 1) := by
  rw [List.getD_eq_getElem?_getD, List.getElem?_eq_getElem h]
  exact List.drop_eq_getElem_cons h
theorem go_hit {l : List Ed} {k : Nat} {u : List M.Cl} (hk : k < l.length) (h : (step u (l.getD k zero)).1 ≠ 0) : go k u (l.drop k) = ((step u (l.getD k zero)).1, (k : Int), []) := by rw [drop_at hk, go, if_neg h]
theorem go_next {l : List Ed} {k : Nat} {u : List M.Cl} (hk : k < l.length) (h : (step u (l.getD k zero)).1 = 0) : go k u (l.drop k) = go (k + 1) (step u (l.getD k zero)).2 (l.drop (k + 1)) := by rw [drop_at hk, go, if_pos h]
theorem go_end {l : List Ed} {k : Nat} {u : List M.Cl} (hk : k = l.length) : go k u (l.drop k) = (0, 0, u) := by rw [hk, List.drop_length, go]
theorem fault_ok {e : Ed} (h : fault e = 0) : Pth.fault e.path = 0 ∧ ((e.op = 1 ∧ M.valueFault e.x = 0) ∨ e.op = 2) := by
  unfold fault at h
  split at h
  · cases h
  rename_i h1
  split at h
  · rename_i h2; exact absurd h h2
  rename_i h2
  refine ⟨by omega, ?_⟩
  split at h
  · rename_i h3; exact .inl ⟨h3, h⟩
  · exact .inr (by omega)
theorem step_set {v : List M.Cl} {e : Ed} (h : e.op = 1) : step v e = Pth.setS v (e.path.drop 1) e.x := if_pos h
theorem step_drop {v : List M.Cl} {e : Ed} (h : e.op = 2) : step v e = Pth.dropS v (e.path.drop 1) := if_neg (by omega)
theorem step_gd {v : List M.Cl} {e : Ed} (hv : M.valueFault v = 0) (hf : fault e = 0) : Pth.Gd (step v e) := by
  obtain ⟨hp, ⟨h1, hx⟩ | h2⟩ := fault_ok hf
  · rw [step_set h1]; exact Pth.setS_gd hv hx _
  · rw [step_drop h2]; exact Pth.dropS_gd hv _
/-- An answer of a code, a place and cells. -/
def AnsR (w : World) (out : Int × Int × List M.Cl) (e : Ending) (w' : World) : Prop := ∃ s, e = .returned (.agg #[.int .i64 out.1, .int .i64 out.2.1, s]) ∧ Res w' w.heap.size s out.2.2 ∧ Below w.heap.size w w'
theorem ansR_of {w w' : World} {out : Int × Int × List M.Cl} {c a : Int} {s : Value} {l : List M.Cl} (fin : out = (c, a, l)) (hr : Res w' w.heap.size s l) (hb : Below w.heap.size w w') : AnsR w out (.returned (.agg #[.int .i64 c, .int .i64 a, s])) w' := by
  subst fin; exact ⟨s, rfl, hr, hb⟩
theorem ret3 {w W : World} {s : Value} {l : List M.Cl} (hr : Res W (w.heap.size + 1) s l) (B : Below w.heap.size w W) (x y z : Value) :
    Res (((W.setCell ⟨w.heap.size, 0, none⟩ x).setCell ⟨w.heap.size, 1, none⟩ y).setCell ⟨w.heap.size, 2, none⟩ z) w.heap.size s l ∧ Below w.heap.size w (((W.setCell ⟨w.heap.size, 0, none⟩ x).setCell ⟨w.heap.size, 1, none⟩ y).setCell ⟨w.heap.size, 2, none⟩ z) := by
  have hne : ∀ b, s.ownBlock = some b → b ≠ w.heap.size := fun b h => by have := hr.base b h; omega
  exact ⟨(((hr.mono (by omega)).setOther _ _ hne).setOther _ _ hne).setOther _ _ hne, ((B.setCell (Nat.le_refl _) _).setCell (Nat.le_refl _) _).setCell (Nat.le_refl _) _⟩
theorem store3 {w W : World} (B : Below w.heap.size w W) (x y z : Value) : Below w.heap.size w (((W.setCell ⟨w.heap.size, 0, none⟩ x).setCell ⟨w.heap.size, 1, none⟩ y).setCell ⟨w.heap.size, 2, none⟩ z) :=
  ((B.setCell (Nat.le_refl _) _).setCell (Nat.le_refl _) _).setCell (Nat.le_refl _) _
theorem row_of {w : World} {a : Option Addr} {cap : Nat} {l : List M.Cl} (h : Cells w a cap l) (hl : 1 ≤ l.length) : ∃ b off, a = some ⟨b, off, none⟩ ∧ b < w.heap.size ∧ _root_.Go.Proofs.YtoaibccmlmaknaaGreat.Row w b off l := by
  rcases h.2.2.2 with e | e
  · rw [e] at hl; simp at hl
  · exact e

set_option maxRecDepth 100000 in
set_option maxHeartbeats 1000000 in
theorem editedBy_any (v : List M.Cl) (b off cap : Nat) (c : Ed) (va vb : Option Addr) (vc vd : Nat) (w : World) (hv : M.valueFault v = 0) (hrow : _root_.Go.Proofs.YtoaibccmlmaknaaGreat.Row w b off v) (hb : b < w.heap.size) (hcap : v.length ≤ cap) (hc : Cells w va vc c.path) (hd : Cells w vb vd c.x) (hf : fault c = 0) :
    Calls Tryz.prog 29 #[.slice (some ⟨b, off, none⟩) v.length cap, .agg #[.int .i64 c.op, .slice va c.path.length vc, .slice vb c.x.length vd]] w (Ans w (step v c)) := by
  obtain ⟨hp, hkd⟩ := fault_ok hf
  have hvl := (Pth.lens hv).2
  have hpl := Pth.lens (Pth.fault_no hp).1
  obtain ⟨b1, o1, rfl, hb1, hr1⟩ := row_of hc hpl.1
  obtain ⟨W1, hW1⟩ : ∃ W1, W1 = (w.alloc (.cells #[.int .i64 c.op, .slice (some ⟨b1, o1, none⟩) c.path.length vc, .slice vb c.x.length vd] 51)).alloc (.cells #[.int .i64 0, .slice none 0 0] 49) := ⟨_, rfl⟩
  have B1 : Below w.heap.size w W1 := by rw [hW1]; exact ((Below.refl _ _).alloc (Nat.le_refl _) _).alloc (by simp) _
  have R1 : Own W1 (w.heap.size + 1) 49 [.int .i64 0, .slice none 0 0] := by rw [hW1]; exact ⟨_, by have := heap_alloc_new (w.alloc (.cells #[.int .i64 c.op, .slice (some ⟨b1, o1, none⟩) c.path.length vc, .slice vb c.x.length vd] 51)) (.cells #[.int .i64 0, .slice none 0 0] 49); rwa [World.size_alloc] at this, rfl⟩
  have O1 : Own W1 w.heap.size 51 [.int .i64 c.op, .slice (some ⟨b1, o1, none⟩) c.path.length vc, .slice vb c.x.length vd] := by rw [hW1]; exact Own.alloc ⟨_, heap_alloc_new _ _, rfl⟩ _
  have q0 := O1.cell 0
  have q1 := O1.cell 1
  have q2 := O1.cell 2
  simp only [List.getElem?_cons_zero, List.getElem?_cons_succ] at q0 q1 q2
  have HR1 := hide R1
  have p0 := R1.cell 0
  have p1 := R1.cell 1
  simp only [List.getElem?_cons_zero, List.getElem?_cons_succ] at p0 p1
  have y0 := R1.frozen 0
  have y1 := R1.frozen 1
  have HS := hide (fun (h1 : c.op = 1) (bx ox : Nat) (hx : M.valueFault c.x = 0) (hbx : bx < w.heap.size) (hrx : _root_.Go.Proofs.YtoaibccmlmaknaaGreat.Row w bx ox c.x) => implSetPath_any v b off cap c.path b1 o1 vc c.x bx ox vd W1 (hrow.below B1 hb) (Nat.lt_of_lt_of_le hb B1.size) (by omega) hcap (Pth.oks hv) (hr1.below B1 hb1) (Nat.lt_of_lt_of_le hb1 B1.size) (by omega) hc.2.1 hc.1 hc.2.2.1 (hrx.below B1 hbx) (Nat.lt_of_lt_of_le hbx B1.size) (by have := (Pth.lens hx).2; omega) hd.2.1 hd.2.2.1)
  have HDP := hide (implDropPath_any v b off cap c.path b1 o1 vc W1 (hrow.below B1 hb) (Nat.lt_of_lt_of_le hb B1.size) (by omega) hcap (Pth.oks hv) (hr1.below B1 hb1) (Nat.lt_of_lt_of_le hb1 B1.size) (by omega) hc.2.1 hc.1 hc.2.2.1)
  have has : Pth.asked v c.path = 0 := (Pth.asked_ok hv).trans hp
  rw [Pth.dropP_ok has] at HDP
  have HSP := hide (fun hx => Pth.setP_ok (x := c.x) has hx)
  have HD := hide hd
  clear hc hd hr1 hrow hv O1 R1 has hf
  rcases hkd with ⟨h1, hx⟩ | h2
  · obtain ⟨bx, ox, e, hbx, hrx⟩ := row_of (unhide HD) (Pth.lens hx).1
    subst e
    have E := hide (step_set (v := v) h1)
    have HC := (unhide HS) h1 bx ox hx hbx hrx
    rw [(unhide HSP) hx] at HC
    have HC := hide HC
    rw [h1] at q0 hW1 ⊢
    clear HS HDP HSP HD hrx hx h1
    generalize Pth.setS v (c.path.drop 1) c.x = R at *
    obtain ⟨rc, rl⟩ := R
    go_enter Tryz.func29, Tryz.ntmps29
    go_upto_region 1 with fail
    rw [← hW1]
    clear hW1
    go_wp2_with fail
    refine (unhide HC).mono ?_
    rintro e2 w2 ⟨s2, rfl, hr2, hb2⟩
    have R2 := (unhide HR1).below hb2 (unhide HR1).lt
    have F := hide (Pth.ret1 (hr2.mono (unhide HR1).lt) (B1.trans (hb2.mono B1.size)))
    obtain ⟨a2, n2, c2, rfl⟩ := hr2.shape
    clear p0 p1 y0 y1 q0 q1 q2 hr2 hb2 HC
    have p0 := R2.cell 0
    have p1 := R2.cell 1
    simp only [List.getElem?_cons_zero, List.getElem?_cons_succ] at p0 p1
    have y0 := R2.frozen 0
    have y1 := R2.frozen 1
    go_wp2_with fail
    refine bodyPost_ret (v := .agg #[.int .i64 rc, .slice a2 n2 c2]) (by simp [results, Tryz.results29, go_sem, p0, p1]) rfl (ans_of (unhide E) ((unhide F) _ _).1 ((unhide F) _ _).2)
  · have E := hide (step_drop (v := v) h2)
    have HC := HDP
    rw [h2] at q0 hW1 ⊢
    clear HS HDP HSP HD h2
    generalize Pth.dropS v (c.path.drop 1) = R at *
    obtain ⟨rc, rl⟩ := R
    go_enter Tryz.func29, Tryz.ntmps29
    go_upto_region 1 with fail
    rw [← hW1]
    clear hW1
    go_wp2_with fail
    refine (unhide HC).mono ?_
    rintro e2 w2 ⟨s2, rfl, hr2, hb2⟩
    have R2 := (unhide HR1).below hb2 (unhide HR1).lt
    have F := hide (Pth.ret1 (hr2.mono (unhide HR1).lt) (B1.trans (hb2.mono B1.size)))
    obtain ⟨a2, n2, c2, rfl⟩ := hr2.shape
    clear p0 p1 y0 y1 q0 q1 q2 hr2 hb2 HC
    have p0 := R2.cell 0
    have p1 := R2.cell 1
    simp only [List.getElem?_cons_zero, List.getElem?_cons_succ] at p0 p1
    have y0 := R2.frozen 0
    have y1 := R2.frozen 1
    go_wp2_with fail
    refine bodyPost_ret (v := .agg #[.int .i64 rc, .slice a2 n2 c2]) (by simp [results, Tryz.results29, go_sem, p0, p1]) rfl (ans_of (unhide E) ((unhide F) _ _).1 ((unhide F) _ _).2)

set_option maxRecDepth 100000 in
set_option maxHeartbeats 2000000 in
theorem implApplyEdits_any (v : List M.Cl) (b off cap : Nat) (a : Option Addr) (cap' : Nat) (l : List Ed) (w : World) (hrow : _root_.Go.Proofs.YtoaibccmlmaknaaGreat.Row w b off v) (hb : b < w.heap.size) (hn : v.length ≤ 1048576) (hcap : v.length ≤ cap) (hok : ∀ c ∈ v, c.ok) (hA : Arg w a cap' l) (hn' : l.length ≤ 1048576) (hsm : ∀ i, i < l.length → (l.getD i zero).small) :
    Calls Tryz.prog 9 #[.slice (some ⟨b, off, none⟩) v.length cap, .slice a l.length cap'] w (AnsR w (applyOut v l)) := by
  have B0 : ∀ y, Below w.heap.size w (w.alloc y) := fun y => (Below.refl _ _).alloc (Nat.le_refl _) y
  have HV := hide (fun y => implFault_any v b off cap (w.alloc y) (hrow.below (B0 y) hb) (by simp; omega) hn hcap hok)
  have HE := hide (fun W (h : Below w.heap.size w W) => implEdits_any a cap' l W (hA.below h) hn' hsm)
  have HRW := hide (fun W (h : Below w.heap.size w W) => hrow.below h hb)
  have HA := hide hA
  have hcm := hA.1
  have hcl := hA.2.1
  have HB0 := hide B0
  clear B0 hok hrow hA hsm
  go_enter Tryz.func9, Tryz.ntmps9
  go_wp2_with fail
  refine ((unhide HV) _).mono ?_
  rintro e1 w1 ⟨rfl, hb1⟩
  have hR : Own w1 w.heap.size 28 [.int .i64 0, .int .i64 0, .slice none 0 0] := Own.below ⟨_, heap_alloc_new _ _, rfl⟩ hb1 (by simp)
  have B1 : Below w.heap.size w w1 := ((unhide HB0) _).trans (hb1.mono (by simp))
  clear hb1 HV HB0
  generalize hq : M.valueFault v = q
  by_cases hz : q = 0
  case neg =>
    have fin := hide ((apply_v (l := l) (by rw [hq]; exact hz)).trans (by rw [hq]))
    have hz' : (q == 0) = false := by simp [hz]
    clear hq HE HRW HA
    have r0 := hR.cell 0
    have r1 := hR.cell 1
    have r2 := hR.cell 2
    simp only [List.getElem?_cons_zero, List.getElem?_cons_succ] at r0 r1 r2
    have z0 := hR.frozen 0
    have z1 := hR.frozen 1
    have z2 := hR.frozen 2
    go_wp2_with fail
    refine bodyPost_ret (v := .agg #[.int .i64 q, .int .i64 0, .slice none 0 0]) (by simp [results, Tryz.results9, go_sem, r0, r1, r2]) rfl (Ed.ansR_of (unhide fin) (resNil _ _) (store3 B1 _ _ _))
  subst hz
  go_wp2_with fail
  refine ((unhide HE) _ B1).mono ?_
  rintro e2 w2 ⟨rfl, hb2⟩
  have B2 : Below w.heap.size w w2 := B1.trans (hb2.mono B1.size)
  have hR2 := hR.below hb2 hR.lt
  clear hb2 HE B1 hR
  generalize hqf : faults l = qf
  by_cases hzf : qf = 0
  case neg =>
    have fin := hide ((apply_l hq (by rw [hqf]; exact hzf)).trans (by rw [hqf]))
    have hz' : (qf == 0) = false := by simp [hzf]
    clear hq hqf HRW HA
    have r0 := hR2.cell 0
    have r1 := hR2.cell 1
    have r2 := hR2.cell 2
    simp only [List.getElem?_cons_zero, List.getElem?_cons_succ] at r0 r1 r2
    have z0 := hR2.frozen 0
    have z1 := hR2.frozen 1
    have z2 := hR2.frozen 2
    go_wp2_with fail
    refine bodyPost_ret (v := .agg #[.int .i64 qf, .int .i64 0, .slice none 0 0]) (by simp [results, Tryz.results9, go_sem, r0, r1, r2]) rfl (Ed.ansR_of (unhide fin) (resNil _ _) (store3 B2 _ _ _))
  subst hzf
  have HG := hide (apply_ok hq hqf)
  have HF := hide (faults_no hqf).2
  have HQ := hide hq
  have hvl := (Pth.lens hq).2
  have hrow2 := (unhide HRW) w2 B2
  have hb2' : b < w2.heap.size := Nat.lt_of_lt_of_le hb B2.size
  have HR2 := hide hR2
  clear hq hqf hn HRW
  have HCL := hide (clone_any v b off cap w2 hrow2 hb2' (by omega))
  clear hrow2 hR2
  go_wp2_with fail
  refine (unhide HCL).mono ?_
  rintro e3 w3 ⟨s3, rfl, hr3, hb3⟩
  have B3 : Below w.heap.size w w3 := B2.trans (hb3.mono B2.size)
  have V3 : Hid (Res w3 (w.heap.size + 1) s3 v) := hide (hr3.mono (unhide HR2).lt)
  have R3 := hide ((unhide HR2).below hb3 (unhide HR2).lt)
  have hwl : Hid (w.heap.size + 1 ≤ w2.heap.size) := hide (unhide HR2).lt
  clear hr3 hb3 B2 HR2 HCL
  go_wp2_with fail
  go_loopg [7, 27] l.length (fun g s7 s27 wr => ∃ (k : Nat) (u : List M.Cl), Hid (g = l.length - k) ∧ s27 = .int .i64 k ∧ k ≤ l.length ∧ Hid (Res wr (w.heap.size + 1) s7 u) ∧ Hid (M.valueFault u = 0) ∧ Hid (applyOut v l = go k u (l.drop k)) ∧ Hid (Own wr w.heap.size 28 [.int .i64 0, .int .i64 0, .slice none 0 0]) ∧ Below w.heap.size w wr)
  case atStart => exact ⟨0, v, rfl, rfl, by omega, unhide V3, unhide HQ, unhide HG, unhide R3, B3⟩
  case round =>
    clear V3 HQ HG R3 B3
    obtain ⟨k, u, hg, rfl, hk, hU, hu, hgo, hOw, hbel⟩ := hrel
    obtain ⟨b3, c3, hsh, hc3, hl3, hlt3, hrw3⟩ := hU.out.rowedQ (Pth.val_ne hu.out)
    subst hsh
    have hul := Pth.lens hu.out
    by_cases hlt : k < l.length
    · have hltI : (k : Int) < (l.length : Int) := by omega
      obtain ⟨_, _, _, h4⟩ := (unhide HA).below hbel
      obtain ⟨lb, lo, rfl, hlb, hr⟩ : ∃ b off, a = some ⟨b, off, none⟩ ∧ b < wr.heap.size ∧ ∀ i, i < l.length → ArgAt wr b (off + i * 3) (l.getD i zero) := by
        rcases h4 with e | e
        · rw [e] at hlt; simp at hlt
        · exact e
      obtain ⟨f0, ⟨va, vc, f1, hc⟩, vb, vd, f2, hd⟩ := hr k hlt
      have hft := (unhide HF) k hlt
      have GD := hide (step_gd hu.out hft)
      have HIT := hide (fun (h : (step u (l.getD k zero)).1 ≠ 0) => hgo.out.trans (go_hit hlt h))
      have NEXT := hide (fun (h : (step u (l.getD k zero)).1 = 0) => hgo.out.trans (go_next hlt h))
      have HLT := hide hlt
      clear hr hgo HA hU HF
      generalize l.getD k zero = n at *
      have BA : ∀ y, Below wr.heap.size wr (wr.alloc y) := fun y => (Below.refl _ _).alloc (Nat.le_refl _) y
      have HC := hide (fun y => editedBy_any u b3 0 c3 n va vb vc vd (wr.alloc y) hu.out (hrw3.below (BA y) hlt3) (by simp; omega) hc3 (hc.below (BA y)) (hd.below (BA y)) hft)
      have HBA := hide BA
      have HOA := hide (fun y => hOw.out.alloc y)
      clear BA hc hd hft hrw3 hOw hu
      generalize step u n = R at *
      obtain ⟨rc, rl⟩ := R
      go_wp2_with fail
      refine ((unhide HC) _).mono ?_
      rintro e1 w1 ⟨s1, rfl, hr1, hb1⟩
      have B1 : Below w.heap.size w w1 := hbel.trans (((unhide HBA) _).trans (hb1.mono (by simp)) |>.mono hbel.size)
      have O1 := ((unhide HOA) _).below hb1 ((unhide HOA) _).lt
      have hw0 : w.heap.size + 1 ≤ wr.heap.size := by have := ((unhide HOA) (.cells #[] 0)).lt; have := hl3; omega
      have hr1' : Res w1 (w.heap.size + 1) s1 rl := hr1.mono (by simp; omega)
      obtain ⟨a1, n1, c1, rfl⟩ := hr1'.shape
      obtain ⟨W2, hW2⟩ : ∃ W2, W2 = w1.alloc (.cells #[.int .i64 rc, .slice a1 n1 c1] 49) := ⟨_, rfl⟩
      have E2 : Own W2 w1.heap.size 49 [.int .i64 rc, .slice a1 n1 c1] := by rw [hW2]; exact ⟨_, heap_alloc_new _ _, rfl⟩
      have R2 : Own W2 w.heap.size 28 [.int .i64 0, .int .i64 0, .slice none 0 0] := by rw [hW2]; exact O1.alloc _
      have V2 : Hid (Res W2 (w.heap.size + 1) (.slice a1 n1 c1) rl) := hide (by rw [hW2]; exact hr1'.alloc _)
      have B2 : Below w.heap.size w W2 := by rw [hW2]; exact B1.alloc B1.size _
      clear hr1 hr1' hb1 HC HBA HOA O1 B1 f0 f1 f2 hbel
      generalize hg1 : w1.heap.size = g1 at *
      have u0 := E2.cell 0
      have u1 := E2.cell 1
      simp only [List.getElem?_cons_zero, List.getElem?_cons_succ] at u0 u1

      go_upto_region 12 with fail
      rw [← hW2]
      clear hW2 hg1
      have R2h := hide R2
      by_cases hzr : rc = 0
      · subst hzr
        have NX := hide ((unhide NEXT) rfl)
        have VU := hide ((unhide GD).ok rfl)
        clear NEXT HIT GD R2
        go_wp2_with fail
        go_roundg (l.length - (k + 1))
        case rel => exact ⟨k + 1, rl, rfl, by go_num, by have := unhide HLT; omega, unhide V2, unhide VU, unhide NX, unhide R2h, B2⟩
        case measure => have := hg.out; have := unhide HLT; omega
      · have fin := hide ((unhide HIT) hzr)
        have hz' : (rc == 0) = false := by simp [hzr]
        clear NEXT HIT GD V2 hzr
        have r0 := R2.cell 0
        have r1 := R2.cell 1
        have r2 := R2.cell 2
        simp only [List.getElem?_cons_zero, List.getElem?_cons_succ] at r0 r1 r2
        have z0 := R2.frozen 0
        have z1 := R2.frozen 1
        have z2 := R2.frozen 2
        go_wp2_with fail
        refine bodyPost_ret (v := .agg #[.int .i64 rc, .int .i64 k, .slice none 0 0]) (by simp [results, Tryz.results9, go_sem, r0, r1, r2]) rfl (Ed.ansR_of (unhide fin) (resNil _ _) (store3 B2 _ _ _))
    · have hke : k = l.length := by omega
      have fin := hide (hgo.out.trans (go_end (u := u) hke))
      have hOw := hOw.out
      have F := hide (ret3 hU.out hbel)
      have r0 := hOw.cell 0
      have r1 := hOw.cell 1
      have r2 := hOw.cell 2
      simp only [List.getElem?_cons_zero, List.getElem?_cons_succ] at r0 r1 r2
      have z0 := hOw.frozen 0
      have z1 := hOw.frozen 1
      have z2 := hOw.frozen 2
      clear hU hgo hke HA HF hOw hu hrw3
      go_wp2_with fail
      refine bodyPost_ret (v := .agg #[.int .i64 0, .int .i64 0, .slice (some ⟨b3, 0, none⟩) u.length c3]) (by simp [results, Tryz.results9, go_sem, r0, r1, r2]) rfl (Ed.ansR_of (unhide fin) ((unhide F) _ _ _).1 ((unhide F) _ _ _).2)

/-- The steps of a path, as parts. -/
theorem pathParts_any (p : List M.Cl) (hp : Pth.fault p = 0) (va : Option Addr) (vc : Nat) (w : World) (hc : Cells w va vc p) :
    Calls Tryz.prog 22 #[.slice va p.length vc] w fun e w' => ∃ a c, e = .returned (.slice a (p.drop 1).length c) ∧ (p.drop 1).length ≤ c ∧ c ≤ 9223372036854775807 ∧ Pth.PL w' a (p.drop 1) ∧ Below w.heap.size w w' := by
  have hpv := (Pth.fault_no hp).1
  obtain ⟨b, o, rfl, hb, hr⟩ := row_of hc (Pth.lens hpv).1
  have hst := Pth.steps hp
  refine (l1Parts_any p b o vc w hpv hr hb hc.2.1 hc.2.2.1).mono ?_
  rintro e w1 ⟨s, rfl, hss, hb1⟩
  have hcm : ∀ a n c, s = .slice a n c → c ≤ 9223372036854775807 := by
    intro a n c e
    subst e
    obtain ⟨ss, _, ⟨_, h2 | ⟨g, c2, cur, h3, _, _, _, h7, _⟩⟩, _⟩ := hss
    · simp only [Value.slice.injEq] at h2; omega
    · simp only [Value.slice.injEq] at h3; unfold maxLen at h7; omega
  obtain ⟨a, c, rfl, hac, hlv⟩ := hss.lv (subs_all hpv hc.2.2.1).2.2.2
  rw [hst.1] at hac hcm ⊢
  exact ⟨a, c, rfl, hac, hcm _ _ _ rfl, Pth.pl_of hst.1 hst.2.1 hlv, hb1⟩

set_option maxRecDepth 100000 in
set_option maxHeartbeats 2000000 in
theorem specApplyEdits_any (v : List M.Cl) (b off cap : Nat) (a : Option Addr) (cap' : Nat) (l : List Ed) (w : World) (hrow : _root_.Go.Proofs.YtoaibccmlmaknaaGreat.Row w b off v) (hb : b < w.heap.size) (hn : v.length ≤ 1048576) (hcap : v.length ≤ cap) (hok : ∀ c ∈ v, c.ok) (hA : Arg w a cap' l) (hn' : l.length ≤ 1048576) (hsm : ∀ i, i < l.length → (l.getD i zero).small) :
    Calls Tryz.prog 6 #[.slice (some ⟨b, off, none⟩) v.length cap, .slice a l.length cap'] w (AnsR w (applyOut v l)) := by
  have B0 : ∀ y, Below w.heap.size w (w.alloc y) := fun y => (Below.refl _ _).alloc (Nat.le_refl _) y
  have HV := hide (fun y => specFault_any v b off cap (w.alloc y) (hrow.below (B0 y) hb) (by simp; omega) hn hcap hok)
  have HE := hide (fun W (h : Below w.heap.size w W) => specEdits_any a cap' l W (hA.below h) hn' hsm)
  have HRW := hide (fun W (h : Below w.heap.size w W) => hrow.below h hb)
  have HA := hide hA
  have hcm := hA.1
  have hcl := hA.2.1
  have HB0 := hide B0
  clear B0 hok hrow hA hsm
  go_enter Tryz.func6, Tryz.ntmps6
  go_wp2_with fail
  refine ((unhide HV) _).mono ?_
  rintro e1 w1 ⟨rfl, hb1⟩
  have hR : Own w1 w.heap.size 28 [.int .i64 0, .int .i64 0, .slice none 0 0] := Own.below ⟨_, heap_alloc_new _ _, rfl⟩ hb1 (by simp)
  have B1 : Below w.heap.size w w1 := ((unhide HB0) _).trans (hb1.mono (by simp))
  clear hb1 HV HB0
  generalize hq : M.valueFault v = q
  by_cases hz : q = 0
  case neg =>
    have fin := hide ((apply_v (l := l) (by rw [hq]; exact hz)).trans (by rw [hq]))
    have hz' : (q == 0) = false := by simp [hz]
    clear hq HE HRW HA
    have r0 := hR.cell 0
    have r1 := hR.cell 1
    have r2 := hR.cell 2
    simp only [List.getElem?_cons_zero, List.getElem?_cons_succ] at r0 r1 r2
    have z0 := hR.frozen 0
    have z1 := hR.frozen 1
    have z2 := hR.frozen 2
    go_wp2_with fail
    refine bodyPost_ret (v := .agg #[.int .i64 q, .int .i64 0, .slice none 0 0]) (by simp [results, Tryz.results6, go_sem, r0, r1, r2]) rfl (Ed.ansR_of (unhide fin) (resNil _ _) (store3 B1 _ _ _))
  subst hz
  go_wp2_with fail
  refine ((unhide HE) _ B1).mono ?_
  rintro e2 w2 ⟨rfl, hb2⟩
  have B2 : Below w.heap.size w w2 := B1.trans (hb2.mono B1.size)
  have hR2 := hR.below hb2 hR.lt
  clear hb2 HE B1 hR
  generalize hqf : faults l = qf
  by_cases hzf : qf = 0
  case neg =>
    have fin := hide ((apply_l hq (by rw [hqf]; exact hzf)).trans (by rw [hqf]))
    have hz' : (qf == 0) = false := by simp [hzf]
    clear hq hqf HRW HA
    have r0 := hR2.cell 0
    have r1 := hR2.cell 1
    have r2 := hR2.cell 2
    simp only [List.getElem?_cons_zero, List.getElem?_cons_succ] at r0 r1 r2
    have z0 := hR2.frozen 0
    have z1 := hR2.frozen 1
    have z2 := hR2.frozen 2
    go_wp2_with fail
    refine bodyPost_ret (v := .agg #[.int .i64 qf, .int .i64 0, .slice none 0 0]) (by simp [results, Tryz.results6, go_sem, r0, r1, r2]) rfl (Ed.ansR_of (unhide fin) (resNil _ _) (store3 B2 _ _ _))
  subst hzf
  have HG := hide (apply_ok hq hqf)
  have HF := hide (faults_no hqf).2
  have HQ := hide hq
  have hvl := (Pth.lens hq).2
  have hrow2 := (unhide HRW) w2 B2
  have hb2' : b < w2.heap.size := Nat.lt_of_lt_of_le hb B2.size
  have HR2 := hide hR2
  clear hq hqf hn HRW
  obtain ⟨i0, hi, hz0, hz1, hz2⟩ := info_parts Tryz.info56
  have hnews := hide (fun o => row_words (hrow2.below ((Below.refl w2.heap.size w2).alloc (Nat.le_refl _) o) hb2'))
  have hone := hide (flat_one v)
  have HFL := hide (flat_length v)
  have hoe := hide (owns_empty5 w2 56)
  have hb63 : 0 + v.length ≤ maxLen := by unfold maxLen; omega
  have hby : (0 + v.length) * 56 ≤ 140737488355328 := by omega
  clear hrow2 hR2
  go_wp2_with (at_builtin; refine wpList_append_own _ rfl (.tmp 22) (.tmp 23) 26 rfl w2.heap.size 56 i0 _ 5 56 Tryz.underlying26 hi hz0 hz1 hz2 rfl (by decide) _ 0 [] rfl (unhide hoe) ⟨b, off, none⟩ v.length cap (flat v) rfl (unhide HFL) ((unhide hnews) _) (unhide hone) hb63 hby (by simp) ?_)
  intro s3 w3 ho hg _
  have hb3 : Below w2.heap.size w2 w3 := ((Below.refl _ w2).alloc (Nat.le_refl _) _).grown hg (by simp) (fun q hq => by simp only [Value.ownBlock, Option.some.injEq] at hq; omega)
  have hr3 : Res w3 w2.heap.size s3 v := res_of_owns (l := v) (by simpa using ho) (by omega)
  clear ho hg hnews hone HFL hoe hb63 hby
  have B3 : Below w.heap.size w w3 := B2.trans (hb3.mono B2.size)
  have V3 : Hid (Res w3 (w.heap.size + 1) s3 v) := hide (hr3.mono (unhide HR2).lt)
  have R3 := hide ((unhide HR2).below hb3 (unhide HR2).lt)
  have hwl : Hid (w.heap.size + 1 ≤ w2.heap.size) := hide (unhide HR2).lt
  clear hr3 hb3 B2 HR2
  go_wp2_with fail
  go_loopg [7, 8] l.length (fun g s7 s8 wr => ∃ (k : Nat) (u : List M.Cl), Hid (g = l.length - k) ∧ s8 = .int .i64 k ∧ k ≤ l.length ∧ Hid (Res wr (w.heap.size + 1) s7 u) ∧ Hid (M.valueFault u = 0) ∧ Hid (applyOut v l = go k u (l.drop k)) ∧ Hid (Own wr w.heap.size 28 [.int .i64 0, .int .i64 0, .slice none 0 0]) ∧ Below w.heap.size w wr)
  case atStart => exact ⟨0, v, rfl, rfl, by omega, unhide V3, unhide HQ, unhide HG, unhide R3, B3⟩
  case round =>
    clear V3 HQ HG R3 B3
    obtain ⟨k, u, hg, rfl, hk, hU, hu, hgo, hOw, hbel⟩ := hrel
    obtain ⟨b3, c3, hsh, hc3, hl3, hlt3, hrw3⟩ := hU.out.rowedQ (Pth.val_ne hu.out)
    subst hsh
    have hul := Pth.lens hu.out
    by_cases hlt : k < l.length
    · have hltI : (k : Int) < (l.length : Int) := by omega
      obtain ⟨_, _, _, h4⟩ := (unhide HA).below hbel
      obtain ⟨lb, lo, rfl, hlb, hr⟩ : ∃ b off, a = some ⟨b, off, none⟩ ∧ b < wr.heap.size ∧ ∀ i, i < l.length → ArgAt wr b (off + i * 3) (l.getD i zero) := by
        rcases h4 with e | e
        · rw [e] at hlt; simp at hlt
        · exact e
      obtain ⟨f0, ⟨va, vc, f1, hc⟩, vb, vd, f2, hd⟩ := hr k hlt
      have hft := (unhide HF) k hlt
      have GD := hide (step_gd hu.out hft)
      have HIT := hide (fun (h : (step u (l.getD k zero)).1 ≠ 0) => hgo.out.trans (go_hit hlt h))
      have NEXT := hide (fun (h : (step u (l.getD k zero)).1 = 0) => hgo.out.trans (go_next hlt h))
      have HLT := hide hlt
      clear hr hgo HA hU HF
      generalize l.getD k zero = n at *
      have hl200 : l.length ≤ 1048576 := hn'
      obtain ⟨W1, hW1⟩ : ∃ W1, W1 = wr.alloc (.cells #[.int .i64 0, .slice none 0 0] 49) := ⟨_, rfl⟩
      have b1 : Below wr.heap.size wr W1 := by rw [hW1]; exact (Below.refl _ _).alloc (Nat.le_refl _) _
      have B1 : Below w.heap.size w W1 := hbel.trans (b1.mono hbel.size)
      have N1 : Own W1 wr.heap.size 49 [.int .i64 0, .slice none 0 0] := by rw [hW1]; exact ⟨_, heap_alloc_new _ _, rfl⟩
      have R1 := hOw.out.below b1 hOw.out.lt
      have hw0 : w.heap.size + 1 ≤ wr.heap.size := hOw.out.lt
      have f0' := (b1.cell hlb).trans f0
      have f1' := (b1.cell hlb).trans f1
      have f2' := (b1.cell hlb).trans f2
      have hcW := hc.below b1
      have hdW := hd.below b1
      have hrwW := hrw3.below b1 hlt3
      have hltW : b3 < W1.heap.size := Nat.lt_of_lt_of_le hlt3 b1.size
      have hlbW : lb < W1.heap.size := Nat.lt_of_lt_of_le hlb b1.size
      have hpf := (fault_ok hft).1
      have HPP := hide (fun W (h : Below W1.heap.size W1 W) => pathParts_any n.path hpf va vc W (hcW.below h))
      have hstp := (Pth.steps hpf).2.2
      have HSET := hide (fun (hx : M.valueFault n.x = 0) (bx ox : Nat) (hbx : bx < W1.heap.size) (hrx : _root_.Go.Proofs.YtoaibccmlmaknaaGreat.Row W1 bx ox n.x) W (h : Below W1.heap.size W1 W) pa pc (hpl : Pth.PL W pa (n.path.drop 1)) (h1 : (n.path.drop 1).length ≤ pc) (h2 : pc ≤ 9223372036854775807) => l13Set_any (n.path.drop 1) n.x hx hstp u b3 0 c3 pa pc bx ox vd W hu.out (hrwW.below h hltW) (Nat.lt_of_lt_of_le hltW h.size) hc3 hpl h1 h2 (hrx.below h hbx) (Nat.lt_of_lt_of_le hbx h.size) hd.2.1)
      have HDROP := hide (fun W (h : Below W1.heap.size W1 W) pa pc (hpl : Pth.PL W pa (n.path.drop 1)) (h1 : (n.path.drop 1).length ≤ pc) (h2 : pc ≤ 9223372036854775807) => l13Drop_any (n.path.drop 1) hstp u b3 0 c3 pa pc W hu.out (hrwW.below h hltW) (Nat.lt_of_lt_of_le hltW h.size) hc3 hpl h1 h2)
      have hkd := (fault_ok hft).2
      have HDW := hide hdW
      have hN1 := hide N1
      have hR1 := hide R1
      have u0 := N1.cell 0
      have u1 := N1.cell 1
      simp only [List.getElem?_cons_zero, List.getElem?_cons_succ] at u0 u1
      have x0 := N1.frozen 0
      have x1 := N1.frozen 1

      have hap : w.heap.size ≠ wr.heap.size := by omega
      have SZW : Hid (W1.heap.size = wr.heap.size + 1) := hide (by rw [hW1]; simp)
      clear hc hd hcW hdW hft hrw3 hrwW hOw hu hpf hstp N1 R1 b1 hbel f0 f1 f2
      generalize hg1 : wr.heap.size = g1 at *
      rcases hkd with ⟨h1, hx⟩ | h2
      · obtain ⟨bx, ox, e, hbx, hrx⟩ := row_of (unhide HDW) (Pth.lens hx).1
        subst e
        have EST := hide (step_set (v := u) h1)
        have HSETX := hide ((unhide HSET) hx bx ox hbx hrx)
        rw [h1] at f0'
        clear HSET HDROP HDW hrx hx h1
        rw [unhide EST] at GD HIT NEXT
        generalize n.path.drop 1 = cs at *
        generalize Pth.setS u cs n.x = R at *
        obtain ⟨rc, rl⟩ := R
        go_upto_region 12 with fail
        rw [← hW1]
        clear hW1
        go_upto_region 13 with fail
        have BR := Below.refl W1.heap.size W1
        have KEEP1 := hide (fun W (hW : Below W1.heap.size W1 W) => (hW.cell hlbW (p := ⟨lb, lo + k * 3 + 1, none⟩)).trans f1')
        have KEEP2 := hide (fun W (hW : Below W1.heap.size W1 W) => (hW.cell hlbW (p := ⟨lb, lo + k * 3 + 2, none⟩)).trans f2')
        clear f0' f1' f2' u0 u1 x0 x1
        refine Z.region 13 (fun w' => Below W1.heap.size W1 w') (by kernel_rfl) BR.drew (fun hHeld => ?_)
        refine Z.take (i := 0) (d := 38) (v := .slice (some ⟨b3, 0, none⟩) u.length c3) rfl rfl (by kernel_rfl) (by kernel_rfl) (by kernel_rfl) (by kernel_rfl) (fun _ _ _ h => h) (Or.inl ⟨by rfl, ?_⟩) hHeld ?_
        · intro w' hSw; go_simp
        simp only [Act.put, List.setIfInBounds_toArray, List.set_cons_zero, List.set_cons_succ]
        refine Z.take (i := 1) (d := 39) (v := .slice (some ⟨lb, lo, none⟩) l.length cap') rfl rfl (by kernel_rfl) (by kernel_rfl) (by kernel_rfl) (by kernel_rfl) (fun _ _ _ h => h) (Or.inl ⟨by rfl, ?_⟩) hHeld ?_
        · intro w' hSw; go_simp
        simp only [Act.put, List.setIfInBounds_toArray, List.set_cons_zero, List.set_cons_succ]
        refine Z.take (i := 2) (d := 40) (v := .int .i64 k) rfl rfl (by kernel_rfl) (by kernel_rfl) (by kernel_rfl) (by kernel_rfl) (fun _ _ _ h => h) (Or.inl ⟨by rfl, ?_⟩) hHeld ?_
        · intro w' hSw; go_simp
        simp only [Act.put, List.setIfInBounds_toArray, List.set_cons_zero, List.set_cons_succ]
        refine Z.take (i := 3) (d := 41) (v := .pointer (some ⟨lb, lo + k * 3, none⟩)) rfl rfl (by kernel_rfl) (by kernel_rfl) (by kernel_rfl) (by kernel_rfl) (fun _ _ _ h => h) (Or.inl ⟨by rfl, ?_⟩) hHeld ?_
        · intro w' hSw; go_simp
        simp only [Act.put, List.setIfInBounds_toArray, List.set_cons_zero, List.set_cons_succ]
        refine Z.take (i := 4) (d := 42) (v := .pointer (some ⟨lb, lo + k * 3 + 1, none⟩)) rfl rfl (by kernel_rfl) (by kernel_rfl) (by kernel_rfl) (by kernel_rfl) (fun _ _ _ h => h) (Or.inl ⟨by rfl, ?_⟩) hHeld ?_
        · intro w' hSw; go_simp
        simp only [Act.put, List.setIfInBounds_toArray, List.set_cons_zero, List.set_cons_succ]
        refine Z.take (i := 5) (d := 43) (v := .slice va n.path.length vc) rfl rfl (by kernel_rfl) (by kernel_rfl) (by kernel_rfl) (by kernel_rfl) (fun _ _ _ h => h) (Or.inl ⟨by rfl, ?_⟩) hHeld ?_
        · intro w' hSw; have g2 := (unhide KEEP1) _ hSw; go_simp
        simp only [Act.put, List.setIfInBounds_toArray, List.set_cons_zero, List.set_cons_succ]
        refine Z.take (i := 7) (d := 45) (v := .slice (some ⟨lb, lo, none⟩) l.length cap') rfl rfl (by kernel_rfl) (by kernel_rfl) (by kernel_rfl) (by kernel_rfl) (fun _ _ _ h => h) (Or.inl ⟨by rfl, ?_⟩) hHeld ?_
        · intro w' hSw; go_simp
        simp only [Act.put, List.setIfInBounds_toArray, List.set_cons_zero, List.set_cons_succ]
        refine Z.take (i := 8) (d := 46) (v := .int .i64 k) rfl rfl (by kernel_rfl) (by kernel_rfl) (by kernel_rfl) (by kernel_rfl) (fun _ _ _ h => h) (Or.inl ⟨by rfl, ?_⟩) hHeld ?_
        · intro w' hSw; go_simp
        simp only [Act.put, List.setIfInBounds_toArray, List.set_cons_zero, List.set_cons_succ]
        refine Z.take (i := 9) (d := 47) (v := .pointer (some ⟨lb, lo + k * 3, none⟩)) rfl rfl (by kernel_rfl) (by kernel_rfl) (by kernel_rfl) (by kernel_rfl) (fun _ _ _ h => h) (Or.inl ⟨by rfl, ?_⟩) hHeld ?_
        · intro w' hSw; go_simp
        simp only [Act.put, List.setIfInBounds_toArray, List.set_cons_zero, List.set_cons_succ]
        refine Z.take (i := 10) (d := 48) (v := .pointer (some ⟨lb, lo + k * 3 + 2, none⟩)) rfl rfl (by kernel_rfl) (by kernel_rfl) (by kernel_rfl) (by kernel_rfl) (fun _ _ _ h => h) (Or.inl ⟨by rfl, ?_⟩) hHeld ?_
        · intro w' hSw; go_simp
        simp only [Act.put, List.setIfInBounds_toArray, List.set_cons_zero, List.set_cons_succ]
        refine Z.take (i := 11) (d := 49) (v := .slice (some ⟨bx, ox, none⟩) n.x.length vd) rfl rfl (by kernel_rfl) (by kernel_rfl) (by kernel_rfl) (by kernel_rfl) (fun _ _ _ h => h) (Or.inl ⟨by rfl, ?_⟩) hHeld ?_
        · intro w' hSw; have g2 := (unhide KEEP2) _ hSw; go_simp
        simp only [Act.put, List.setIfInBounds_toArray, List.set_cons_zero, List.set_cons_succ]

        refine Z.only (i := 6) (d := 44) rfl rfl (by kernel_rfl) (by rfl) (fun K hK => ?_)
        go_simp
        refine ((unhide HPP) _ BR.drew).mono ?_
        rintro e4 w4 ⟨pa, pc, rfl, hp1, hp2, hpl, hb4⟩
        have hb4' : Below W1.heap.size W1 w4 := BR.drew.trans (hb4.mono (Nat.le_refl _))
        go_simp
        refine hK.out (.slice pa cs.length pc) _ hb4' ?_
        clear hK K
        simp only [Act.put, List.setIfInBounds_toArray, List.set_cons_zero, List.set_cons_succ]
        have HC5 := hide ((unhide HSETX) w4 hb4' pa pc hpl hp1 hp2)
        clear HSETX HPP hb4 hpl
        refine Z.only (i := 12) (d := 50) rfl rfl (by kernel_rfl) (by rfl) (fun K hK => ?_)
        go_simp
        refine (unhide HC5).mono ?_
        rintro e5 w5 ⟨s5, rfl, hr5, hb5⟩
        have hb5' : Below W1.heap.size W1 w5 := hb4'.trans (hb5.mono hb4'.size)
        obtain ⟨a5, n5, c5, rfl⟩ := hr5.shape
        have hr5' : Res w5 W1.heap.size (.slice a5 n5 c5) rl := hr5.mono hb4'.size
        go_simp
        refine hK.out (.agg #[.int .i64 rc, .slice a5 n5 c5]) _ hb5' ?_
        clear hK K
        simp only [Act.put, List.setIfInBounds_toArray, List.set_cons_zero, List.set_cons_succ]
        have N5 := (unhide hN1).below hb5' (unhide hN1).lt
        have R5 := (unhide hR1).below hb5' (unhide hR1).lt
        have u0 := N5.cell 0
        have u1 := N5.cell 1
        simp only [List.getElem?_cons_zero, List.getElem?_cons_succ] at u0 u1
        have x0 := N5.frozen 0
        have x1 := N5.frozen 1

        refine Z.last_at (w' := (w5.setCell ⟨g1, 0, none⟩ (.int .i64 rc)).setCell ⟨g1, 1, none⟩ (.slice a5 n5 c5)) rfl (by kernel_rfl) (by rfl) (fun K hK => ?_) ?_
        · go_simp
          exact hK.out
        refine Z.done (by kernel_rfl) ?_ _
        clear hHeld HC5 KEEP1 KEEP2 BR hb4'
        have BW1 : w.heap.size + 1 ≤ W1.heap.size := by have := SZW.out; omega
        obtain ⟨W2, hW2⟩ : ∃ W2, W2 = (w5.setCell ⟨g1, 0, none⟩ (.int .i64 rc)).setCell ⟨g1, 1, none⟩ (.slice a5 n5 c5) := ⟨_, rfl⟩
        have E2 : Own W2 g1 49 [.int .i64 rc, .slice a5 n5 c5] := by rw [hW2]; simpa using (N5.set 0 (.int .i64 rc)).set 1 (.slice a5 n5 c5)
        have R2 : Own W2 w.heap.size 28 [.int .i64 0, .int .i64 0, .slice none 0 0] := by rw [hW2]; exact (R5.setOther _ _ hap).setOther _ _ hap
        have hne5 : ∀ b, (Value.slice a5 n5 c5).ownBlock = some b → b ≠ g1 := fun b hq => by have := hr5'.base b hq; have := SZW.out; omega
        have V2 : Hid (Res W2 (w.heap.size + 1) (.slice a5 n5 c5) rl) := hide (by rw [hW2]; exact ((hr5'.mono BW1).setOther _ _ hne5).setOther _ _ hne5)
        have B5 : Below w.heap.size w w5 := B1.trans (hb5'.mono B1.size)
        have B2 : Below w.heap.size w W2 := by rw [hW2]; exact (B5.setCell (by show w.heap.size ≤ g1; omega) _).setCell (by show w.heap.size ≤ g1; omega) _
        rw [← hW2]
        clear hW2 hr5 hr5' hb5 hb5' N5 R5 u0 u1 x0 x1 hN1 hR1 B5 hne5
        have R2h := hide R2
        have u0 := E2.cell 0
        have u1 := E2.cell 1
        simp only [List.getElem?_cons_zero, List.getElem?_cons_succ] at u0 u1
        by_cases hzr : rc = 0
        · subst hzr
          have NX := hide ((unhide NEXT) rfl)
          have VU := hide ((unhide GD).ok rfl)
          have hnl := (unhide V2).1
          clear NEXT HIT GD R2
          go_wp2_with fail
          go_roundg (l.length - (k + 1))
          case rel => exact ⟨k + 1, rl, rfl, by go_num, by have := unhide HLT; omega, unhide V2, unhide VU, unhide NX, unhide R2h, B2⟩
          case measure => have := hg.out; have := unhide HLT; omega
        · have fin := hide ((unhide HIT) hzr)
          have hz' : (rc == 0) = false := by simp [hzr]
          clear NEXT HIT GD V2 hzr
          have r0 := R2.cell 0
          have r1 := R2.cell 1
          have r2 := R2.cell 2
          simp only [List.getElem?_cons_zero, List.getElem?_cons_succ] at r0 r1 r2
          have z0 := R2.frozen 0
          have z1 := R2.frozen 1
          have z2 := R2.frozen 2
          go_wp2_with fail
          refine bodyPost_ret (v := .agg #[.int .i64 rc, .int .i64 k, .slice none 0 0]) (by simp [results, Tryz.results6, go_sem, r0, r1, r2]) rfl (Ed.ansR_of (unhide fin) (resNil _ _) (store3 B2 _ _ _))
      · have EST := hide (step_drop (v := u) h2)
        rw [h2] at f0'
        clear HSET HDW h2
        rw [unhide EST] at GD HIT NEXT
        generalize n.path.drop 1 = cs at *
        generalize Pth.dropS u cs = R at *
        obtain ⟨rc, rl⟩ := R
        go_upto_region 12 with fail
        rw [← hW1]
        clear hW1
        go_wp2_with fail
        refine ((unhide HPP) _ (Below.refl _ _)).mono ?_
        rintro e4 w4 ⟨pa, pc, rfl, hp1, hp2, hpl, hb4⟩
        have HC5 := hide ((unhide HDROP) w4 hb4 pa pc hpl hp1 hp2)
        have hb4' := hb4
        clear HDROP HPP hpl u0 u1 x0 x1 f0' f1' f2' hb4
        go_wp2_with fail
        refine (unhide HC5).mono ?_
        rintro e5 w5 ⟨s5, rfl, hr5, hb5⟩
        have hb5' : Below W1.heap.size W1 w5 := hb4'.trans (hb5.mono hb4'.size)
        obtain ⟨a5, n5, c5, rfl⟩ := hr5.shape
        have hr5' : Res w5 W1.heap.size (.slice a5 n5 c5) rl := hr5.mono hb4'.size
        have N5 := (unhide hN1).below hb5' (unhide hN1).lt
        have R5 := (unhide hR1).below hb5' (unhide hR1).lt
        have u0 := N5.cell 0
        have u1 := N5.cell 1
        simp only [List.getElem?_cons_zero, List.getElem?_cons_succ] at u0 u1
        have x0 := N5.frozen 0
        have x1 := N5.frozen 1
        clear HC5 hb4'
        go_upto_region 15 with fail
        have BW1 : w.heap.size + 1 ≤ W1.heap.size := by have := SZW.out; omega
        obtain ⟨W2, hW2⟩ : ∃ W2, W2 = (w5.setCell ⟨g1, 0, none⟩ (.int .i64 rc)).setCell ⟨g1, 1, none⟩ (.slice a5 n5 c5) := ⟨_, rfl⟩
        have E2 : Own W2 g1 49 [.int .i64 rc, .slice a5 n5 c5] := by rw [hW2]; simpa using (N5.set 0 (.int .i64 rc)).set 1 (.slice a5 n5 c5)
        have R2 : Own W2 w.heap.size 28 [.int .i64 0, .int .i64 0, .slice none 0 0] := by rw [hW2]; exact (R5.setOther _ _ hap).setOther _ _ hap
        have hne5 : ∀ b, (Value.slice a5 n5 c5).ownBlock = some b → b ≠ g1 := fun b hq => by have := hr5'.base b hq; have := SZW.out; omega
        have V2 : Hid (Res W2 (w.heap.size + 1) (.slice a5 n5 c5) rl) := hide (by rw [hW2]; exact ((hr5'.mono BW1).setOther _ _ hne5).setOther _ _ hne5)
        have B5 : Below w.heap.size w w5 := B1.trans (hb5'.mono B1.size)
        have B2 : Below w.heap.size w W2 := by rw [hW2]; exact (B5.setCell (by show w.heap.size ≤ g1; omega) _).setCell (by show w.heap.size ≤ g1; omega) _
        rw [← hW2]
        clear hW2 hr5 hr5' hb5 hb5' N5 R5 u0 u1 x0 x1 hN1 hR1 B5 hne5
        have R2h := hide R2
        have u0 := E2.cell 0
        have u1 := E2.cell 1
        simp only [List.getElem?_cons_zero, List.getElem?_cons_succ] at u0 u1
        by_cases hzr : rc = 0
        · subst hzr
          have NX := hide ((unhide NEXT) rfl)
          have VU := hide ((unhide GD).ok rfl)
          have hnl := (unhide V2).1
          clear NEXT HIT GD R2
          go_wp2_with fail
          go_roundg (l.length - (k + 1))
          case rel => exact ⟨k + 1, rl, rfl, by go_num, by have := unhide HLT; omega, unhide V2, unhide VU, unhide NX, unhide R2h, B2⟩
          case measure => have := hg.out; have := unhide HLT; omega
        · have fin := hide ((unhide HIT) hzr)
          have hz' : (rc == 0) = false := by simp [hzr]
          clear NEXT HIT GD V2 hzr
          have r0 := R2.cell 0
          have r1 := R2.cell 1
          have r2 := R2.cell 2
          simp only [List.getElem?_cons_zero, List.getElem?_cons_succ] at r0 r1 r2
          have z0 := R2.frozen 0
          have z1 := R2.frozen 1
          have z2 := R2.frozen 2
          go_wp2_with fail
          refine bodyPost_ret (v := .agg #[.int .i64 rc, .int .i64 k, .slice none 0 0]) (by simp [results, Tryz.results6, go_sem, r0, r1, r2]) rfl (Ed.ansR_of (unhide fin) (resNil _ _) (store3 B2 _ _ _))
    · have hke : k = l.length := by omega
      have fin := hide (hgo.out.trans (go_end (u := u) hke))
      have hOw := hOw.out
      have F := hide (ret3 hU.out hbel)
      have r0 := hOw.cell 0
      have r1 := hOw.cell 1
      have r2 := hOw.cell 2
      simp only [List.getElem?_cons_zero, List.getElem?_cons_succ] at r0 r1 r2
      have z0 := hOw.frozen 0
      have z1 := hOw.frozen 1
      have z2 := hOw.frozen 2
      clear hU hgo hke HA HF hOw hu hrw3
      go_wp2_with fail
      refine bodyPost_ret (v := .agg #[.int .i64 0, .int .i64 0, .slice (some ⟨b3, 0, none⟩) u.length c3]) (by simp [results, Tryz.results6, go_sem, r0, r1, r2]) rfl (Ed.ansR_of (unhide fin) ((unhide F) _ _ _).1 ((unhide F) _ _ _).2)
end Ed
end Go.Proofs.YtoaibccmlmaknaaGreat
