/-
  Faults of edits: plainly, and impl.editFault, spec.l14Edit, both EditsFaults over a list that lies anywhere.
-/
import Derived.Test.YtoaibccmlmaknaaEdL
import Derived.Test.YtoaibccmlmaknaaPthF
namespace Go.Proofs.Ytoaibccmlmaknaa
open Go.RowKit
set_option linter.unusedVariables false
set_option linter.unusedSimpArgs false

theorem implFault_nil (a : Option Addr) (cap : Nat) (w : World) : Calls Try.prog 79 #[.slice a 0 cap] w fun e w' => e = .returned (.int .i64 2) ∧ Below w.heap.size w w' := by
  go_enter Try.func79, Try.ntmps79
  go_wp2_with fail
  go_ret
  exact ⟨rfl, Below.refl _ _⟩
theorem specFault_nil (a : Option Addr) (cap : Nat) (w : World) : Calls Try.prog 70 #[.slice a 0 cap] w fun e w' => e = .returned (.int .i64 2) ∧ Below w.heap.size w w' := by
  go_enter Try.func70, Try.ntmps70
  go_wp2_with fail
  go_ret
  exact ⟨rfl, Below.refl _ _⟩
theorem implPathFault_nil (a : Option Addr) (cap : Nat) (w : World) : Calls Try.prog 80 #[.slice a 0 cap] w fun e w' => e = .returned (.int .i64 2) ∧ Below w.heap.size w w' := by
  go_enter Try.func80, Try.ntmps80
  go_wp2_with fail
  refine (implFault_nil a cap _).mono ?_
  rintro e w1 ⟨rfl, hb1⟩
  go_wp2_with fail
  go_ret
  exact ⟨rfl, hb1⟩
theorem specPathFault_nil (a : Option Addr) (cap : Nat) (w : World) : Calls Try.prog 71 #[.slice a 0 cap] w fun e w' => e = .returned (.int .i64 2) ∧ Below w.heap.size w w' := by
  go_enter Try.func71, Try.ntmps71
  go_wp2_with fail
  refine (specFault_nil a cap _).mono ?_
  rintro e w1 ⟨rfl, hb1⟩
  go_wp2_with fail
  go_ret
  exact ⟨rfl, hb1⟩
theorem implFault_cells (a : Option Addr) (cap : Nat) (l : List M.Cl) (w : World) (h : Cells w a cap l) (hn : l.length ≤ 1048576) : Calls Try.prog 79 #[.slice a l.length cap] w fun e w' => e = .returned (.int .i64 (M.valueFault l)) ∧ Below w.heap.size w w' := by
  obtain ⟨h1, h2, h3, rfl | ⟨b, off, rfl, hb, hr⟩⟩ := h
  · exact implFault_nil a cap w
  · exact implFault_any l b off cap w hr hb hn h2 h3
theorem implPathFault_cells (a : Option Addr) (cap : Nat) (l : List M.Cl) (w : World) (h : Cells w a cap l) (hn : l.length ≤ 1048576) : Calls Try.prog 80 #[.slice a l.length cap] w fun e w' => e = .returned (.int .i64 (Pth.fault l)) ∧ Below w.heap.size w w' := by
  obtain ⟨h1, h2, h3, rfl | ⟨b, off, rfl, hb, hr⟩⟩ := h
  · exact implPathFault_nil a cap w
  · exact implPathFault_any l b off cap w hr hb hn h2 h1 h3
theorem specFault_cells (a : Option Addr) (cap : Nat) (l : List M.Cl) (w : World) (h : Cells w a cap l) (hn : l.length ≤ 1048576) : Calls Try.prog 70 #[.slice a l.length cap] w fun e w' => e = .returned (.int .i64 (M.valueFault l)) ∧ Below w.heap.size w w' := by
  obtain ⟨h1, h2, h3, rfl | ⟨b, off, rfl, hb, hr⟩⟩ := h
  · exact specFault_nil a cap w
  · exact specFault_any l b off cap w hr hb hn h2 h3
theorem specPathFault_cells (a : Option Addr) (cap : Nat) (l : List M.Cl) (w : World) (h : Cells w a cap l) (hn : l.length ≤ 1048576) : Calls Try.prog 71 #[.slice a l.length cap] w fun e w' => e = .returned (.int .i64 (Pth.fault l)) ∧ Below w.heap.size w w' := by
  obtain ⟨h1, h2, h3, rfl | ⟨b, off, rfl, hb, hr⟩⟩ := h
  · exact specPathFault_nil a cap w
  · exact specPathFault_any l b off cap w hr hb hn h2 h3

/-- A path's first cell tells how many steps it has. -/
theorem Pth.first_n {p : List M.Cl} (h : Pth.fault p = 0) : 1 ≤ p.length ∧ p.length ≤ 200 ∧ (p.getD 0 M.zero).n = (p.length : Int) - 1 := by
  obtain ⟨hv, hk, hs⟩ := Pth.fault_no h
  have hl := Pth.lens hv
  have hp := (Pth.places hv hs).1
  have hcd := Pth.cell_code hv (i := 0) (by omega)
  unfold M.arity at hp
  have hge : 0 ≤ (p.getD 0 M.zero).n := by
    unfold M.cellCode at hcd
    split at hcd
    · cases hcd
    split at hcd
    · cases hcd
    split at hcd
    · cases hcd
    rename_i h3
    omega
  exact ⟨hl.1, hl.2, by omega⟩

namespace Ed
/-- What EditsFault tells of an edit. -/
def fault (e : Ed) : Int := if e.op ≠ 1 ∧ e.op ≠ 2 then 1 else if Pth.fault e.path ≠ 0 then Pth.fault e.path else if e.op = 1 then M.valueFault e.x else if 0 < e.x.length ∨ e.path.length = 1 then 1 else 0
theorem fault_op {e : Ed} (h1 : e.op ≠ 1) (h2 : e.op ≠ 2) : fault e = 1 := if_pos ⟨h1, h2⟩
theorem fault_path {e : Ed} (h : e.op = 1 ∨ e.op = 2) (hp : Pth.fault e.path ≠ 0) : fault e = Pth.fault e.path := by unfold fault; rw [if_neg (by omega), if_pos hp]
theorem fault_set {e : Ed} (h : e.op = 1) (hp : Pth.fault e.path = 0) : fault e = M.valueFault e.x := by unfold fault; rw [if_neg (by omega), if_neg (by simp [hp]), if_pos h]
theorem fault_drop {e : Ed} (h : e.op = 2) (hp : Pth.fault e.path = 0) : fault e = if 0 < e.x.length ∨ e.path.length = 1 then 1 else 0 := by unfold fault; rw [if_neg (by omega), if_neg (by simp [hp]), if_neg (by omega)]
/-- The first fault of edits. -/
def firstF : List Ed → Int
  | [] => 0
  | e :: l => if fault e = 0 then firstF l else fault e
/-- What EditsFault tells. -/
def faults (l : List Ed) : Int := if 100 < l.length then 2 else firstF l
theorem first_hit : ∀ (l : List Ed) (k : Nat), k < l.length → (∀ j, j < k → fault (l.getD j zero) = 0) → fault (l.getD k zero) ≠ 0 → firstF l = fault (l.getD k zero) := by
  intro l
  induction l with
  | nil => intro k hk; simp at hk
  | cons e l ih =>
    intro k hk hall hne
    cases k with
    | zero => simp only [List.getD_cons_zero] at hne ⊢; rw [firstF, if_neg hne]
    | succ k =>
      have h0 := hall 0 (by omega)
      simp only [List.getD_cons_zero] at h0
      simp only [List.getD_cons_succ] at hne ⊢
      rw [firstF, if_pos h0]
      exact ih k (by simpa using hk) (fun j hj => by have := hall (j + 1) (by omega); simpa only [List.getD_cons_succ] using this) hne
theorem first_none : ∀ (l : List Ed), (∀ j, j < l.length → fault (l.getD j zero) = 0) → firstF l = 0 := by
  intro l
  induction l with
  | nil => intro _; rfl
  | cons e l ih =>
    intro hall
    have h0 := hall 0 (by simp)
    simp only [List.getD_cons_zero] at h0
    rw [firstF, if_pos h0]
    exact ih (fun j hj => by have := hall (j + 1) (by simpa using hj); simpa only [List.getD_cons_succ] using this)
theorem faults_many {l : List Ed} (h : 100 < l.length) : faults l = 2 := if_pos h
theorem faults_few {l : List Ed} (h : ¬ 100 < l.length) : faults l = firstF l := if_neg h
theorem faults_no {l : List Ed} (h : faults l = 0) : l.length ≤ 100 ∧ ∀ j, j < l.length → fault (l.getD j zero) = 0 := by
  unfold faults at h
  split at h
  · cases h
  rename_i hl
  refine ⟨by omega, ?_⟩
  clear hl
  induction l with
  | nil => intro j hj; simp at hj
  | cons e l ih =>
    rw [firstF] at h
    split at h
    · rename_i h0
      intro j hj
      cases j with
      | zero => simpa only [List.getD_cons_zero] using h0
      | succ j => simpa only [List.getD_cons_succ] using ih h j (by simpa using hj)
    · rename_i h0; exact absurd h h0

set_option maxRecDepth 100000 in
set_option maxHeartbeats 1000000 in
theorem implEdit_any (c : Ed) (va vb : Option Addr) (vc vd : Nat) (w : World) (hc : Cells w va vc c.path) (hd : Cells w vb vd c.x) (hn : c.small) :
    Calls Try.prog 57 #[.agg #[.int .i64 c.op, .slice va c.path.length vc, .slice vb c.x.length vd]] w fun e w' => e = .returned (.int .i64 (fault c)) ∧ Below w.heap.size w w' := by
  obtain ⟨W0, hW0⟩ : ∃ W0, W0 = w.alloc (.cells #[.int .i64 c.op, .slice va c.path.length vc, .slice vb c.x.length vd] 74) := ⟨_, rfl⟩
  have B0 : Below w.heap.size w W0 := by rw [hW0]; exact (Below.refl w.heap.size w).alloc (Nat.le_refl _) _
  have O0 : Own W0 w.heap.size 74 [.int .i64 c.op, .slice va c.path.length vc, .slice vb c.x.length vd] := by rw [hW0]; exact ⟨_, heap_alloc_new _ _, rfl⟩
  have q0 := O0.cell 0
  have q1 := O0.cell 1
  simp only [List.getElem?_cons_zero, List.getElem?_cons_succ] at q0 q1
  have HP := hide (implPathFault_cells va vc c.path W0 (hc.below B0) hn.1)
  have HX := hide (fun W (h : Below w.heap.size w W) => implFault_cells vb vd c.x W (hd.below h) hn.2)
  have HC := hide hc
  have hxl := hd.2.1
  have hxm := hd.1
  have HO := hide O0
  clear hc hd
  by_cases h1 : c.op = 1
  · have FP := hide (fault_path (e := c) (.inl h1))
    have FS := hide (fault_set (e := c) h1)
    rw [h1] at q0 hW0 HO ⊢
    clear h1
    go_enter Try.func57, Try.ntmps57
    go_upto_region 1 with fail
    rw [← hW0]
    clear hW0
    go_wp2_with fail
    refine (unhide HP).mono ?_
    rintro e w1 ⟨rfl, hb1⟩
    have B1 : Below w.heap.size w w1 := B0.trans (hb1.mono B0.size)
    have O1 := (unhide HO).below hb1 (unhide HO).lt
    clear HP q0 q1 hb1
    generalize hq : Pth.fault c.path = q at *
    by_cases hz : q = 0
    · subst hz
      have fin := hide ((unhide FS) rfl)
      have HV := hide ((unhide HX) w1 B1)
      have q0 := O1.cell 0
      have q2 := O1.cell 2
      simp only [List.getElem?_cons_zero, List.getElem?_cons_succ] at q0 q2
      clear FP FS hq HX O1 HO
      go_wp2_with fail
      refine (unhide HV).mono ?_
      rintro e w2 ⟨rfl, hb2⟩
      have B2 : Below w.heap.size w w2 := B1.trans (hb2.mono B1.size)
      clear HV hb2 q0 q2
      generalize M.valueFault c.x = r at *
      go_wp2_with fail
      go_ret
      exact ⟨ret_int (unhide fin).symm, B2⟩
    · have fin := hide ((unhide FP) hz)
      have hz' : (q == 0) = false := by simp [hz]
      clear FP FS hq HX O1 HO
      go_wp2_with fail
      go_ret
      exact ⟨ret_int (unhide fin).symm, B1⟩
  by_cases h2 : c.op = 2
  · have FP := hide (fault_path (e := c) (.inr h2))
    have FS := hide (fault_drop (e := c) h2)
    rw [h2] at q0 hW0 HO ⊢
    clear h1 h2
    go_enter Try.func57, Try.ntmps57
    go_upto_region 1 with fail
    rw [← hW0]
    clear hW0
    go_wp2_with fail
    refine (unhide HP).mono ?_
    rintro e w1 ⟨rfl, hb1⟩
    have B1 : Below w.heap.size w w1 := B0.trans (hb1.mono B0.size)
    have O1 := (unhide HO).below hb1 (unhide HO).lt
    clear HP q0 q1 hb1
    have HN := hide (fun h => Pth.first_n (p := c.path) h)
    generalize hq : Pth.fault c.path = q at *
    by_cases hz : q = 0
    · subst hz
      have q0 := O1.cell 0
      have q1 := O1.cell 1
      have q2 := O1.cell 2
      simp only [List.getElem?_cons_zero, List.getElem?_cons_succ] at q0 q1 q2
      have FS := hide ((unhide FS) rfl)
      have hp := (unhide HN) rfl
      have CC := (unhide HC).below B1
      clear FP hq HX O1 HO HN HC
      by_cases hx : 0 < c.x.length
      · have fin := hide (show fault c = 1 by rw [unhide FS, if_pos (.inl hx)])
        have hxI : (0 : Int) < (c.x.length : Int) := by omega
        clear FS hp CC
        go_wp2_with fail
        go_ret
        exact ⟨ret_int (unhide fin).symm, B1⟩
      obtain ⟨hp1, hp2, hp3⟩ := hp
      obtain ⟨cc1, cc2, cc3, cc4⟩ := CC
      have hx0 : c.x.length = 0 := by omega
      have FS := hide (show fault c = if c.path.length = 1 then 1 else 0 by rw [unhide FS]; by_cases e : c.path.length = 1 <;> simp [hx0, e])
      rw [hx0] at q2
      clear hx hx0 hxl hn
      obtain ⟨b, off, rfl, hb, hr⟩ : ∃ b off, va = some ⟨b, off, none⟩ ∧ b < w1.heap.size ∧ _root_.Go.Proofs.Ytoaibccmlmaknaa.Row w1 b off c.path := by
        rcases cc4 with e | e
        · rw [e] at hp1; simp at hp1
        · exact e
      have HS := hide (stepsOf_any c.path b off vc w1 hp1 cc1 cc2 hr)
      have hdl := List.length_drop (i := 1) (l := c.path)
      generalize c.path.drop 1 = cs at *
      have HDL := hide hdl
      have hcs : cs.length ≤ 200 := by omega
      clear hr cc3 cc4 hdl hp3
      by_cases e : cs.length = 0
      · have fin := hide (show fault c = 1 by rw [unhide FS, if_pos (by have := unhide HDL; omega)])
        rw [e] at HS
        clear FS HDL e
        go_wp2_with fail
        refine (unhide HS).mono ?_
        rintro e2 w2 ⟨o, rfl, rfl, hrr⟩
        go_wp2_with fail
        go_ret
        exact ⟨ret_int (unhide fin).symm, B1⟩
      · have fin := hide (show fault c = 0 by rw [unhide FS, if_neg (by have := unhide HDL; omega)])
        have e' : ((cs.length : Int) == 0) = false := by simp; intro h; exact e (by rw [h]; rfl)
        clear FS HDL e
        go_wp2_with fail
        refine (unhide HS).mono ?_
        rintro e2 w2 ⟨o, rfl, rfl, hrr⟩
        go_wp2_with fail
        go_ret
        exact ⟨ret_int (unhide fin).symm, B1⟩
    · have fin := hide ((unhide FP) hz)
      have hz' : (q == 0) = false := by simp [hz]
      clear FP FS hq HX O1 HO HN HC
      go_wp2_with fail
      go_ret
      exact ⟨ret_int (unhide fin).symm, B1⟩
  · have fin := hide (fault_op h1 h2)
    have e1 : (c.op == 1) = false := by simp [h1]
    have n1 : (c.op != 1) = true := by simp [h1]
    have e2 : (c.op == 2) = false := by simp [h2]
    have n2 : (c.op != 2) = true := by simp [h2]
    clear HP HX HO HC h1 h2
    go_enter Try.func57, Try.ntmps57
    go_upto_region 1 with fail
    rw [← hW0]
    clear hW0
    go_wp2_with fail
    go_ret
    exact ⟨ret_int (unhide fin).symm, B0⟩

set_option maxRecDepth 100000 in
set_option maxHeartbeats 1000000 in
theorem specEdit_any (c : Ed) (va vb : Option Addr) (vc vd : Nat) (w : World) (hc : Cells w va vc c.path) (hd : Cells w vb vd c.x) (hn : c.small) :
    Calls Try.prog 55 #[.agg #[.int .i64 c.op, .slice va c.path.length vc, .slice vb c.x.length vd]] w fun e w' => e = .returned (.int .i64 (fault c)) ∧ Below w.heap.size w w' := by
  obtain ⟨W0, hW0⟩ : ∃ W0, W0 = w.alloc (.cells #[.int .i64 c.op, .slice va c.path.length vc, .slice vb c.x.length vd] 74) := ⟨_, rfl⟩
  have B0 : Below w.heap.size w W0 := by rw [hW0]; exact (Below.refl w.heap.size w).alloc (Nat.le_refl _) _
  have O0 : Own W0 w.heap.size 74 [.int .i64 c.op, .slice va c.path.length vc, .slice vb c.x.length vd] := by rw [hW0]; exact ⟨_, heap_alloc_new _ _, rfl⟩
  have q0 := O0.cell 0
  have q1 := O0.cell 1
  simp only [List.getElem?_cons_zero, List.getElem?_cons_succ] at q0 q1
  have HP := hide (specPathFault_cells va vc c.path W0 (hc.below B0) hn.1)
  have HX := hide (fun W (h : Below w.heap.size w W) => specFault_cells vb vd c.x W (hd.below h) hn.2)
  have HC := hide hc
  have hxl := hd.2.1
  have hxm := hd.1
  have HO := hide O0
  clear hc hd
  by_cases h1 : c.op = 1
  · have FP := hide (fault_path (e := c) (.inl h1))
    have FS := hide (fault_set (e := c) h1)
    rw [h1] at q0 hW0 HO ⊢
    clear h1
    go_enter Try.func55, Try.ntmps55
    go_upto_region 1 with fail
    rw [← hW0]
    clear hW0
    go_wp2_with fail
    refine (unhide HP).mono ?_
    rintro e w1 ⟨rfl, hb1⟩
    have B1 : Below w.heap.size w w1 := B0.trans (hb1.mono B0.size)
    have O1 := (unhide HO).below hb1 (unhide HO).lt
    clear HP q0 q1 hb1
    generalize hq : Pth.fault c.path = q at *
    by_cases hz : q = 0
    · subst hz
      have fin := hide ((unhide FS) rfl)
      have HV := hide ((unhide HX) w1 B1)
      have q0 := O1.cell 0
      have q2 := O1.cell 2
      simp only [List.getElem?_cons_zero, List.getElem?_cons_succ] at q0 q2
      clear FP FS hq HX O1 HO
      go_wp2_with fail
      refine (unhide HV).mono ?_
      rintro e w2 ⟨rfl, hb2⟩
      have B2 : Below w.heap.size w w2 := B1.trans (hb2.mono B1.size)
      clear HV hb2 q0 q2
      generalize M.valueFault c.x = r at *
      go_wp2_with fail
      go_ret
      exact ⟨ret_int (unhide fin).symm, B2⟩
    · have fin := hide ((unhide FP) hz)
      have hz' : (q == 0) = false := by simp [hz]
      clear FP FS hq HX O1 HO
      go_wp2_with fail
      go_ret
      exact ⟨ret_int (unhide fin).symm, B1⟩
  by_cases h2 : c.op = 2
  · have FP := hide (fault_path (e := c) (.inr h2))
    have FS := hide (fault_drop (e := c) h2)
    rw [h2] at q0 hW0 HO ⊢
    clear h1 h2
    go_enter Try.func55, Try.ntmps55
    go_upto_region 1 with fail
    rw [← hW0]
    clear hW0
    go_wp2_with fail
    refine (unhide HP).mono ?_
    rintro e w1 ⟨rfl, hb1⟩
    have B1 : Below w.heap.size w w1 := B0.trans (hb1.mono B0.size)
    have O1 := (unhide HO).below hb1 (unhide HO).lt
    clear HP q0 q1 hb1
    have HN := hide (fun h => Pth.first_n (p := c.path) h)
    generalize hq : Pth.fault c.path = q at *
    by_cases hz : q = 0
    · subst hz
      have q0 := O1.cell 0
      have q1 := O1.cell 1
      have q2 := O1.cell 2
      simp only [List.getElem?_cons_zero, List.getElem?_cons_succ] at q0 q1 q2
      have FS := hide ((unhide FS) rfl)
      have hp := (unhide HN) rfl
      have CC := (unhide HC).below B1
      clear FP hq HX O1 HO HN HC
      by_cases hx : 0 < c.x.length
      · have fin := hide (show fault c = 1 by rw [unhide FS, if_pos (.inl hx)])
        have hxI : (0 : Int) < (c.x.length : Int) := by omega
        clear FS hp CC
        go_wp2_with fail
        go_ret
        exact ⟨ret_int (unhide fin).symm, B1⟩
      obtain ⟨hp1, hp2, hp3⟩ := hp
      obtain ⟨cc1, cc2, cc3, cc4⟩ := CC
      have hx0 : c.x.length = 0 := by omega
      have FS := hide (show fault c = if c.path.length = 1 then 1 else 0 by rw [unhide FS]; by_cases e : c.path.length = 1 <;> simp [hx0, e])
      rw [hx0] at q2
      clear hx hx0 hxl hn
      obtain ⟨b, off, rfl, hb, hr⟩ : ∃ b off, va = some ⟨b, off, none⟩ ∧ b < w1.heap.size ∧ _root_.Go.Proofs.Ytoaibccmlmaknaa.Row w1 b off c.path := by
        rcases cc4 with e | e
        · rw [e] at hp1; simp at hp1
        · exact e
      obtain ⟨f0, f1, f2, f3, f4⟩ := hr 0 (by omega)
      simp only [Nat.zero_mul, Nat.add_zero] at f0 f1 f2 f3 f4
      have hpI : (0 : Int) < (c.path.length : Int) := by omega
      rw [hp3] at f4
      clear hr cc3 cc4
      by_cases e : c.path.length = 1
      · have fin := hide (show fault c = 1 by rw [unhide FS, if_pos e])
        rw [e] at f4 q1
        clear FS hp3 e hpI hp1 hp2 cc2
        simp only [Int.natCast_one, Int.sub_self] at f4
        go_wp2_with fail
        go_ret
        exact ⟨ret_int (unhide fin).symm, B1⟩
      · have fin := hide (show fault c = 0 by rw [unhide FS, if_neg e])
        have e' : (((c.path.length : Int) - 1) == 0) = false := by simp; intro h; exact e (by omega)
        obtain ⟨N, hN⟩ : ∃ N : Int, N = (c.path.length : Int) - 1 := ⟨_, rfl⟩
        rw [← hN] at f4 e'
        clear FS hp3 e hN
        go_wp2_with fail
        go_ret
        exact ⟨ret_int (unhide fin).symm, B1⟩
    · have fin := hide ((unhide FP) hz)
      have hz' : (q == 0) = false := by simp [hz]
      clear FP FS hq HX O1 HO HN HC
      go_wp2_with fail
      go_ret
      exact ⟨ret_int (unhide fin).symm, B1⟩
  · have fin := hide (fault_op h1 h2)
    have e1 : (c.op == 1) = false := by simp [h1]
    have n1 : (c.op != 1) = true := by simp [h1]
    have e2 : (c.op == 2) = false := by simp [h2]
    have n2 : (c.op != 2) = true := by simp [h2]
    clear HP HX HO HC h1 h2
    go_enter Try.func55, Try.ntmps55
    go_upto_region 1 with fail
    rw [← hW0]
    clear hW0
    go_wp2_with fail
    go_ret
    exact ⟨ret_int (unhide fin).symm, B0⟩

set_option maxRecDepth 100000 in
set_option maxHeartbeats 1000000 in
theorem implEdits_any (a : Option Addr) (cap : Nat) (l : List Ed) (w : World) (h : Arg w a cap l) (hn : l.length ≤ 1048576) (hv : ∀ i, i < l.length → (l.getD i zero).small) :
    Calls Try.prog 28 #[.slice a l.length cap] w fun e w' => e = .returned (.int .i64 (faults l)) ∧ Below w.heap.size w w' := by
  have hcap := h.2.1
  have hcm := h.1
  have HA := hide h
  have HV := hide hv
  clear h hv
  by_cases hm : 100 < l.length
  · have fin := hide (faults_many hm)
    have hmI : (100 : Int) < (l.length : Int) := by omega
    go_enter Try.func28, Try.ntmps28
    go_wp2_with fail
    go_ret
    exact ⟨ret_int (unhide fin).symm, Below.refl _ _⟩
  have FF := hide (faults_few hm)
  have hmI : ¬ (100 : Int) < (l.length : Int) := by omega
  have hl : l.length ≤ 100 := by omega
  clear hm
  go_enter Try.func28, Try.ntmps28
  go_wp2_with fail
  go_loopg [11] l.length (fun g s11 wr => ∃ k : Nat, Hid (g = l.length - k) ∧ s11 = .int .i64 k ∧ k ≤ l.length ∧ Hid (∀ j, j < k → fault (l.getD j zero) = 0) ∧ Below w.heap.size w wr)
  case atStart => exact ⟨0, rfl, rfl, by omega, fun j hj => absurd hj (by omega), Below.refl _ _⟩
  case round =>
    obtain ⟨k, hg, rfl, hk, hall, hbel⟩ := hrel
    by_cases hlt : k < l.length
    · have hltI : (k : Int) < (l.length : Int) := by omega
      obtain ⟨_, _, _, h4⟩ := (unhide HA).below hbel
      obtain ⟨b, off, rfl, hb, hr⟩ : ∃ b off, a = some ⟨b, off, none⟩ ∧ b < wr.heap.size ∧ ∀ i, i < l.length → ArgAt wr b (off + i * 3) (l.getD i zero) := by
        rcases h4 with e | e
        · rw [e] at hlt; simp at hlt
        · exact e
      obtain ⟨f0, ⟨va, vc, f1, hc⟩, vb, vd, f2, hd⟩ := hr k hlt
      have hsm := (unhide HV) k hlt
      have YES := hide (fun (h : fault (l.getD k zero) = 0) => (show ∀ j, j < k + 1 → fault (l.getD j zero) = 0 from fun j hj => by
        by_cases e : j = k
        · rw [e]; exact h
        · exact hall.out j (by omega)))
      have NO := hide (fun (h : fault (l.getD k zero) ≠ 0) => (unhide FF).trans (first_hit l k hlt hall.out h))
      clear hr hall FF HA
      generalize l.getD k zero = n at *
      have HQ := hide (fun y => implEdit_any n va vb vc vd (wr.alloc y) (hc.below ((Below.refl _ _).alloc (Nat.le_refl _) y)) (hd.below ((Below.refl _ _).alloc (Nat.le_refl _) y)) hsm)
      have HB := hide (fun y => hbel.alloc hbel.size y)
      clear hc hd hsm
      go_wp2_with fail
      refine ((unhide HQ) _).mono ?_
      rintro e w1 ⟨rfl, hb1⟩
      have B1 : Below w.heap.size w w1 := ((unhide HB) _).trans (hb1.mono ((unhide HB) _).size)
      clear HQ HB hb1 f0 f1 f2
      generalize fault n = q at *
      by_cases hz : q = 0
      · have Y := hide ((unhide YES) hz)
        subst hz
        clear NO YES
        go_wp2_with fail
        go_roundg (l.length - (k + 1))
        case rel => exact ⟨k + 1, rfl, by go_num, by omega, unhide Y, B1⟩
        case measure => have := hg.out; omega
      · have fin := hide ((unhide NO) hz)
        have hz' : (q == 0) = false := by simp [hz]
        clear NO YES hz
        go_wp2_with fail
        go_ret
        exact ⟨ret_int (unhide fin).symm, B1⟩
    · have hke : k = l.length := by omega
      have fin := hide ((unhide FF).trans (first_none l (by rw [← hke]; exact hall.out)))
      clear hke hall FF HA
      go_wp2_with fail
      go_ret
      exact ⟨ret_int (unhide fin).symm, hbel⟩

set_option maxRecDepth 100000 in
set_option maxHeartbeats 1000000 in
theorem specEdits_any (a : Option Addr) (cap : Nat) (l : List Ed) (w : World) (h : Arg w a cap l) (hn : l.length ≤ 1048576) (hv : ∀ i, i < l.length → (l.getD i zero).small) :
    Calls Try.prog 26 #[.slice a l.length cap] w fun e w' => e = .returned (.int .i64 (faults l)) ∧ Below w.heap.size w w' := by
  have hcap := h.2.1
  have hcm := h.1
  have HA := hide h
  have HV := hide hv
  clear h hv
  by_cases hm : 100 < l.length
  · have fin := hide (faults_many hm)
    have hmI : (100 : Int) < (l.length : Int) := by omega
    go_enter Try.func26, Try.ntmps26
    go_wp2_with fail
    go_ret
    exact ⟨ret_int (unhide fin).symm, Below.refl _ _⟩
  have FF := hide (faults_few hm)
  have hmI : ¬ (100 : Int) < (l.length : Int) := by omega
  have hl : l.length ≤ 100 := by omega
  clear hm
  go_enter Try.func26, Try.ntmps26
  go_wp2_with fail
  go_loopg [3] l.length (fun g s3 wr => ∃ k : Nat, Hid (g = l.length - k) ∧ s3 = .int .i64 k ∧ k ≤ l.length ∧ Hid (∀ j, j < k → fault (l.getD j zero) = 0) ∧ Below w.heap.size w wr)
  case atStart => exact ⟨0, rfl, rfl, by omega, fun j hj => absurd hj (by omega), Below.refl _ _⟩
  case round =>
    obtain ⟨k, hg, rfl, hk, hall, hbel⟩ := hrel
    by_cases hlt : k < l.length
    · have hltI : (k : Int) < (l.length : Int) := by omega
      obtain ⟨_, _, _, h4⟩ := (unhide HA).below hbel
      obtain ⟨b, off, rfl, hb, hr⟩ : ∃ b off, a = some ⟨b, off, none⟩ ∧ b < wr.heap.size ∧ ∀ i, i < l.length → ArgAt wr b (off + i * 3) (l.getD i zero) := by
        rcases h4 with e | e
        · rw [e] at hlt; simp at hlt
        · exact e
      obtain ⟨f0, ⟨va, vc, f1, hc⟩, vb, vd, f2, hd⟩ := hr k hlt
      have hsm := (unhide HV) k hlt
      have YES := hide (fun (h : fault (l.getD k zero) = 0) => (show ∀ j, j < k + 1 → fault (l.getD j zero) = 0 from fun j hj => by
        by_cases e : j = k
        · rw [e]; exact h
        · exact hall.out j (by omega)))
      have NO := hide (fun (h : fault (l.getD k zero) ≠ 0) => (unhide FF).trans (first_hit l k hlt hall.out h))
      clear hr hall FF HA
      generalize l.getD k zero = n at *
      have HQ := hide (specEdit_any n va vb vc vd wr hc hd hsm)
      clear hc hd hsm
      go_wp2_with fail
      refine (unhide HQ).mono ?_
      rintro e w1 ⟨rfl, hb1⟩
      have B1 : Below w.heap.size w w1 := hbel.trans (hb1.mono hbel.size)
      clear HQ hb1 f0 f1 f2
      generalize fault n = q at *
      by_cases hz : q = 0
      · have Y := hide ((unhide YES) hz)
        subst hz
        clear NO YES
        go_wp2_with fail
        go_roundg (l.length - (k + 1))
        case rel => exact ⟨k + 1, rfl, by go_num, by omega, unhide Y, B1⟩
        case measure => have := hg.out; omega
      · have fin := hide ((unhide NO) hz)
        have hz' : (q == 0) = false := by simp [hz]
        clear NO YES hz
        go_wp2_with fail
        go_ret
        exact ⟨ret_int (unhide fin).symm, B1⟩
    · have hke : k = l.length := by omega
      have fin := hide ((unhide FF).trans (first_none l (by rw [← hke]; exact hall.out)))
      clear hke hall FF HA
      go_wp2_with fail
      go_ret
      exact ⟨ret_int (unhide fin).symm, hbel⟩

theorem Row.arg {w : World} {b : Nat} {l : List Ed} (h : Row w b l) (hb : b < w.heap.size) (hn : l.length ≤ 1048576) (hok : ∀ e ∈ l, e.ok) (hv : ∀ i, i < l.length → (l.getD i zero).small) : Arg w (some ⟨b, 0, none⟩) l.length l := by
  refine ⟨by omega, Nat.le_refl _, hok, .inr ⟨b, 0, rfl, hb, fun i hi => ?_⟩⟩
  obtain ⟨f0, ⟨g, f1, hg, hr⟩, k, f2, hk, hs⟩ := h i hi
  have ho : (l.getD i zero).ok := hok _ (by rw [List.getD_eq_getElem?_getD, List.getElem?_eq_getElem hi]; exact List.getElem_mem _)
  have hs2 := hv i hi
  rw [Nat.zero_add]
  exact ⟨f0, ⟨_, _, f1, by have := hs2.1; omega, Nat.le_refl _, ho.2.1, .inr ⟨g, 0, rfl, hg, hr⟩⟩, _, _, f2, by have := hs2.2; omega, Nat.le_refl _, ho.2.2, .inr ⟨k, 0, rfl, hk, hs⟩⟩
end Ed
end Go.Proofs.Ytoaibccmlmaknaa
