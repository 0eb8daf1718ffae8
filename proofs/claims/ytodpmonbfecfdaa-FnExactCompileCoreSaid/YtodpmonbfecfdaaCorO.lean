/-
  spec.l6Node tells the code of a node of a core.
  spec.l6Order: the nodes of a core below one in their order, cut where there are too many.
-/
import Derived.Test.YtodpmonbfecfdaaCorB
import Derived.Test.YtodpmonbfecfdaaTreD
import Derived.Test.YtodpmonbfecfdaaFaultI
import Derived.Test.YtodpmonbfecfdaaKids
import Derived.Test.YtodpmonbfecfdaaTreH
import Derived.Deep.LoopGhost
namespace Go.Proofs.Ytodpmonbfecfdaa
open Go.RowKit
set_option linter.unusedVariables false
set_option linter.unusedSimpArgs false


theorem l6Kid_len (n : Co) (vg m k : Nat) (hk : k < 3) (w : World) : Calls Try.prog 32 #[.agg #[.int .i64 n.op, .int .i64 n.a, .int .i64 n.b, .int .i64 n.c, .int .i64 n.num, .slice (some ⟨vg, 0, none⟩) m m], .int .i64 k] w fun e w' => e = .returned (.int .i64 (Tr.kidAt (Co.nd n) k)) ∧ Below w.heap.size w w' := by
  have HB : Hid (∀ o, Below w.heap.size w (w.alloc o)) := fun o => (Below.refl _ _).alloc (Nat.le_refl _) o
  have hh : k = 0 ∨ k = 1 ∨ k = 2 := by omega
  rcases hh with rfl | rfl | rfl
  · refine (l6Kid_0 n.op n.a n.b n.c n.num _ rfl w).mono ?_
    rintro e w' ⟨rfl, rfl⟩; exact ⟨rfl, HB.out _⟩
  · refine (l6Kid_1 n.op n.a n.b n.c n.num _ rfl w).mono ?_
    rintro e w' ⟨rfl, rfl⟩; exact ⟨rfl, HB.out _⟩
  · refine (l6Kid_2 n.op n.a n.b n.c n.num _ rfl w).mono ?_
    rintro e w' ⟨rfl, rfl⟩; exact ⟨rfl, HB.out _⟩
theorem l6Kid_any (n : Co) (vg k : Nat) (hk : k < 3) (w : World) : Calls Try.prog 32 #[.agg #[.int .i64 n.op, .int .i64 n.a, .int .i64 n.b, .int .i64 n.c, .int .i64 n.num, .slice (some ⟨vg, 0, none⟩) n.val.length n.val.length], .int .i64 k] w fun e w' => e = .returned (.int .i64 (Tr.kidAt (Co.nd n) k)) ∧ Below w.heap.size w w' := l6Kid_len n vg n.val.length k hk w
theorem node_one {l : List Co} {i : Nat} {n : Co} (hn : n = l.getD i Co.zero) (h : ¬ (n.op < 1 ∨ 17 < n.op)) (hh : Co.hasVal n.op = false) (hl : 0 < n.val.length) : Co.nodeF l i = 1 := by
  cases hf : Co.formOk n i with
  | false => exact Co.node_1 hn h hf
  | true =>
    have hv : Co.valF n = 1 := (valF_no hh).trans (if_pos hl)
    rw [Co.node_v hn h hf (by rw [hv]; decide), hv]

set_option maxRecDepth 100000 in
set_option maxHeartbeats 4000000 in
theorem l6Node_early (b : Nat) (l : List Co) (i : Nat) (n : Co) (w : World) (hrow : Co.Row w b l) (hb : b < w.heap.size) (hi : i < l.length) (h900 : l.length ≤ 900) (hn : n = l.getD i Co.zero) (hlen : n.val.length ≤ 1048576) (hok : ∀ x ∈ n.val, x.ok) (hbad : (n.op < 1 ∨ 17 < n.op) ∨ (Co.high n.op = 0 ∧ n.num ≠ 0) ∨ (Co.hasVal n.op = false ∧ 0 < n.val.length)) :
    Calls Try.prog 27 #[.slice (some ⟨b, 0, none⟩) l.length l.length, .int .i64 i] w fun e w' => e = .returned (.int .i64 (Co.nodeF l i)) ∧ Below w.heap.size w w' := by
  have HI := hide hi
  have hiI : (i : Int) < (l.length : Int) := by omega
  obtain ⟨f0, f1, f2, f3, f4, vg, f5, hvg, hvr⟩ := hrow i hi
  rw [← hn] at f0 f1 f2 f3 f4 f5 hvr
  have HN := hide hn
  have HVR := hide hvr
  have HOK := hide hok
  clear hrow hn hvr hok
  obtain ⟨w1, hw1⟩ : ∃ w1, w1 = w.alloc (.cells #[.int .i64 n.op, .int .i64 n.a, .int .i64 n.b, .int .i64 n.c, .int .i64 n.num, .slice (some ⟨vg, 0, none⟩) n.val.length n.val.length] 48) := ⟨_, rfl⟩
  have B1 : Below w.heap.size w w1 := by rw [hw1]; exact (Below.refl _ _).alloc (Nat.le_refl _) _
  have N1 : Own w1 w.heap.size 48 [.int .i64 n.op, .int .i64 n.a, .int .i64 n.b, .int .i64 n.c, .int .i64 n.num, .slice (some ⟨vg, 0, none⟩) n.val.length n.val.length] := by rw [hw1]; exact ⟨_, heap_alloc_new _ _, rfl⟩
  by_cases hop : n.op < 1 ∨ 17 < n.op
  · have fin := hide (Co.node_6 (unhide HN) hop)
    have hin : (decide (1 ≤ n.op) && decide (n.op ≤ 17)) = false := by
      rw [Bool.and_eq_false_iff, decide_eq_false_iff_not, decide_eq_false_iff_not]; omega
    clear hbad hop
    go_enter Try.func27, Try.ntmps27
    go_wp2_with fail
    rw [← hw1]
    clear hw1 f0 f1 f2 f3 f4 f5
    have c0 := N1.cell 0
    have c1 := N1.cell 1
    have c2 := N1.cell 2
    have c3 := N1.cell 3
    have c4 := N1.cell 4
    have c5 := N1.cell 5
    simp only [List.getElem?_cons_zero, List.getElem?_cons_succ] at c0 c1 c2 c3 c4 c5
    refine (l1In_tr _ _ _ _).mono ?_
    rintro e w2 ⟨rfl, hw2⟩
    subst w2
    rw [hin]
    go_wp2_with fail
    go_ret
    exact ⟨ret_int (unhide fin).symm, B1⟩
  have HOP := hide hop
  have hin : (decide (1 ≤ n.op) && decide (n.op ≤ 17)) = true := by simp; omega
  have HM := hide (fun wq => l6Nums_any n.op wq (by omega) (by omega))
  have HX := hide (fun wq => l6HasVal_any n.op wq)
  by_cases hz : Co.high n.op = 0 ∧ n.num ≠ 0
  · have fin := hide (Co.node_1 (unhide HN) (unhide HOP) (Co.form_no (.inr hz)))
    have g1 : (Co.high n.op == 0) = true := by simp [hz.1]
    have g2 : (n.num != 0) = true := by simpa using hz.2
    clear hbad hop hz
    go_enter Try.func27, Try.ntmps27
    go_wp2_with fail
    rw [← hw1]
    clear hw1 f0 f1 f2 f3 f4 f5
    have c0 := N1.cell 0
    have c1 := N1.cell 1
    have c2 := N1.cell 2
    have c3 := N1.cell 3
    have c4 := N1.cell 4
    have c5 := N1.cell 5
    simp only [List.getElem?_cons_zero, List.getElem?_cons_succ] at c0 c1 c2 c3 c4 c5
    refine (l1In_tr _ _ _ _).mono ?_
    rintro e w2 ⟨rfl, hw2⟩
    subst w2
    rw [hin]
    go_wp2_with fail
    refine ((unhide HM) _).mono ?_
    rintro e w2 ⟨rfl, hw2⟩
    subst w2
    go_wp2_with fail
    go_ret
    exact ⟨ret_int (unhide fin).symm, B1⟩
  have hv : Co.hasVal n.op = false ∧ 0 < n.val.length := by
    rcases hbad with h | h | h
    · exact absurd h hop
    · exact absurd h hz
    · exact h
  have fin := hide (node_one (unhide HN) (unhide HOP) hv.1 hv.2)
  have hcond : (Co.high n.op == 0) = false ∨ ((Co.high n.op == 0) = true ∧ (n.num != 0) = false) := by
    by_cases q : Co.high n.op = 0
    · right; exact ⟨by simp [q], by simp; omega⟩
    · left; simpa using q
  have hT := hv.1
  have g3 : (n.val.length : Int) > 0 := by omega
  clear hbad hop hz hv
  go_enter Try.func27, Try.ntmps27
  go_wp2_with fail
  rw [← hw1]
  clear hw1 f0 f1 f2 f3 f4 f5
  have c0 := N1.cell 0
  have c1 := N1.cell 1
  have c2 := N1.cell 2
  have c3 := N1.cell 3
  have c4 := N1.cell 4
  have c5 := N1.cell 5
  simp only [List.getElem?_cons_zero, List.getElem?_cons_succ] at c0 c1 c2 c3 c4 c5
  refine (l1In_tr _ _ _ _).mono ?_
  rintro e w2 ⟨rfl, hw2⟩
  subst w2
  rw [hin]
  go_wp2_with fail
  refine ((unhide HM) _).mono ?_
  rintro e w2 ⟨rfl, hw2⟩
  subst w2
  rcases hcond with g1 | ⟨g1, g2⟩
  all_goals
    go_wp2_with fail
    refine ((unhide HX) _).mono ?_
    rintro e w2 ⟨rfl, hw2⟩
    subst w2
    rw [hT]
    go_wp2_with fail
    go_ret
    exact ⟨ret_int (unhide fin).symm, B1⟩

set_option maxRecDepth 100000 in
set_option maxHeartbeats 4000000 in
theorem l6Node_val (b : Nat) (l : List Co) (i : Nat) (n : Co) (w : World) (hrow : Co.Row w b l) (hb : b < w.heap.size) (hi : i < l.length) (h900 : l.length ≤ 900) (hn : n = l.getD i Co.zero) (hlen : n.val.length ≤ 1048576) (hok : ∀ x ∈ n.val, x.ok) (hop : ¬ (n.op < 1 ∨ 17 < n.op)) (hz2 : Co.high n.op ≠ 0 ∨ n.num = 0) (hT : Co.hasVal n.op = true) :
    Calls Try.prog 27 #[.slice (some ⟨b, 0, none⟩) l.length l.length, .int .i64 i] w fun e w' => e = .returned (.int .i64 (Co.nodeF l i)) ∧ Below w.heap.size w w' := by
  have hiI : (i : Int) < (l.length : Int) := by omega
  obtain ⟨f0, f1, f2, f3, f4, vg, f5, hvg, hvr⟩ := hrow i hi
  rw [← hn] at f0 f1 f2 f3 f4 f5 hvr
  have HN := hide hn
  have HVR := hide hvr
  have HOK := hide hok
  clear hrow hn hvr hok
  obtain ⟨w1, hw1⟩ : ∃ w1, w1 = w.alloc (.cells #[.int .i64 n.op, .int .i64 n.a, .int .i64 n.b, .int .i64 n.c, .int .i64 n.num, .slice (some ⟨vg, 0, none⟩) n.val.length n.val.length] 48) := ⟨_, rfl⟩
  have B1 : Below w.heap.size w w1 := by rw [hw1]; exact (Below.refl _ _).alloc (Nat.le_refl _) _
  have N1 : Own w1 w.heap.size 48 [.int .i64 n.op, .int .i64 n.a, .int .i64 n.b, .int .i64 n.c, .int .i64 n.num, .slice (some ⟨vg, 0, none⟩) n.val.length n.val.length] := by rw [hw1]; exact ⟨_, heap_alloc_new _ _, rfl⟩
  have hcond : (Co.high n.op == 0) = false ∨ ((Co.high n.op == 0) = true ∧ (n.num != 0) = false) := by
    by_cases q : Co.high n.op = 0
    · right; exact ⟨by simp [q], by simp; omega⟩
    · left; simpa using q
  have HOP := hide hop
  have HZ := hide hz2
  have hin : (decide (1 ≤ n.op) && decide (n.op ≤ 17)) = true := by simp; omega
  have HK := hide (fun wq => l6Kids_any n.op wq (by omega) (by omega))
  have HX := hide (fun wq => l6HasVal_any n.op wq)
  have HM := hide (fun wq => l6Nums_any n.op wq (by omega) (by omega))
  have HKL := hide (Co.kids_le n.op)
  have HF := hide (fun wq (hrq : Row wq vg 0 n.val) hgq => specFault_any n.val vg 0 n.val.length wq hrq hgq hlen (Nat.le_refl _) (unhide HOK))
  have HT := hide hT
  clear hop hz2 
  go_enter Try.func27, Try.ntmps27
  go_wp2_with fail
  rw [← hw1]
  clear hw1 f0 f1 f2 f3 f4 f5
  have c0 := N1.cell 0
  have c1 := N1.cell 1
  have c2 := N1.cell 2
  have c3 := N1.cell 3
  have c4 := N1.cell 4
  have c5 := N1.cell 5
  simp only [List.getElem?_cons_zero, List.getElem?_cons_succ] at c0 c1 c2 c3 c4 c5
  refine (l1In_tr _ _ _ _).mono ?_
  rintro e w2 ⟨rfl, hw2⟩
  subst w2
  rw [hin]
  go_wp2_with fail
  refine ((unhide HM) _).mono ?_
  rintro e w2 ⟨rfl, hw2⟩
  subst w2
  rcases hcond with g1 | ⟨g1, g2⟩
  all_goals
    go_wp2_with fail
    refine ((unhide HX) _).mono ?_
    rintro e w2 ⟨rfl, hw2⟩
    subst w2
    rw [hT]
    go_wp2_with fail
    clear c0 c1 c2 c3 c4 c5
    go_loopg [8] 3 (fun gh s8 wr => ∃ k : Nat, Hid (gh = 3 - k) ∧ s8 = .int .i64 k ∧ k ≤ 3 ∧ Hid (∀ j, j < k → Tr.one (decide (j < Co.kids n.op)) (Tr.kidAt (Co.nd n) j) i = true) ∧ Below w1.heap.size w1 wr)
    case atStart => exact ⟨0, rfl, rfl, by omega, fun j hj => absurd hj (by omega), Below.refl _ _⟩
    case round =>
      obtain ⟨k, hg, rfl, hk, hall, hbel⟩ := hrel
      have N2 := N1.below hbel N1.lt
      have c0 := N2.cell 0
      have c1 := N2.cell 1
      have c2 := N2.cell 2
      have c3 := N2.cell 3
      have c4 := N2.cell 4
      have c5 := N2.cell 5
      simp only [List.getElem?_cons_zero, List.getElem?_cons_succ] at c0 c1 c2 c3 c4 c5
      by_cases hlt : k < 3
      · have hbad := hide (fun h => Co.node_1 (unhide HN) (unhide HOP) (Co.form_no (.inl (Tr.links_bad (n := Co.nd n) (ks := Co.kids n.op) (i := i) hlt h))))
        have hnext : Hid (Tr.one (decide (k < Co.kids n.op)) (Tr.kidAt (Co.nd n) k) i = true → ∀ j, j < k + 1 → Tr.one (decide (j < Co.kids n.op)) (Tr.kidAt (Co.nd n) j) i = true) := fun h j hj => by
          by_cases e : j = k
          · subst e; exact h
          · exact hall.out j (by omega)
        have hltI : (k : Int) < 3 := by omega
        have HKD := hide (fun wq => l6Kid_any n vg k hlt wq)
        clear hlt
        go_wp2_with fail
        refine ((unhide HKD) _).mono ?_
        rintro e w3 ⟨rfl, hb3⟩
        have B3 : Below w1.heap.size w1 w3 := hbel.trans (hb3.mono hbel.size)
        have N3 := N2.below hb3 N2.lt
        clear c0 c1 c2 c3 c4 c5 N2
        have c0 := N3.cell 0
        simp only [List.getElem?_cons_zero] at c0
        have Bw : Below w.heap.size w w3 := B1.trans (B3.mono B1.size)
        generalize Tr.kidAt (Co.nd n) k = x at *
        go_wp2_with fail
        refine ((unhide HK) _).mono ?_
        rintro e w4 ⟨rfl, hw4⟩
        subst w4
        by_cases hks : (Co.kids n.op : Int) ≤ k
        · have g5 : decide ((Co.kids n.op : Int) ≤ (k : Int)) = true := decide_eq_true hks
          have g6 : decide ((k : Int) < (Co.kids n.op : Int)) = false := decide_eq_false (by omega)
          have hd : decide (k < Co.kids n.op) = false := decide_eq_false (by omega)
          have hks2 : Co.kids n.op ≤ k := by omega
          rw [hd] at hbad hnext
          clear hd
          by_cases hx : x = 0
          · have hn2 := hide (hnext.out (by simp [Tr.one, hx]))
            have g7 : (x != 0) = false := by simp [hx]
            clear hx hnext hbad
            go_wp2_with fail
            refine ((unhide HK) _).mono ?_
            rintro e w4 ⟨rfl, hw4⟩
            subst w4
            go_wp2_with fail
            go_roundg (3 - (k + 1))
            case rel => exact ⟨k + 1, rfl, by go_num, by omega, unhide hn2, B3⟩
            case measure => have := hg.out; omega
          · have fin := hide ((unhide hbad) (by simp [Tr.one, hx]))
            have g7 : (x != 0) = true := by simpa using hx
            clear hx hnext hbad
            go_wp2_with fail
            go_ret
            exact ⟨ret_int (unhide fin).symm, Bw⟩
        · have g5 : decide ((Co.kids n.op : Int) ≤ (k : Int)) = false := decide_eq_false hks
          have g6 : decide ((k : Int) < (Co.kids n.op : Int)) = true := decide_eq_true (by omega)
          have hks3 : (k : Int) < (Co.kids n.op : Int) := by omega
          have hd : decide (k < Co.kids n.op) = true := decide_eq_true (by omega)
          have hks2 : k < Co.kids n.op := by omega
          rw [hd] at hbad hnext
          clear hd
          go_wp2_with fail
          refine ((unhide HK) _).mono ?_
          rintro e w4 ⟨rfl, hw4⟩
          subst w4
          go_wp2_with fail
          refine (l1In_tr _ _ _ _).mono ?_
          rintro e w4 ⟨rfl, hw4⟩
          subst w4
          cases hq : (decide (0 ≤ x) && decide (x ≤ (i : Int) - 1)) with
          | true =>
            have hn2 := hide (hnext.out (by simp only [Bool.and_eq_true, decide_eq_true_eq] at hq; simp [Tr.one]; omega))
            clear hnext hbad
            go_wp2_with fail
            go_roundg (3 - (k + 1))
            case rel => exact ⟨k + 1, rfl, by go_num, by omega, unhide hn2, B3⟩
            case measure => have := hg.out; omega
          | false =>
            have fin := hide ((unhide hbad) (by simp only [Bool.and_eq_false_iff, decide_eq_false_iff_not] at hq; simp [Tr.one]; omega))
            clear hnext hbad
            go_wp2_with fail
            go_ret
            exact ⟨ret_int (unhide fin).symm, Bw⟩
      · have hke : k = 3 := by omega
        subst hke
        have fm := hide (Co.form_yes (n := n) (i := i) (Tr.links_all (n := Co.nd n) hall.out) (unhide HZ))
        have Bw : Below w.heap.size w wr := B1.trans (hbel.mono B1.size)
        clear hall
        go_wp2_with fail
        refine ((unhide HX) _).mono ?_
        rintro e w5 ⟨rfl, hw5⟩
        subst w5
        rw [unhide HT]
        have HR2 := hide ((unhide HVR).below Bw hvg)
        have HF2 := hide ((unhide HF) wr (unhide HR2) (Nat.lt_of_lt_of_le hvg Bw.size))
        go_wp2_with fail
        refine (unhide HF2).mono ?_
        rintro e w5 ⟨rfl, hb5⟩
        have B5 : Below w.heap.size w w5 := Bw.trans (hb5.mono Bw.size)
        have N5 := N2.below hb5 N2.lt
        clear c0 c1 c2 c3 c4 c5 N2 HF2
        have c0 := N5.cell 0
        have c1 := N5.cell 1
        have c2 := N5.cell 2
        have c3 := N5.cell 3
        have c4 := N5.cell 4
        have c5 := N5.cell 5
        simp only [List.getElem?_cons_zero, List.getElem?_cons_succ] at c0 c1 c2 c3 c4 c5
        by_cases hf : M.valueFault n.val = 0
        · rw [hf]
          have hl1 := (M.fault_zero hf).1
          have HFZ := hide hf
          obtain ⟨m0, _, _, _, _⟩ := (unhide HR2).below hb5 (Nat.lt_of_lt_of_le hvg Bw.size) 0 (by omega)
          simp only [Nat.zero_mul, Nat.add_zero] at m0
          have hlI : (0 : Int) < (n.val.length : Int) := by omega
          clear hf
          by_cases h11 : n.op = 11
          · have g11 : (n.op == 11) = true := by simp [h11]
            by_cases h4 : (n.val.getD 0 M.zero).kind = 4
            · have HVF := hide (valF_ok (unhide HT) (unhide HFZ) (fun h => h.2 h4))
              rw [h4] at m0
              clear h11 h4
              go_wp2_with fail
              refine (l1In_tr _ _ _ _).mono ?_
              rintro e w6 ⟨rfl, hw6⟩
              subst w6
              cases hq : (decide (Co.low n.op ≤ n.num) && decide (n.num ≤ Co.high n.op)) with
              | false =>
                have fin := hide (Co.node_3 (unhide HN) (unhide HOP) (unhide fm) (unhide HVF) (by simp only [Bool.and_eq_false_iff, decide_eq_false_iff_not] at hq; omega))
                go_wp2_with fail
                go_ret
                exact ⟨ret_int (unhide fin).symm, B5⟩
              | true =>
                have fin := hide (Co.node_0 (unhide HN) (unhide HOP) (unhide fm) (unhide HVF) (by simp only [Bool.and_eq_true, decide_eq_true_eq] at hq; omega))
                go_wp2_with fail
                go_ret
                exact ⟨ret_int (unhide fin).symm, B5⟩
            · have hvk := valF_kind (unhide HT) (unhide HFZ) h11 h4
              have fin := hide ((Co.node_v (unhide HN) (unhide HOP) (unhide fm) (by rw [hvk]; decide)).trans hvk)
              have g4 : ((n.val.getD 0 M.zero).kind != 4) = true := by simpa using h4
              generalize (n.val.getD 0 M.zero).kind = kk at *
              clear h11 h4 hvk
              go_wp2_with fail
              go_ret
              exact ⟨ret_int (unhide fin).symm, B5⟩
          · have g11 : (n.op == 11) = false := by simpa using h11
            have HVF := hide (valF_ok (unhide HT) (unhide HFZ) (fun h => h11 h.1))
            clear h11
            go_wp2_with fail
            refine (l1In_tr _ _ _ _).mono ?_
            rintro e w6 ⟨rfl, hw6⟩
            subst w6
            cases hq : (decide (Co.low n.op ≤ n.num) && decide (n.num ≤ Co.high n.op)) with
            | false =>
              have fin := hide (Co.node_3 (unhide HN) (unhide HOP) (unhide fm) (unhide HVF) (by simp only [Bool.and_eq_false_iff, decide_eq_false_iff_not] at hq; omega))
              go_wp2_with fail
              go_ret
              exact ⟨ret_int (unhide fin).symm, B5⟩
            | true =>
              have fin := hide (Co.node_0 (unhide HN) (unhide HOP) (unhide fm) (unhide HVF) (by simp only [Bool.and_eq_true, decide_eq_true_eq] at hq; omega))
              go_wp2_with fail
              go_ret
              exact ⟨ret_int (unhide fin).symm, B5⟩
        · have hvk := valF_bad (unhide HT) hf
          have fin := hide ((Co.node_v (unhide HN) (unhide HOP) (unhide fm) (by rw [hvk]; exact hf)).trans hvk)
          clear hvk
          generalize M.valueFault n.val = q at *
          have g12 : (q != 0) = true := by simpa using hf
          clear hf
          go_wp2_with fail
          go_ret
          exact ⟨ret_int (unhide fin).symm, B5⟩

set_option maxRecDepth 100000 in
set_option maxHeartbeats 4000000 in
theorem l6Node_no (b : Nat) (l : List Co) (i : Nat) (n : Co) (w : World) (hrow : Co.Row w b l) (hb : b < w.heap.size) (hi : i < l.length) (h900 : l.length ≤ 900) (hn : n = l.getD i Co.zero) (hlen : n.val.length ≤ 1048576) (hok : ∀ x ∈ n.val, x.ok) (hop : ¬ (n.op < 1 ∨ 17 < n.op)) (hz2 : Co.high n.op ≠ 0 ∨ n.num = 0) (hT : Co.hasVal n.op = false) (hl0 : n.val.length = 0) :
    Calls Try.prog 27 #[.slice (some ⟨b, 0, none⟩) l.length l.length, .int .i64 i] w fun e w' => e = .returned (.int .i64 (Co.nodeF l i)) ∧ Below w.heap.size w w' := by
  have hiI : (i : Int) < (l.length : Int) := by omega
  obtain ⟨f0, f1, f2, f3, f4, vg, f5, hvg, hvr⟩ := hrow i hi
  rw [← hn] at f0 f1 f2 f3 f4 f5 hvr
  have HN := hide hn
  have HVR := hide hvr
  have HOK := hide hok
  clear hrow hn hvr hok
  rw [hl0] at f5
  obtain ⟨w1, hw1⟩ : ∃ w1, w1 = w.alloc (.cells #[.int .i64 n.op, .int .i64 n.a, .int .i64 n.b, .int .i64 n.c, .int .i64 n.num, .slice (some ⟨vg, 0, none⟩) 0 0] 48) := ⟨_, rfl⟩
  have B1 : Below w.heap.size w w1 := by rw [hw1]; exact (Below.refl _ _).alloc (Nat.le_refl _) _
  have N1 : Own w1 w.heap.size 48 [.int .i64 n.op, .int .i64 n.a, .int .i64 n.b, .int .i64 n.c, .int .i64 n.num, .slice (some ⟨vg, 0, none⟩) 0 0] := by rw [hw1]; exact ⟨_, heap_alloc_new _ _, rfl⟩
  have hcond : (Co.high n.op == 0) = false ∨ ((Co.high n.op == 0) = true ∧ (n.num != 0) = false) := by
    by_cases q : Co.high n.op = 0
    · right; exact ⟨by simp [q], by simp; omega⟩
    · left; simpa using q
  have HOP := hide hop
  have HZ := hide hz2
  have hin : (decide (1 ≤ n.op) && decide (n.op ≤ 17)) = true := by simp; omega
  have HK := hide (fun wq => l6Kids_any n.op wq (by omega) (by omega))
  have HX := hide (fun wq => l6HasVal_any n.op wq)
  have HM := hide (fun wq => l6Nums_any n.op wq (by omega) (by omega))
  have HKL := hide (Co.kids_le n.op)
  have HVF := hide (show Co.valF n = 0 from (valF_no hT).trans (if_neg (by omega)))
  have HT := hide hT
  clear hop hz2 hl0
  go_enter Try.func27, Try.ntmps27
  go_wp2_with fail
  rw [← hw1]
  clear hw1 f0 f1 f2 f3 f4 f5
  have c0 := N1.cell 0
  have c1 := N1.cell 1
  have c2 := N1.cell 2
  have c3 := N1.cell 3
  have c4 := N1.cell 4
  have c5 := N1.cell 5
  simp only [List.getElem?_cons_zero, List.getElem?_cons_succ] at c0 c1 c2 c3 c4 c5
  refine (l1In_tr _ _ _ _).mono ?_
  rintro e w2 ⟨rfl, hw2⟩
  subst w2
  rw [hin]
  go_wp2_with fail
  refine ((unhide HM) _).mono ?_
  rintro e w2 ⟨rfl, hw2⟩
  subst w2
  rcases hcond with g1 | ⟨g1, g2⟩
  all_goals
    go_wp2_with fail
    refine ((unhide HX) _).mono ?_
    rintro e w2 ⟨rfl, hw2⟩
    subst w2
    rw [hT]
    go_wp2_with fail
    clear c0 c1 c2 c3 c4 c5
    go_loopg [8] 3 (fun gh s8 wr => ∃ k : Nat, Hid (gh = 3 - k) ∧ s8 = .int .i64 k ∧ k ≤ 3 ∧ Hid (∀ j, j < k → Tr.one (decide (j < Co.kids n.op)) (Tr.kidAt (Co.nd n) j) i = true) ∧ Below w1.heap.size w1 wr)
    case atStart => exact ⟨0, rfl, rfl, by omega, fun j hj => absurd hj (by omega), Below.refl _ _⟩
    case round =>
      obtain ⟨k, hg, rfl, hk, hall, hbel⟩ := hrel
      have N2 := N1.below hbel N1.lt
      have c0 := N2.cell 0
      have c1 := N2.cell 1
      have c2 := N2.cell 2
      have c3 := N2.cell 3
      have c4 := N2.cell 4
      have c5 := N2.cell 5
      simp only [List.getElem?_cons_zero, List.getElem?_cons_succ] at c0 c1 c2 c3 c4 c5
      by_cases hlt : k < 3
      · have hbad := hide (fun h => Co.node_1 (unhide HN) (unhide HOP) (Co.form_no (.inl (Tr.links_bad (n := Co.nd n) (ks := Co.kids n.op) (i := i) hlt h))))
        have hnext : Hid (Tr.one (decide (k < Co.kids n.op)) (Tr.kidAt (Co.nd n) k) i = true → ∀ j, j < k + 1 → Tr.one (decide (j < Co.kids n.op)) (Tr.kidAt (Co.nd n) j) i = true) := fun h j hj => by
          by_cases e : j = k
          · subst e; exact h
          · exact hall.out j (by omega)
        have hltI : (k : Int) < 3 := by omega
        have HKD := hide (fun wq => l6Kid_len n vg 0 k hlt wq)
        clear hlt
        go_wp2_with fail
        refine ((unhide HKD) _).mono ?_
        rintro e w3 ⟨rfl, hb3⟩
        have B3 : Below w1.heap.size w1 w3 := hbel.trans (hb3.mono hbel.size)
        have N3 := N2.below hb3 N2.lt
        clear c0 c1 c2 c3 c4 c5 N2
        have c0 := N3.cell 0
        simp only [List.getElem?_cons_zero] at c0
        have Bw : Below w.heap.size w w3 := B1.trans (B3.mono B1.size)
        generalize Tr.kidAt (Co.nd n) k = x at *
        go_wp2_with fail
        refine ((unhide HK) _).mono ?_
        rintro e w4 ⟨rfl, hw4⟩
        subst w4
        by_cases hks : (Co.kids n.op : Int) ≤ k
        · have g5 : decide ((Co.kids n.op : Int) ≤ (k : Int)) = true := decide_eq_true hks
          have g6 : decide ((k : Int) < (Co.kids n.op : Int)) = false := decide_eq_false (by omega)
          have hd : decide (k < Co.kids n.op) = false := decide_eq_false (by omega)
          have hks2 : Co.kids n.op ≤ k := by omega
          rw [hd] at hbad hnext
          clear hd
          by_cases hx : x = 0
          · have hn2 := hide (hnext.out (by simp [Tr.one, hx]))
            have g7 : (x != 0) = false := by simp [hx]
            clear hx hnext hbad
            go_wp2_with fail
            refine ((unhide HK) _).mono ?_
            rintro e w4 ⟨rfl, hw4⟩
            subst w4
            go_wp2_with fail
            go_roundg (3 - (k + 1))
            case rel => exact ⟨k + 1, rfl, by go_num, by omega, unhide hn2, B3⟩
            case measure => have := hg.out; omega
          · have fin := hide ((unhide hbad) (by simp [Tr.one, hx]))
            have g7 : (x != 0) = true := by simpa using hx
            clear hx hnext hbad
            go_wp2_with fail
            go_ret
            exact ⟨ret_int (unhide fin).symm, Bw⟩
        · have g5 : decide ((Co.kids n.op : Int) ≤ (k : Int)) = false := decide_eq_false hks
          have g6 : decide ((k : Int) < (Co.kids n.op : Int)) = true := decide_eq_true (by omega)
          have hks3 : (k : Int) < (Co.kids n.op : Int) := by omega
          have hd : decide (k < Co.kids n.op) = true := decide_eq_true (by omega)
          have hks2 : k < Co.kids n.op := by omega
          rw [hd] at hbad hnext
          clear hd
          go_wp2_with fail
          refine ((unhide HK) _).mono ?_
          rintro e w4 ⟨rfl, hw4⟩
          subst w4
          go_wp2_with fail
          refine (l1In_tr _ _ _ _).mono ?_
          rintro e w4 ⟨rfl, hw4⟩
          subst w4
          cases hq : (decide (0 ≤ x) && decide (x ≤ (i : Int) - 1)) with
          | true =>
            have hn2 := hide (hnext.out (by simp only [Bool.and_eq_true, decide_eq_true_eq] at hq; simp [Tr.one]; omega))
            clear hnext hbad
            go_wp2_with fail
            go_roundg (3 - (k + 1))
            case rel => exact ⟨k + 1, rfl, by go_num, by omega, unhide hn2, B3⟩
            case measure => have := hg.out; omega
          | false =>
            have fin := hide ((unhide hbad) (by simp only [Bool.and_eq_false_iff, decide_eq_false_iff_not] at hq; simp [Tr.one]; omega))
            clear hnext hbad
            go_wp2_with fail
            go_ret
            exact ⟨ret_int (unhide fin).symm, Bw⟩
      · have hke : k = 3 := by omega
        subst hke
        have fm := hide (Co.form_yes (n := n) (i := i) (Tr.links_all (n := Co.nd n) hall.out) (unhide HZ))
        have Bw : Below w.heap.size w wr := B1.trans (hbel.mono B1.size)
        clear hall
        go_wp2_with fail
        refine ((unhide HX) _).mono ?_
        rintro e w5 ⟨rfl, hw5⟩
        subst w5
        rw [unhide HT]
        go_wp2_with fail
        refine (l1In_tr _ _ _ _).mono ?_
        rintro e w6 ⟨rfl, hw6⟩
        subst w6
        cases hq : (decide (Co.low n.op ≤ n.num) && decide (n.num ≤ Co.high n.op)) with
        | false =>
          have fin := hide (Co.node_3 (unhide HN) (unhide HOP) (unhide fm) (unhide HVF) (by simp only [Bool.and_eq_false_iff, decide_eq_false_iff_not] at hq; omega))
          go_wp2_with fail
          go_ret
          exact ⟨ret_int (unhide fin).symm, Bw⟩
        | true =>
          have fin := hide (Co.node_0 (unhide HN) (unhide HOP) (unhide fm) (unhide HVF) (by simp only [Bool.and_eq_true, decide_eq_true_eq] at hq; omega))
          go_wp2_with fail
          go_ret
          exact ⟨ret_int (unhide fin).symm, Bw⟩

theorem l6Node_any (b : Nat) (l : List Co) (i : Nat) (n : Co) (w : World) (hrow : Co.Row w b l) (hb : b < w.heap.size) (hi : i < l.length) (h900 : l.length ≤ 900) (hn : n = l.getD i Co.zero) (hlen : n.val.length ≤ 1048576) (hok : ∀ x ∈ n.val, x.ok) :
    Calls Try.prog 27 #[.slice (some ⟨b, 0, none⟩) l.length l.length, .int .i64 i] w fun e w' => e = .returned (.int .i64 (Co.nodeF l i)) ∧ Below w.heap.size w w' := by
  by_cases hop : n.op < 1 ∨ 17 < n.op
  · exact l6Node_early b l i n w hrow hb hi h900 hn hlen hok (.inl hop)
  by_cases hz : Co.high n.op = 0 ∧ n.num ≠ 0
  · exact l6Node_early b l i n w hrow hb hi h900 hn hlen hok (.inr (.inl hz))
  cases hT : Co.hasVal n.op with
  | true => exact l6Node_val b l i n w hrow hb hi h900 hn hlen hok hop (by omega) hT
  | false =>
    by_cases hl : 0 < n.val.length
    · exact l6Node_early b l i n w hrow hb hi h900 hn hlen hok (.inr (.inr ⟨hT, hl⟩))
    · exact l6Node_no b l i n w hrow hb hi h900 hn hlen hok hop (by omega) hT (by omega)

end Go.Proofs.Ytodpmonbfecfdaa

namespace Go.Proofs.Ytodpmonbfecfdaa
open Go.RowKit
set_option linter.unusedVariables false
set_option linter.unusedSimpArgs false


/-- The fields of the nodes of a core alone. -/
def Co.Flat (w : World) (b : Nat) (l : List Co) : Prop := ∀ i, i < l.length → w.cell? ⟨b, i * 6, none⟩ = some (.int .i64 (l.getD i Co.zero).op) ∧ w.cell? ⟨b, i * 6 + 1, none⟩ = some (.int .i64 (l.getD i Co.zero).a) ∧ w.cell? ⟨b, i * 6 + 2, none⟩ = some (.int .i64 (l.getD i Co.zero).b) ∧ w.cell? ⟨b, i * 6 + 3, none⟩ = some (.int .i64 (l.getD i Co.zero).c) ∧ w.cell? ⟨b, i * 6 + 4, none⟩ = some (.int .i64 (l.getD i Co.zero).num) ∧ ∃ g : Nat, w.cell? ⟨b, i * 6 + 5, none⟩ = some (.slice (some ⟨g, 0, none⟩) (l.getD i Co.zero).val.length (l.getD i Co.zero).val.length)
theorem Co.Row.flat {w : World} {b : Nat} {l : List Co} (h : Co.Row w b l) : Co.Flat w b l := fun i hi => by
  obtain ⟨h0, h1, h2, h3, h4, g, h5, _, _⟩ := h i hi
  exact ⟨h0, h1, h2, h3, h4, g, h5⟩
theorem Co.Flat.below {B : Nat} {w w' : World} {b : Nat} {l : List Co} (h : Co.Flat w b l) (hb : Below B w w') (hB : b < B) : Co.Flat w' b l := by
  intro i hi
  obtain ⟨h0, h1, h2, h3, h4, g, h5⟩ := h i hi
  exact ⟨(hb.cell (by exact hB)).trans h0, (hb.cell (by exact hB)).trans h1, (hb.cell (by exact hB)).trans h2, (hb.cell (by exact hB)).trans h3, (hb.cell (by exact hB)).trans h4, g, (hb.cell (by exact hB)).trans h5⟩

/-- What l6Order of a node answers, where it may call itself f times deep. -/
def CordSays (b B0 : Nat) (l : List Co) (f : Nat) : Prop := ∀ (i : Nat) (out : List Int) (v : Value) (w : World), i < l.length → i < f → out.length ≤ 5000 - 2 * f → Co.Flat w b l → b < B0 → B0 ≤ w.heap.size → w.ownsRow B0 2 1 v out.length (out.map (Value.int .i64)) →
    Calls Try.prog 28 #[.slice (some ⟨b, 0, none⟩) l.length l.length, .int .i64 i, v] w fun e w' => ∃ v', e = .returned v' ∧ w'.ownsRow B0 2 1 v' (Tr.cutF f (Co.tree l) out i).length ((Tr.cutF f (Co.tree l) out i).map (Value.int .i64)) ∧ Tr.Kp B0 w w'

set_option maxRecDepth 100000 in
set_option maxHeartbeats 2000000 in
theorem l6Order_step (b B0 : Nat) (l : List Co) (f : Nat) (h900 : l.length ≤ 900) (hf : Tr.Fine (Co.tree l)) (hop : ∀ i, i < l.length → 1 ≤ (l.getD i Co.zero).op ∧ (l.getD i Co.zero).op ≤ 17) (hf2 : f < 900) (ih : CordSays b B0 l f) : CordSays b B0 l (f + 1) := by
  intro i out v w hi hif hlen hrow hb hB hown
  have hiI : (i : Int) < (l.length : Int) := by omega
  have hopi := hop i hi
  obtain ⟨f0, f1, f2, f3, f4, vg, f5⟩ := hrow i hi
  have htl := Co.tree_length l
  have hT := Co.tree_getD l hi
  have hkk := Co.nd_kids (l.getD i Co.zero).op
  have hkl := Co.kids_le (l.getD i Co.zero).op
  have hall := hide (Tr.cutK_all f (Co.tree l) out i)
  have hfin := hide (fun j hj => Tr.kid_fine hf i (by omega) j hj)
  have hsucc := hide (fun j hj => Tr.cutK_succ f (Co.tree l) ((Co.tree l).getD i Nd.zero) out j hj)
  have hstop := hide (fun j h hm => Tr.cutK_stop f (Co.tree l) ((Co.tree l).getD i Nd.zero) out j _ h hm (Nat.le_refl _))
  have hbd := hide (fun j => Tr.cutK_le f (Co.tree l) ((Co.tree l).getD i Nd.zero) out (5000 - 2 * (f + 1)) (by omega) (by omega) j)
  have hz := hide (Tr.cutK_zero f (Co.tree l) ((Co.tree l).getD i Nd.zero) out)
  have HR := hide hrow
  have HIH := hide ih
  have HK := hide (fun wq => l6Kids_any (l.getD i Co.zero).op wq hopi.1 hopi.2)
  have HKD := hide (fun j hj wq => l6Kid_any (l.getD i Co.zero) vg j hj wq)
  rw [hT] at hall hfin hsucc hstop hbd hz
  obtain ⟨i0, hi0, hz0, hz1, hz2⟩ := info_parts Tr.infoI
  clear hop hf hrow ih hopi hT
  generalize l.getD i Co.zero = n at *
  have hnk : Tr.kids (Co.nd n).op = Co.kids n.op := hkk
  rw [hnk] at hall hfin hsucc hstop
  clear hnk hkk
  obtain ⟨ks, hks⟩ : ∃ ks, ks = Co.kids n.op := ⟨_, rfl⟩
  rw [← hks] at hkl hall hfin hsucc hstop HK
  clear hks
  rw [htl] at hsucc hstop
  clear htl
  obtain ⟨w1, hw1⟩ : ∃ w1, w1 = w.alloc (.cells #[.int .i64 n.op, .int .i64 n.a, .int .i64 n.b, .int .i64 n.c, .int .i64 n.num, .slice (some ⟨vg, 0, none⟩) n.val.length n.val.length] 48) := ⟨_, rfl⟩
  have B1 : Below w.heap.size w w1 := by rw [hw1]; exact (Below.refl _ _).alloc (Nat.le_refl _) _
  have N1 : Own w1 w.heap.size 48 [.int .i64 n.op, .int .i64 n.a, .int .i64 n.b, .int .i64 n.c, .int .i64 n.num, .slice (some ⟨vg, 0, none⟩) n.val.length n.val.length] := by rw [hw1]; exact ⟨_, heap_alloc_new _ _, rfl⟩
  have hown1 := Tr.owns_below hown B1
  obtain ⟨va, vc, hv⟩ := Tr.owns_slice hown
  have HO1 := hide hown1
  clear hown hown1
  subst hv
  go_enter Try.func28, Try.ntmps28
  go_wp2_with fail
  rw [← hw1]
  clear hw1 f0 f1 f2 f3 f4 f5
  go_loopg [2, 8] 4 (fun gh s2 s8 wr => ∃ (j : Nat) (L : List Int), Hid (gh = 4 - j) ∧ s8 = .int .i64 j ∧ j ≤ ks ∧ Hid (L = Tr.cutK f (Co.tree l) (Co.nd n) out j) ∧ wr.ownsRow B0 2 1 s2 L.length (L.map (Value.int .i64)) ∧ Tr.Kp B0 w1 wr ∧ Own wr w.heap.size 48 [.int .i64 n.op, .int .i64 n.a, .int .i64 n.b, .int .i64 n.c, .int .i64 n.num, .slice (some ⟨vg, 0, none⟩) n.val.length n.val.length])
  case atStart => exact ⟨0, out, rfl, rfl, by omega, (unhide hz).symm, unhide HO1, Tr.Kp.refl _ _, N1⟩
  case round =>
    obtain ⟨j, L, hg, rfl, hj, hL, hown, hbel, hN⟩ := hrel
    obtain ⟨ua, uc, hu⟩ := Tr.owns_slice hown
    subst hu
    have K1 : Tr.Kp B0 w w1 := Tr.Kp.of_below B1 hB
    have KW := K1.trans hbel
    have hsz := KW.1.size
    have c0 := hN.cell 0
    have c1 := hN.cell 1
    have c2 := hN.cell 2
    have c3 := hN.cell 3
    have c4 := hN.cell 4
    have c5 := hN.cell 5
    simp only [List.getElem?_cons_zero, List.getElem?_cons_succ] at c0 c1 c2 c3 c4 c5
    have hLb : L.length ≤ 5000 := by rw [hL.out]; have := (unhide hbd) j; omega
    have HL := hide hown
    have hjI : (j : Int) ≤ (ks : Int) := by omega
    by_cases hgo : j < ks ∧ L.length ≤ l.length
    · obtain ⟨hjl, hll⟩ := hgo
      have g1 : (j : Int) < (ks : Int) := by omega
      have g2 : (L.length : Int) ≤ (l.length : Int) := by omega
      have hb1 := (unhide hfin) j hjl
      have hs1 := hide ((unhide hsucc) j hjl)
      obtain ⟨x, hx⟩ : ∃ x : Nat, Tr.kidAt (Co.nd n) j = x := ⟨(Tr.kidAt (Co.nd n) j).toNat, by omega⟩
      have HKJ := hide (fun wq => (unhide HKD) j (by omega) wq)
      rw [hx] at hb1 hs1 HKJ
      simp only [Int.toNat_natCast] at hs1
      have hxi : x < i := by omega
      clear hx hb1
      go_wp2_with fail
      refine ((unhide HK) _).mono ?_
      rintro e w2 ⟨rfl, hw2⟩
      subst w2
      go_wp2_with fail
      refine ((unhide HKJ) _).mono ?_
      rintro e w3 ⟨rfl, hb3⟩
      have K3 : Tr.Kp B0 wr w3 := Tr.Kp.of_below hb3 (by omega)
      have hN3 := K3.own hN (by decide)
      have KW3 := KW.trans K3
      clear c0 c1 c2 c3 c4 c5
      go_wp2_with fail
      refine ((unhide HIH) x L _ w3 (by omega) (by omega) (by omega) ((unhide HR).below KW3.1 hb) hb (by have := KW3.1.size; omega) (Tr.owns_below (unhide HL) hb3)).mono ?_
      rintro e w4 ⟨v4, rfl, ho4, k4⟩
      have hN4 := k4.own hN3 (by decide)
      have HO4 := hide ho4
      clear ho4
      go_wp2_with fail
      go_roundg (4 - (j + 1))
      case rel => exact ⟨j + 1, _, rfl, by go_num, by omega, by (show _ = _; rw [unhide hs1, ← hL.out, if_pos hll]), unhide HO4, hbel.trans (K3.trans k4), hN4⟩
      case measure => have := hg.out; omega
    · have hend : L = Tr.cutK f (Co.tree l) (Co.nd n) out ks := by
        by_cases hjl : j < ks
        · rw [hL.out]
          exact ((unhide hstop) j (by rw [← hL.out]; intro h; exact hgo ⟨hjl, h⟩) (by omega)).symm
        · rw [hL.out, show j = ks by omega]
      have hfinal : Hid (Tr.cutF (f + 1) (Co.tree l) out i = L ++ [(i : Int)]) := (unhide hall).trans (by rw [hend])
      have hcond : (¬ (j : Int) < (ks : Int)) ∨ ((j : Int) < (ks : Int) ∧ ¬ (L.length : Int) ≤ (l.length : Int)) := by omega
      have hbse := hide (Tr.owns_base hown)
      have hown' := hide (fun o => hown.alloc o)
      have hone := hide (Tr.one_word wr (i : Int))
      have honep := hide (Tr.one_plain (i : Int))
      have hb63 : L.length + 1 ≤ maxLen := by unfold maxLen; omega
      have hby : (L.length + 1) * 8 ≤ 140737488355328 := by omega
      have hbase : B0 ≤ wr.heap.size + 1 := by omega
      clear hend hown hgo
      rcases hcond with g1 | ⟨g1, g2⟩
      · have g3 : decide ((j : Int) < (ks : Int)) = false := decide_eq_false g1
        go_wp2_with fail
        refine ((unhide HK) _).mono ?_
        rintro e w2 ⟨rfl, hw2⟩
        subst w2
        go_wp2_with (at_builtin; refine wpList_append_own_at _ rfl (.tmp 33) (.tmp 35) 44 rfl B0 2 i0 (.int .i64 0) 1 8 Try.underlying44 hi0 hz0 hz1 hz2 rfl (by decide) _ L.length _ rfl ((unhide hown') _) ⟨wr.heap.size, 0, none⟩ 1 1 [.int .i64 i] rfl rfl (unhide hone) (unhide honep) hb63 hby (by simpa using hbase) ?_)
        intro v' w3 ho3 hg3 _ _
        have K3 : Tr.Kp B0 w w3 := (KW.trans (Tr.Kp.of_below ((Below.refl _ _).alloc (Nat.le_refl _) _) (by omega))).trans (Tr.Kp.grown ((unhide hown') _) hg3 (by simpa using hbase))
        obtain ⟨xa, xc, hx⟩ := Tr.owns_slice ho3
        subst hx
        have HO3 := hide ho3
        clear ho3 hg3
        go_wp2_with fail
        go_ret
        refine ⟨_, rfl, ?_, K3⟩
        rw [hfinal.out, List.length_append, List.map_append]; exact unhide HO3
      · have g4 : decide ((L.length : Int) ≤ (l.length : Int)) = false := decide_eq_false g2
        go_wp2_with fail
        refine ((unhide HK) _).mono ?_
        rintro e w2 ⟨rfl, hw2⟩
        subst w2
        go_wp2_with (at_builtin; refine wpList_append_own_at _ rfl (.tmp 33) (.tmp 35) 44 rfl B0 2 i0 (.int .i64 0) 1 8 Try.underlying44 hi0 hz0 hz1 hz2 rfl (by decide) _ L.length _ rfl ((unhide hown') _) ⟨wr.heap.size, 0, none⟩ 1 1 [.int .i64 i] rfl rfl (unhide hone) (unhide honep) hb63 hby (by simpa using hbase) ?_)
        intro v' w3 ho3 hg3 _ _
        have K3 : Tr.Kp B0 w w3 := (KW.trans (Tr.Kp.of_below ((Below.refl _ _).alloc (Nat.le_refl _) _) (by omega))).trans (Tr.Kp.grown ((unhide hown') _) hg3 (by simpa using hbase))
        obtain ⟨xa, xc, hx⟩ := Tr.owns_slice ho3
        subst hx
        have HO3 := hide ho3
        clear ho3 hg3
        go_wp2_with fail
        go_ret
        refine ⟨_, rfl, ?_, K3⟩
        rw [hfinal.out, List.length_append, List.map_append]; exact unhide HO3

theorem l6Order_any (b B0 : Nat) (l : List Co) (h900 : l.length ≤ 900) (hf : Tr.Fine (Co.tree l)) (hop : ∀ i, i < l.length → 1 ≤ (l.getD i Co.zero).op ∧ (l.getD i Co.zero).op ≤ 17) (f : Nat) : f ≤ 900 → CordSays b B0 l f := by
  induction f with
  | zero => intro _ i out v w hi hif; omega
  | succ f ih => intro h; exact l6Order_step b B0 l f h900 hf hop (by omega) (ih (by omega))


end Go.Proofs.Ytodpmonbfecfdaa
