/-
  spec.l6Node tells the code of a node of a core.
-/
import Derived.Test.YtbaanpgbfncdnaaGreatQ07
import Derived.Test.YtbaanpgbfncdnaaGreatQ10
import Derived.Test.YtbaanpgbfncdnaaGreatQ14
import Derived.Test.YtbaanpgbfncdnaaGreatQ20
import Derived.Deep.LoopGhost
namespace Go.Proofs.YtbaanpgbfncdnaaGreat
open Go.RowKit
set_option linter.unusedVariables false
set_option linter.unusedSimpArgs false

theorem l6Kid_len (n : Co) (vg m k : Nat) (hk : k < 3) (w : World) : Calls Tryz.prog 56 #[.agg #[.int .i64 n.op, .int .i64 n.a, .int .i64 n.b, .int .i64 n.c, .int .i64 n.num, .slice (some ⟨vg, 0, none⟩) m m], .int .i64 k] w fun e w' => e = .returned (.int .i64 (Tr.kidAt (Co.nd n) k)) ∧ Below w.heap.size w w' := by
  have HB : Hid (∀ o, Below w.heap.size w (w.alloc o)) := fun o => (Below.refl _ _).alloc (Nat.le_refl _) o
  have hh : k = 0 ∨ k = 1 ∨ k = 2 := by omega
  rcases hh with rfl | rfl | rfl
  · refine (l6Kid_0 n.op n.a n.b n.c n.num _ rfl w).mono ?_
    rintro e w' ⟨rfl, rfl⟩; exact ⟨rfl, HB.out _⟩
  · refine (l6Kid_1 n.op n.a n.b n.c n.num _ rfl w).mono ?_
    rintro e w' ⟨rfl, rfl⟩; exact ⟨rfl, HB.out _⟩
  · refine (l6Kid_2 n.op n.a n.b n.c n.num _ rfl w).mono ?_
    rintro e w' ⟨rfl, rfl⟩; exact ⟨rfl, HB.out _⟩
theorem l6Kid_any (n : Co) (vg k : Nat) (hk : k < 3) (w : World) : Calls Tryz.prog 56 #[.agg #[.int .i64 n.op, .int .i64 n.a, .int .i64 n.b, .int .i64 n.c, .int .i64 n.num, .slice (some ⟨vg, 0, none⟩) n.val.length n.val.length], .int .i64 k] w fun e w' => e = .returned (.int .i64 (Tr.kidAt (Co.nd n) k)) ∧ Below w.heap.size w w' := l6Kid_len n vg n.val.length k hk w
theorem node_one {l : List Co} {i : Nat} {n : Co} (hn : n = l.getD i Co.zero) (h : ¬ (n.op < 1 ∨ 17 < n.op)) (hh : Co.hasVal n.op = false) (hl : 0 < n.val.length) : Co.nodeF l i = 1 := by
  cases hf : Co.formOk n i with
  | false => exact Co.node_1 hn h hf
  | true =>
    have hv : Co.valF n = 1 := (valF_no hh).trans (if_pos hl)
    rw [Co.node_v hn h hf (by rw [hv]; decide), hv]

set_option maxRecDepth 100000 in
set_option maxHeartbeats 4000000 in
theorem l6Node_early (b : Nat) (l : List Co) (i : Nat) (n : Co) (w : World) (hrow : Co.Row w b l) (hb : b < w.heap.size) (hi : i < l.length) (h900 : l.length ≤ 900) (hn : n = l.getD i Co.zero) (hlen : n.val.length ≤ 1048576) (hok : ∀ x ∈ n.val, x.ok) (hbad : (n.op < 1 ∨ 17 < n.op) ∨ (Co.high n.op = 0 ∧ n.num ≠ 0) ∨ (Co.hasVal n.op = false ∧ 0 < n.val.length)) :
    Calls Tryz.prog 51 #[.slice (some ⟨b, 0, none⟩) l.length l.length, .int .i64 i] w fun e w' => e = .returned (.int .i64 (Co.nodeF l i)) ∧ Below w.heap.size w w' := by
  have HI := hide hi
  have hiI : (i : Int) < (l.length : Int) := by omega
  obtain ⟨f0, f1, f2, f3, f4, vg, f5, hvg, hvr⟩ := hrow i hi
  rw [← hn] at f0 f1 f2 f3 f4 f5 hvr
  have HN := hide hn
  have HVR := hide hvr
  have HOK := hide hok
  clear hrow hn hvr hok
  obtain ⟨w1, hw1⟩ : ∃ w1, w1 = w.alloc (.cells #[.int .i64 n.op, .int .i64 n.a, .int .i64 n.b, .int .i64 n.c, .int .i64 n.num, .slice (some ⟨vg, 0, none⟩) n.val.length n.val.length] 47) := ⟨_, rfl⟩
  have B1 : Below w.heap.size w w1 := by rw [hw1]; exact (Below.refl _ _).alloc (Nat.le_refl _) _
  have N1 : Own w1 w.heap.size 47 [.int .i64 n.op, .int .i64 n.a, .int .i64 n.b, .int .i64 n.c, .int .i64 n.num, .slice (some ⟨vg, 0, none⟩) n.val.length n.val.length] := by rw [hw1]; exact ⟨_, heap_alloc_new _ _, rfl⟩
  by_cases hop : n.op < 1 ∨ 17 < n.op
  · have fin := hide (Co.node_6 (unhide HN) hop)
    have hin : (decide (1 ≤ n.op) && decide (n.op ≤ 17)) = false := by
      rw [Bool.and_eq_false_iff, decide_eq_false_iff_not, decide_eq_false_iff_not]; omega
    clear hbad hop
    go_enter Tryz.func51, Tryz.ntmps51
    go_wp2_with fail
    rw [← hw1]
    clear hw1 f0 f1 f2 f3 f4 f5
    have c0 := N1.cell 0
    have c1 := N1.cell 1
    have c2 := N1.cell 2
    have c3 := N1.cell 3
    have c4 := N1.cell 4
    have c5 := N1.cell 5
    simp only [List.getElem?_cons_zero, List.getElem?_cons_succ] at c0 c1 c2 c3 c4 c5
    refine (l1In_tr _ _ _ _).mono ?_
    rintro e w2 ⟨rfl, hw2⟩
    subst w2
    rw [hin]
    go_wp2_with fail
    go_ret
    exact ⟨ret_int (unhide fin).symm, B1⟩
  have HOP := hide hop
  have hin : (decide (1 ≤ n.op) && decide (n.op ≤ 17)) = true := by simp; omega
  have HM := hide (fun wq => l6Nums_any n.op wq (by omega) (by omega))
  have HX := hide (fun wq => l6HasVal_any n.op wq)
  by_cases hz : Co.high n.op = 0 ∧ n.num ≠ 0
  · have fin := hide (Co.node_1 (unhide HN) (unhide HOP) (Co.form_no (.inr hz)))
    have g1 : (Co.high n.op == 0) = true := by simp [hz.1]
    have g2 : (n.num != 0) = true := by simpa using hz.2
    clear hbad hop hz
    go_enter Tryz.func51, Tryz.ntmps51
    go_wp2_with fail
    rw [← hw1]
    clear hw1 f0 f1 f2 f3 f4 f5
    have c0 := N1.cell 0
    have c1 := N1.cell 1
    have c2 := N1.cell 2
    have c3 := N1.cell 3
    have c4 := N1.cell 4
    have c5 := N1.cell 5
    simp only [List.getElem?_cons_zero, List.getElem?_cons_succ] at c0 c1 c2 c3 c4 c5
    refine (l1In_tr _ _ _ _).mono ?_
    rintro e w2 ⟨rfl, hw2⟩
    subst w2
    rw [hin]
    go_wp2_with fail
    refine ((unhide HM) _).mono ?_
    rintro e w2 ⟨rfl, hw2⟩
    subst w2
    go_wp2_with fail
    go_ret
    exact ⟨ret_int (unhide fin).symm, B1⟩
  have hv : Co.hasVal n.op = false ∧ 0 < n.val.length := by
    rcases hbad with h | h | h
    · exact absurd h hop
    · exact absurd h hz
    · exact h
  have fin := hide (node_one (unhide HN) (unhide HOP) hv.1 hv.2)
  have hcond : (Co.high n.op == 0) = false ∨ ((Co.high n.op == 0) = true ∧ (n.num != 0) = false) := by
    by_cases q : Co.high n.op = 0
    · right; exact ⟨by simp [q], by simp; omega⟩
    · left; simpa using q
  have hT := hv.1
  have g3 : (n.val.length : Int) > 0 := by omega
  clear hbad hop hz hv
  go_enter Tryz.func51, Tryz.ntmps51
  go_wp2_with fail
  rw [← hw1]
  clear hw1 f0 f1 f2 f3 f4 f5
  have c0 := N1.cell 0
  have c1 := N1.cell 1
  have c2 := N1.cell 2
  have c3 := N1.cell 3
  have c4 := N1.cell 4
  have c5 := N1.cell 5
  simp only [List.getElem?_cons_zero, List.getElem?_cons_succ] at c0 c1 c2 c3 c4 c5
  refine (l1In_tr _ _ _ _).mono ?_
  rintro e w2 ⟨rfl, hw2⟩
  subst w2
  rw [hin]
  go_wp2_with fail
  refine ((unhide HM) _).mono ?_
  rintro e w2 ⟨rfl, hw2⟩
  subst w2
  rcases hcond with g1 | ⟨g1, g2⟩
  all_goals
    go_wp2_with fail
    refine ((unhide HX) _).mono ?_
    rintro e w2 ⟨rfl, hw2⟩
    subst w2
    rw [hT]
    go_wp2_with fail
    go_ret
    exact ⟨ret_int (unhide fin).symm, B1⟩

set_option maxRecDepth 100000 in
set_option maxHeartbeats 4000000 in
theorem l6Node_val (b : Nat) (l : List Co) (i : Nat) (n : Co) (w : World) (hrow : Co.Row w b l) (hb : b < w.heap.size) (hi : i < l.length) (h900 : l.length ≤ 900) (hn : n = l.getD i Co.zero) (hlen : n.val.length ≤ 1048576) (hok : ∀ x ∈ n.val, x.ok) (hop : ¬ (n.op < 1 ∨ 17 < n.op)) (hz2 : Co.high n.op ≠ 0 ∨ n.num = 0) (hT : Co.hasVal n.op = true) :
    Calls Tryz.prog 51 #[.slice (some ⟨b, 0, none⟩) l.length l.length, .int .i64 i] w fun e w' => e = .returned (.int .i64 (Co.nodeF l i)) ∧ Below w.heap.size w w' := by
  have hiI : (i : Int) < (l.length : Int) := by omega
  obtain ⟨f0, f1, f2, f3, f4, vg, f5, hvg, hvr⟩ := hrow i hi
  rw [← hn] at f0 f1 f2 f3 f4 f5 hvr
  have HN := hide hn
  have HVR := hide hvr
  have HOK := hide hok
  clear hrow hn hvr hok
  obtain ⟨w1, hw1⟩ : ∃ w1, w1 = w.alloc (.cells #[.int .i64 n.op, .int .i64 n.a, .int .i64 n.b, .int .i64 n.c, .int .i64 n.num, .slice (some ⟨vg, 0, none⟩) n.val.length n.val.length] 47) := ⟨_, rfl⟩
  have B1 : Below w.heap.size w w1 := by rw [hw1]; exact (Below.refl _ _).alloc (Nat.le_refl _) _
  have N1 : Own w1 w.heap.size 47 [.int .i64 n.op, .int .i64 n.a, .int .i64 n.b, .int .i64 n.c, .int .i64 n.num, .slice (some ⟨vg, 0, none⟩) n.val.length n.val.length] := by rw [hw1]; exact ⟨_, heap_alloc_new _ _, rfl⟩
  have hcond : (Co.high n.op == 0) = false ∨ ((Co.high n.op == 0) = true ∧ (n.num != 0) = false) := by
    by_cases q : Co.high n.op = 0
    · right; exact ⟨by simp [q], by simp; omega⟩
    · left; simpa using q
  have HOP := hide hop
  have HZ := hide hz2
  have hin : (decide (1 ≤ n.op) && decide (n.op ≤ 17)) = true := by simp; omega
  have HK := hide (fun wq => l6Kids_any n.op wq (by omega) (by omega))
  have HX := hide (fun wq => l6HasVal_any n.op wq)
  have HM := hide (fun wq => l6Nums_any n.op wq (by omega) (by omega))
  have HKL := hide (Co.kids_le n.op)
  have HF := hide (fun wq (hrq : Row wq vg 0 n.val) hgq => specFault_any n.val vg 0 n.val.length wq hrq hgq hlen (Nat.le_refl _) (unhide HOK))
  have HT := hide hT
  clear hop hz2 
  go_enter Tryz.func51, Tryz.ntmps51
  go_wp2_with fail
  rw [← hw1]
  clear hw1 f0 f1 f2 f3 f4 f5
  have c0 := N1.cell 0
  have c1 := N1.cell 1
  have c2 := N1.cell 2
  have c3 := N1.cell 3
  have c4 := N1.cell 4
  have c5 := N1.cell 5
  simp only [List.getElem?_cons_zero, List.getElem?_cons_succ] at c0 c1 c2 c3 c4 c5
  refine (l1In_tr _ _ _ _).mono ?_
  rintro e w2 ⟨rfl, hw2⟩
  subst w2
  rw [hin]
  go_wp2_with fail
  refine ((unhide HM) _).mono ?_
  rintro e w2 ⟨rfl, hw2⟩
  subst w2
  rcases hcond with g1 | ⟨g1, g2⟩
  all_goals
    go_wp2_with fail
    refine ((unhide HX) _).mono ?_
    rintro e w2 ⟨rfl, hw2⟩
    subst w2
    rw [hT]
    go_wp2_with fail
    clear c0 c1 c2 c3 c4 c5
    go_loopg [8] 3 (fun gh s8 wr => ∃ k : Nat, Hid (gh = 3 - k) ∧ s8 = .int .i64 k ∧ k ≤ 3 ∧ Hid (∀ j, j < k → Tr.one (decide (j < Co.kids n.op)) (Tr.kidAt (Co.nd n) j) i = true) ∧ Below w1.heap.size w1 wr)
    case atStart => exact ⟨0, rfl, rfl, by omega, fun j hj => absurd hj (by omega), Below.refl _ _⟩
    case round =>
      obtain ⟨k, hg, rfl, hk, hall, hbel⟩ := hrel
      have N2 := N1.below hbel N1.lt
      have c0 := N2.cell 0
      have c1 := N2.cell 1
      have c2 := N2.cell 2
      have c3 := N2.cell 3
      have c4 := N2.cell 4
      have c5 := N2.cell 5
      simp only [List.getElem?_cons_zero, List.getElem?_cons_succ] at c0 c1 c2 c3 c4 c5
      by_cases hlt : k < 3
      · have hbad := hide (fun h => Co.node_1 (unhide HN) (unhide HOP) (Co.form_no (.inl (Tr.links_bad (n := Co.nd n) (ks := Co.kids n.op) (i := i) hlt h))))
        have hnext : Hid (Tr.one (decide (k < Co.kids n.op)) (Tr.kidAt (Co.nd n) k) i = true → ∀ j, j < k + 1 → Tr.one (decide (j < Co.kids n.op)) (Tr.kidAt (Co.nd n) j) i = true) := fun h j hj => by
          by_cases e : j = k
          · subst e; exact h
          · exact hall.out j (by omega)
        have hltI : (k : Int) < 3 := by omega
        have HKD := hide (fun wq => l6Kid_any n vg k hlt wq)
        clear hlt
        go_wp2_with fail
        refine ((unhide HKD) _).mono ?_
        rintro e w3 ⟨rfl, hb3⟩
        have B3 : Below w1.heap.size w1 w3 := hbel.trans (hb3.mono hbel.size)
        have N3 := N2.below hb3 N2.lt
        clear c0 c1 c2 c3 c4 c5 N2
        have c0 := N3.cell 0
        simp only [List.getElem?_cons_zero] at c0
        have Bw : Below w.heap.size w w3 := B1.trans (B3.mono B1.size)
        generalize Tr.kidAt (Co.nd n) k = x at *
        go_wp2_with fail
        refine ((unhide HK) _).mono ?_
        rintro e w4 ⟨rfl, hw4⟩
        subst w4
        by_cases hks : (Co.kids n.op : Int) ≤ k
        · have g5 : decide ((Co.kids n.op : Int) ≤ (k : Int)) = true := decide_eq_true hks
          have g6 : decide ((k : Int) < (Co.kids n.op : Int)) = false := decide_eq_false (by omega)
          have hd : decide (k < Co.kids n.op) = false := decide_eq_false (by omega)
          have hks2 : Co.kids n.op ≤ k := by omega
          rw [hd] at hbad hnext
          clear hd
          by_cases hx : x = 0
          · have hn2 := hide (hnext.out (by simp [Tr.one, hx]))
            have g7 : (x != 0) = false := by simp [hx]
            clear hx hnext hbad
            go_wp2_with fail
            refine ((unhide HK) _).mono ?_
            rintro e w4 ⟨rfl, hw4⟩
            subst w4
            go_wp2_with fail
            go_roundg (3 - (k + 1))
            case rel => exact ⟨k + 1, rfl, by go_num, by omega, unhide hn2, B3⟩
            case measure => have := hg.out; omega
          · have fin := hide ((unhide hbad) (by simp [Tr.one, hx]))
            have g7 : (x != 0) = true := by simpa using hx
            clear hx hnext hbad
            go_wp2_with fail
            go_ret
            exact ⟨ret_int (unhide fin).symm, Bw⟩
        · have g5 : decide ((Co.kids n.op : Int) ≤ (k : Int)) = false := decide_eq_false hks
          have g6 : decide ((k : Int) < (Co.kids n.op : Int)) = true := decide_eq_true (by omega)
          have hks3 : (k : Int) < (Co.kids n.op : Int) := by omega
          have hd : decide (k < Co.kids n.op) = true := decide_eq_true (by omega)
          have hks2 : k < Co.kids n.op := by omega
          rw [hd] at hbad hnext
          clear hd
          go_wp2_with fail
          refine ((unhide HK) _).mono ?_
          rintro e w4 ⟨rfl, hw4⟩
          subst w4
          go_wp2_with fail
          refine (l1In_tr _ _ _ _).mono ?_
          rintro e w4 ⟨rfl, hw4⟩
          subst w4
          cases hq : (decide (0 ≤ x) && decide (x ≤ (i : Int) - 1)) with
          | true =>
            have hn2 := hide (hnext.out (by simp only [Bool.and_eq_true, decide_eq_true_eq] at hq; simp [Tr.one]; omega))
            clear hnext hbad
            go_wp2_with fail
            go_roundg (3 - (k + 1))
            case rel => exact ⟨k + 1, rfl, by go_num, by omega, unhide hn2, B3⟩
            case measure => have := hg.out; omega
          | false =>
            have fin := hide ((unhide hbad) (by simp only [Bool.and_eq_false_iff, decide_eq_false_iff_not] at hq; simp [Tr.one]; omega))
            clear hnext hbad
            go_wp2_with fail
            go_ret
            exact ⟨ret_int (unhide fin).symm, Bw⟩
      · have hke : k = 3 := by omega
        subst hke
        have fm := hide (Co.form_yes (n := n) (i := i) (Tr.links_all (n := Co.nd n) hall.out) (unhide HZ))
        have Bw : Below w.heap.size w wr := B1.trans (hbel.mono B1.size)
        clear hall
        go_wp2_with fail
        refine ((unhide HX) _).mono ?_
        rintro e w5 ⟨rfl, hw5⟩
        subst w5
        rw [unhide HT]
        have HR2 := hide ((unhide HVR).below Bw hvg)
        have HF2 := hide ((unhide HF) wr (unhide HR2) (Nat.lt_of_lt_of_le hvg Bw.size))
        go_wp2_with fail
        refine (unhide HF2).mono ?_
        rintro e w5 ⟨rfl, hb5⟩
        have B5 : Below w.heap.size w w5 := Bw.trans (hb5.mono Bw.size)
        have N5 := N2.below hb5 N2.lt
        clear c0 c1 c2 c3 c4 c5 N2 HF2
        have c0 := N5.cell 0
        have c1 := N5.cell 1
        have c2 := N5.cell 2
        have c3 := N5.cell 3
        have c4 := N5.cell 4
        have c5 := N5.cell 5
        simp only [List.getElem?_cons_zero, List.getElem?_cons_succ] at c0 c1 c2 c3 c4 c5
        by_cases hf : M.valueFault n.val = 0
        · rw [hf]
          have hl1 := (M.fault_zero hf).1
          have HFZ := hide hf
          obtain ⟨m0, _, _, _, _⟩ := (unhide HR2).below hb5 (Nat.lt_of_lt_of_le hvg Bw.size) 0 (by omega)
          simp only [Nat.zero_mul, Nat.add_zero] at m0
          have hlI : (0 : Int) < (n.val.length : Int) := by omega
          clear hf
          by_cases h11 : n.op = 11
          · have g11 : (n.op == 11) = true := by simp [h11]
            by_cases h4 : (n.val.getD 0 M.zero).kind = 4
            · have HVF := hide (valF_ok (unhide HT) (unhide HFZ) (fun h => h.2 h4))
              rw [h4] at m0
              clear h11 h4
              go_wp2_with fail
              refine (l1In_tr _ _ _ _).mono ?_
              rintro e w6 ⟨rfl, hw6⟩
              subst w6
              cases hq : (decide (Co.low n.op ≤ n.num) && decide (n.num ≤ Co.high n.op)) with
              | false =>
                have fin := hide (Co.node_3 (unhide HN) (unhide HOP) (unhide fm) (unhide HVF) (by simp only [Bool.and_eq_false_iff, decide_eq_false_iff_not] at hq; omega))
                go_wp2_with fail
                go_ret
                exact ⟨ret_int (unhide fin).symm, B5⟩
              | true =>
                have fin := hide (Co.node_0 (unhide HN) (unhide HOP) (unhide fm) (unhide HVF) (by simp only [Bool.and_eq_true, decide_eq_true_eq] at hq; omega))
                go_wp2_with fail
                go_ret
                exact ⟨ret_int (unhide fin).symm, B5⟩
            · have hvk := valF_kind (unhide HT) (unhide HFZ) h11 h4
              have fin := hide ((Co.node_v (unhide HN) (unhide HOP) (unhide fm) (by rw [hvk]; decide)).trans hvk)
              have g4 : ((n.val.getD 0 M.zero).kind != 4) = true := by simpa using h4
              generalize (n.val.getD 0 M.zero).kind = kk at *
              clear h11 h4 hvk
              go_wp2_with fail
              go_ret
              exact ⟨ret_int (unhide fin).symm, B5⟩
          · have g11 : (n.op == 11) = false := by simpa using h11
            have HVF := hide (valF_ok (unhide HT) (unhide HFZ) (fun h => h11 h.1))
            clear h11
            go_wp2_with fail
            refine (l1In_tr _ _ _ _).mono ?_
            rintro e w6 ⟨rfl, hw6⟩
            subst w6
            cases hq : (decide (Co.low n.op ≤ n.num) && decide (n.num ≤ Co.high n.op)) with
            | false =>
              have fin := hide (Co.node_3 (unhide HN) (unhide HOP) (unhide fm) (unhide HVF) (by simp only [Bool.and_eq_false_iff, decide_eq_false_iff_not] at hq; omega))
              go_wp2_with fail
              go_ret
              exact ⟨ret_int (unhide fin).symm, B5⟩
            | true =>
              have fin := hide (Co.node_0 (unhide HN) (unhide HOP) (unhide fm) (unhide HVF) (by simp only [Bool.and_eq_true, decide_eq_true_eq] at hq; omega))
              go_wp2_with fail
              go_ret
              exact ⟨ret_int (unhide fin).symm, B5⟩
        · have hvk := valF_bad (unhide HT) hf
          have fin := hide ((Co.node_v (unhide HN) (unhide HOP) (unhide fm) (by rw [hvk]; exact hf)).trans hvk)
          clear hvk
          generalize M.valueFault n.val = q at *
          have g12 : (q != 0) = true := by simpa using hf
          clear hf
          go_wp2_with fail
          go_ret
          exact ⟨ret_int (unhide fin).symm, B5⟩

set_option maxRecDepth 100000 in
set_option maxHeartbeats 4000000 in
theorem l6Node_no (b : Nat) (l : List Co) (i : Nat) (n : Co) (w : World) (hrow : Co.Row w b l) (hb : b < w.heap.size) (hi : i < l.length) (h900 : l.length ≤ 900) (hn : n = l.getD i Co.zero) (hlen : n.val.length ≤ 1048576) (hok : ∀ x ∈ n.val, x.ok) (hop : ¬ (n.op < 1 ∨ 17 < n.op)) (hz2 : Co.high n.op ≠ 0 ∨ n.num = 0) (hT : Co.hasVal n.op = false) (hl0 : n.val.length = 0) :
    Calls Tryz.prog 51 #[.slice (some ⟨b, 0, none⟩) l.length l.length, .int .i64 i] w fun e w' => e = .returned (.int .i64 (Co.nodeF l i)) ∧ Below w.heap.size w w' := by
  have hiI : (i : Int) < (l.length : Int) := by omega
  obtain ⟨f0, f1, f2, f3, f4, vg, f5, hvg, hvr⟩ := hrow i hi
  rw [← hn] at f0 f1 f2 f3 f4 f5 hvr
  have HN := hide hn
  have HVR := hide hvr
  have HOK := hide hok
  clear hrow hn hvr hok
  rw [hl0] at f5
  obtain ⟨w1, hw1⟩ : ∃ w1, w1 = w.alloc (.cells #[.int .i64 n.op, .int .i64 n.a, .int .i64 n.b, .int .i64 n.c, .int .i64 n.num, .slice (some ⟨vg, 0, none⟩) 0 0] 47) := ⟨_, rfl⟩
  have B1 : Below w.heap.size w w1 := by rw [hw1]; exact (Below.refl _ _).alloc (Nat.le_refl _) _
  have N1 : Own w1 w.heap.size 47 [.int .i64 n.op, .int .i64 n.a, .int .i64 n.b, .int .i64 n.c, .int .i64 n.num, .slice (some ⟨vg, 0, none⟩) 0 0] := by rw [hw1]; exact ⟨_, heap_alloc_new _ _, rfl⟩
  have hcond : (Co.high n.op == 0) = false ∨ ((Co.high n.op == 0) = true ∧ (n.num != 0) = false) := by
    by_cases q : Co.high n.op = 0
    · right; exact ⟨by simp [q], by simp; omega⟩
    · left; simpa using q
  have HOP := hide hop
  have HZ := hide hz2
  have hin : (decide (1 ≤ n.op) && decide (n.op ≤ 17)) = true := by simp; omega
  have HK := hide (fun wq => l6Kids_any n.op wq (by omega) (by omega))
  have HX := hide (fun wq => l6HasVal_any n.op wq)
  have HM := hide (fun wq => l6Nums_any n.op wq (by omega) (by omega))
  have HKL := hide (Co.kids_le n.op)
  have HVF := hide (show Co.valF n = 0 from (valF_no hT).trans (if_neg (by omega)))
  have HT := hide hT
  clear hop hz2 hl0
  go_enter Tryz.func51, Tryz.ntmps51
  go_wp2_with fail
  rw [← hw1]
  clear hw1 f0 f1 f2 f3 f4 f5
  have c0 := N1.cell 0
  have c1 := N1.cell 1
  have c2 := N1.cell 2
  have c3 := N1.cell 3
  have c4 := N1.cell 4
  have c5 := N1.cell 5
  simp only [List.getElem?_cons_zero, List.getElem?_cons_succ] at c0 c1 c2 c3 c4 c5
  refine (l1In_tr _ _ _ _).mono ?_
  rintro e w2 ⟨rfl, hw2⟩
  subst w2
  rw [hin]
  go_wp2_with fail
  refine ((unhide HM) _).mono ?_
  rintro e w2 ⟨rfl, hw2⟩
  subst w2
  rcases hcond with g1 | ⟨g1, g2⟩
  all_goals
    go_wp2_with fail
    refine ((unhide HX) _).mono ?_
    rintro e w2 ⟨rfl, hw2⟩
    subst w2
    rw [hT]
    go_wp2_with fail
    clear c0 c1 c2 c3 c4 c5
    go_loopg [8] 3 (fun gh s8 wr => ∃ k : Nat, Hid (gh = 3 - k) ∧ s8 = .int .i64 k ∧ k ≤ 3 ∧ Hid (∀ j, j < k → Tr.one (decide (j < Co.kids n.op)) (Tr.kidAt (Co.nd n) j) i = true) ∧ Below w1.heap.size w1 wr)
    case atStart => exact ⟨0, rfl, rfl, by omega, fun j hj => absurd hj (by omega), Below.refl _ _⟩
    case round =>
      obtain ⟨k, hg, rfl, hk, hall, hbel⟩ := hrel
      have N2 := N1.below hbel N1.lt
      have c0 := N2.cell 0
      have c1 := N2.cell 1
      have c2 := N2.cell 2
      have c3 := N2.cell 3
      have c4 := N2.cell 4
      have c5 := N2.cell 5
      simp only [List.getElem?_cons_zero, List.getElem?_cons_succ] at c0 c1 c2 c3 c4 c5
      by_cases hlt : k < 3
      · have hbad := hide (fun h => Co.node_1 (unhide HN) (unhide HOP) (Co.form_no (.inl (Tr.links_bad (n := Co.nd n) (ks := Co.kids n.op) (i := i) hlt h))))
        have hnext : Hid (Tr.one (decide (k < Co.kids n.op)) (Tr.kidAt (Co.nd n) k) i = true → ∀ j, j < k + 1 → Tr.one (decide (j < Co.kids n.op)) (Tr.kidAt (Co.nd n) j) i = true) := fun h j hj => by
          by_cases e : j = k
          · subst e; exact h
          · exact hall.out j (by omega)
        have hltI : (k : Int) < 3 := by omega
        have HKD := hide (fun wq => l6Kid_len n vg 0 k hlt wq)
        clear hlt
        go_wp2_with fail
        refine ((unhide HKD) _).mono ?_
        rintro e w3 ⟨rfl, hb3⟩
        have B3 : Below w1.heap.size w1 w3 := hbel.trans (hb3.mono hbel.size)
        have N3 := N2.below hb3 N2.lt
        clear c0 c1 c2 c3 c4 c5 N2
        have c0 := N3.cell 0
        simp only [List.getElem?_cons_zero] at c0
        have Bw : Below w.heap.size w w3 := B1.trans (B3.mono B1.size)
        generalize Tr.kidAt (Co.nd n) k = x at *
        go_wp2_with fail
        refine ((unhide HK) _).mono ?_
        rintro e w4 ⟨rfl, hw4⟩
        subst w4
        by_cases hks : (Co.kids n.op : Int) ≤ k
        · have g5 : decide ((Co.kids n.op : Int) ≤ (k : Int)) = true := decide_eq_true hks
          have g6 : decide ((k : Int) < (Co.kids n.op : Int)) = false := decide_eq_false (by omega)
          have hd : decide (k < Co.kids n.op) = false := decide_eq_false (by omega)
          have hks2 : Co.kids n.op ≤ k := by omega
          rw [hd] at hbad hnext
          clear hd
          by_cases hx : x = 0
          · have hn2 := hide (hnext.out (by simp [Tr.one, hx]))
            have g7 : (x != 0) = false := by simp [hx]
            clear hx hnext hbad
            go_wp2_with fail
            refine ((unhide HK) _).mono ?_
            rintro e w4 ⟨rfl, hw4⟩
            subst w4
            go_wp2_with fail
            go_roundg (3 - (k + 1))
            case rel => exact ⟨k + 1, rfl, by go_num, by omega, unhide hn2, B3⟩
            case measure => have := hg.out; omega
          · have fin := hide ((unhide hbad) (by simp [Tr.one, hx]))
            have g7 : (x != 0) = true := by simpa using hx
            clear hx hnext hbad
            go_wp2_with fail
            go_ret
            exact ⟨ret_int (unhide fin).symm, Bw⟩
        · have g5 : decide ((Co.kids n.op : Int) ≤ (k : Int)) = false := decide_eq_false hks
          have g6 : decide ((k : Int) < (Co.kids n.op : Int)) = true := decide_eq_true (by omega)
          have hks3 : (k : Int) < (Co.kids n.op : Int) := by omega
          have hd : decide (k < Co.kids n.op) = true := decide_eq_true (by omega)
          have hks2 : k < Co.kids n.op := by omega
          rw [hd] at hbad hnext
          clear hd
          go_wp2_with fail
          refine ((unhide HK) _).mono ?_
          rintro e w4 ⟨rfl, hw4⟩
          subst w4
          go_wp2_with fail
          refine (l1In_tr _ _ _ _).mono ?_
          rintro e w4 ⟨rfl, hw4⟩
          subst w4
          cases hq : (decide (0 ≤ x) && decide (x ≤ (i : Int) - 1)) with
          | true =>
            have hn2 := hide (hnext.out (by simp only [Bool.and_eq_true, decide_eq_true_eq] at hq; simp [Tr.one]; omega))
            clear hnext hbad
            go_wp2_with fail
            go_roundg (3 - (k + 1))
            case rel => exact ⟨k + 1, rfl, by go_num, by omega, unhide hn2, B3⟩
            case measure => have := hg.out; omega
          | false =>
            have fin := hide ((unhide hbad) (by simp only [Bool.and_eq_false_iff, decide_eq_false_iff_not] at hq; simp [Tr.one]; omega))
            clear hnext hbad
            go_wp2_with fail
            go_ret
            exact ⟨ret_int (unhide fin).symm, Bw⟩
      · have hke : k = 3 := by omega
        subst hke
        have fm := hide (Co.form_yes (n := n) (i := i) (Tr.links_all (n := Co.nd n) hall.out) (unhide HZ))
        have Bw : Below w.heap.size w wr := B1.trans (hbel.mono B1.size)
        clear hall
        go_wp2_with fail
        refine ((unhide HX) _).mono ?_
        rintro e w5 ⟨rfl, hw5⟩
        subst w5
        rw [unhide HT]
        go_wp2_with fail
        refine (l1In_tr _ _ _ _).mono ?_
        rintro e w6 ⟨rfl, hw6⟩
        subst w6
        cases hq : (decide (Co.low n.op ≤ n.num) && decide (n.num ≤ Co.high n.op)) with
        | false =>
          have fin := hide (Co.node_3 (unhide HN) (unhide HOP) (unhide fm) (unhide HVF) (by simp only [Bool.and_eq_false_iff, decide_eq_false_iff_not] at hq; omega))
          go_wp2_with fail
          go_ret
          exact ⟨ret_int (unhide fin).symm, Bw⟩
        | true =>
          have fin := hide (Co.node_0 (unhide HN) (unhide HOP) (unhide fm) (unhide HVF) (by simp only [Bool.and_eq_true, decide_eq_true_eq] at hq; omega))
          go_wp2_with fail
          go_ret
          exact ⟨ret_int (unhide fin).symm, Bw⟩

theorem l6Node_any (b : Nat) (l : List Co) (i : Nat) (n : Co) (w : World) (hrow : Co.Row w b l) (hb : b < w.heap.size) (hi : i < l.length) (h900 : l.length ≤ 900) (hn : n = l.getD i Co.zero) (hlen : n.val.length ≤ 1048576) (hok : ∀ x ∈ n.val, x.ok) :
    Calls Tryz.prog 51 #[.slice (some ⟨b, 0, none⟩) l.length l.length, .int .i64 i] w fun e w' => e = .returned (.int .i64 (Co.nodeF l i)) ∧ Below w.heap.size w w' := by
  by_cases hop : n.op < 1 ∨ 17 < n.op
  · exact l6Node_early b l i n w hrow hb hi h900 hn hlen hok (.inl hop)
  by_cases hz : Co.high n.op = 0 ∧ n.num ≠ 0
  · exact l6Node_early b l i n w hrow hb hi h900 hn hlen hok (.inr (.inl hz))
  cases hT : Co.hasVal n.op with
  | true => exact l6Node_val b l i n w hrow hb hi h900 hn hlen hok hop (by omega) hT
  | false =>
    by_cases hl : 0 < n.val.length
    · exact l6Node_early b l i n w hrow hb hi h900 hn hlen hok (.inr (.inr ⟨hT, hl⟩))
    · exact l6Node_no b l i n w hrow hb hi h900 hn hlen hok hop (by omega) hT (by omega)

end Go.Proofs.YtbaanpgbfncdnaaGreat
