/-
  spec.l6Node tells the code of a node of a core.
  spec.l6Order: the nodes of a core below one in their order, cut where there are too many.
  spec.l6Known: is every variable known below a node?
  spec.CoreFault answers the plain fault.
  Both SlotsOfs: one more than the greatest slot.
-/
import Derived.Test.YtkjmnkbiflkpdaaCorB
import Derived.Test.YtkjmnkbiflkpdaaTreD
import Derived.Test.YtkjmnkbiflkpdaaFaultI
import Derived.Test.YtkjmnkbiflkpdaaKids
import Derived.Test.YtkjmnkbiflkpdaaTreG
import Derived.Test.YtkjmnkbiflkpdaaAppT
import Derived.Test.YtkjmnkbiflkpdaaHldI
import Derived.Test.YtkjmnkbiflkpdaaCorF
import Derived.Test.YtkjmnkbiflkpdaaTreH
import Derived.Test.YtkjmnkbiflkpdaaTreI
import Derived.Deep.LoopGhost
import Derived.Deep.RegionWith
import Derived.Deep.CutRange
import Derived.Deep.RegionHeld3
import Derived.Deep.RegionHeldLaw
namespace Go.Proofs.Ytkjmnkbiflkpdaa
open Go.RowKit
set_option linter.unusedVariables false
set_option linter.unusedSimpArgs false


theorem l6Kid_len (n : Co) (vg m k : Nat) (hk : k < 3) (w : World) : Calls Try.prog 37 #[.agg #[.int .i64 n.op, .int .i64 n.a, .int .i64 n.b, .int .i64 n.c, .int .i64 n.num, .slice (some ⟨vg, 0, none⟩) m m], .int .i64 k] w fun e w' => e = .returned (.int .i64 (Tr.kidAt (Co.nd n) k)) ∧ Below w.heap.size w w' := by
  have HB : Hid (∀ o, Below w.heap.size w (w.alloc o)) := fun o => (Below.refl _ _).alloc (Nat.le_refl _) o
  have hh : k = 0 ∨ k = 1 ∨ k = 2 := by omega
  rcases hh with rfl | rfl | rfl
  · refine (l6Kid_0 n.op n.a n.b n.c n.num _ rfl w).mono ?_
    rintro e w' ⟨rfl, rfl⟩; exact ⟨rfl, HB.out _⟩
  · refine (l6Kid_1 n.op n.a n.b n.c n.num _ rfl w).mono ?_
    rintro e w' ⟨rfl, rfl⟩; exact ⟨rfl, HB.out _⟩
  · refine (l6Kid_2 n.op n.a n.b n.c n.num _ rfl w).mono ?_
    rintro e w' ⟨rfl, rfl⟩; exact ⟨rfl, HB.out _⟩
theorem l6Kid_any (n : Co) (vg k : Nat) (hk : k < 3) (w : World) : Calls Try.prog 37 #[.agg #[.int .i64 n.op, .int .i64 n.a, .int .i64 n.b, .int .i64 n.c, .int .i64 n.num, .slice (some ⟨vg, 0, none⟩) n.val.length n.val.length], .int .i64 k] w fun e w' => e = .returned (.int .i64 (Tr.kidAt (Co.nd n) k)) ∧ Below w.heap.size w w' := l6Kid_len n vg n.val.length k hk w
theorem node_one {l : List Co} {i : Nat} {n : Co} (hn : n = l.getD i Co.zero) (h : ¬ (n.op < 1 ∨ 17 < n.op)) (hh : Co.hasVal n.op = false) (hl : 0 < n.val.length) : Co.nodeF l i = 1 := by
  cases hf : Co.formOk n i with
  | false => exact Co.node_1 hn h hf
  | true =>
    have hv : Co.valF n = 1 := (valF_no hh).trans (if_pos hl)
    rw [Co.node_v hn h hf (by rw [hv]; decide), hv]

set_option maxRecDepth 100000 in
set_option maxHeartbeats 4000000 in
theorem l6Node_early (b : Nat) (l : List Co) (i : Nat) (n : Co) (w : World) (hrow : Co.Row w b l) (hb : b < w.heap.size) (hi : i < l.length) (h900 : l.length ≤ 900) (hn : n = l.getD i Co.zero) (hlen : n.val.length ≤ 1048576) (hok : ∀ x ∈ n.val, x.ok) (hbad : (n.op < 1 ∨ 17 < n.op) ∨ (Co.high n.op = 0 ∧ n.num ≠ 0) ∨ (Co.hasVal n.op = false ∧ 0 < n.val.length)) :
    Calls Try.prog 32 #[.slice (some ⟨b, 0, none⟩) l.length l.length, .int .i64 i] w fun e w' => e = .returned (.int .i64 (Co.nodeF l i)) ∧ Below w.heap.size w w' := by
  have HI := hide hi
  have hiI : (i : Int) < (l.length : Int) := by omega
  obtain ⟨f0, f1, f2, f3, f4, vg, f5, hvg, hvr⟩ := hrow i hi
  rw [← hn] at f0 f1 f2 f3 f4 f5 hvr
  have HN := hide hn
  have HVR := hide hvr
  have HOK := hide hok
  clear hrow hn hvr hok
  obtain ⟨w1, hw1⟩ : ∃ w1, w1 = w.alloc (.cells #[.int .i64 n.op, .int .i64 n.a, .int .i64 n.b, .int .i64 n.c, .int .i64 n.num, .slice (some ⟨vg, 0, none⟩) n.val.length n.val.length] 48) := ⟨_, rfl⟩
  have B1 : Below w.heap.size w w1 := by rw [hw1]; exact (Below.refl _ _).alloc (Nat.le_refl _) _
  have N1 : Own w1 w.heap.size 48 [.int .i64 n.op, .int .i64 n.a, .int .i64 n.b, .int .i64 n.c, .int .i64 n.num, .slice (some ⟨vg, 0, none⟩) n.val.length n.val.length] := by rw [hw1]; exact ⟨_, heap_alloc_new _ _, rfl⟩
  by_cases hop : n.op < 1 ∨ 17 < n.op
  · have fin := hide (Co.node_6 (unhide HN) hop)
    have hin : (decide (1 ≤ n.op) && decide (n.op ≤ 17)) = false := by
      rw [Bool.and_eq_false_iff, decide_eq_false_iff_not, decide_eq_false_iff_not]; omega
    clear hbad hop
    go_enter Try.func32, Try.ntmps32
    go_wp2_with fail
    rw [← hw1]
    clear hw1 f0 f1 f2 f3 f4 f5
    have c0 := N1.cell 0
    have c1 := N1.cell 1
    have c2 := N1.cell 2
    have c3 := N1.cell 3
    have c4 := N1.cell 4
    have c5 := N1.cell 5
    simp only [List.getElem?_cons_zero, List.getElem?_cons_succ] at c0 c1 c2 c3 c4 c5
    refine (l1In_tr _ _ _ _).mono ?_
    rintro e w2 ⟨rfl, hw2⟩
    subst w2
    rw [hin]
    go_wp2_with fail
    go_ret
    exact ⟨ret_int (unhide fin).symm, B1⟩
  have HOP := hide hop
  have hin : (decide (1 ≤ n.op) && decide (n.op ≤ 17)) = true := by simp; omega
  have HM := hide (fun wq => l6Nums_any n.op wq (by omega) (by omega))
  have HX := hide (fun wq => l6HasVal_any n.op wq)
  by_cases hz : Co.high n.op = 0 ∧ n.num ≠ 0
  · have fin := hide (Co.node_1 (unhide HN) (unhide HOP) (Co.form_no (.inr hz)))
    have g1 : (Co.high n.op == 0) = true := by simp [hz.1]
    have g2 : (n.num != 0) = true := by simpa using hz.2
    clear hbad hop hz
    go_enter Try.func32, Try.ntmps32
    go_wp2_with fail
    rw [← hw1]
    clear hw1 f0 f1 f2 f3 f4 f5
    have c0 := N1.cell 0
    have c1 := N1.cell 1
    have c2 := N1.cell 2
    have c3 := N1.cell 3
    have c4 := N1.cell 4
    have c5 := N1.cell 5
    simp only [List.getElem?_cons_zero, List.getElem?_cons_succ] at c0 c1 c2 c3 c4 c5
    refine (l1In_tr _ _ _ _).mono ?_
    rintro e w2 ⟨rfl, hw2⟩
    subst w2
    rw [hin]
    go_wp2_with fail
    refine ((unhide HM) _).mono ?_
    rintro e w2 ⟨rfl, hw2⟩
    subst w2
    go_wp2_with fail
    go_ret
    exact ⟨ret_int (unhide fin).symm, B1⟩
  have hv : Co.hasVal n.op = false ∧ 0 < n.val.length := by
    rcases hbad with h | h | h
    · exact absurd h hop
    · exact absurd h hz
    · exact h
  have fin := hide (node_one (unhide HN) (unhide HOP) hv.1 hv.2)
  have hcond : (Co.high n.op == 0) = false ∨ ((Co.high n.op == 0) = true ∧ (n.num != 0) = false) := by
    by_cases q : Co.high n.op = 0
    · right; exact ⟨by simp [q], by simp; omega⟩
    · left; simpa using q
  have hT := hv.1
  have g3 : (n.val.length : Int) > 0 := by omega
  clear hbad hop hz hv
  go_enter Try.func32, Try.ntmps32
  go_wp2_with fail
  rw [← hw1]
  clear hw1 f0 f1 f2 f3 f4 f5
  have c0 := N1.cell 0
  have c1 := N1.cell 1
  have c2 := N1.cell 2
  have c3 := N1.cell 3
  have c4 := N1.cell 4
  have c5 := N1.cell 5
  simp only [List.getElem?_cons_zero, List.getElem?_cons_succ] at c0 c1 c2 c3 c4 c5
  refine (l1In_tr _ _ _ _).mono ?_
  rintro e w2 ⟨rfl, hw2⟩
  subst w2
  rw [hin]
  go_wp2_with fail
  refine ((unhide HM) _).mono ?_
  rintro e w2 ⟨rfl, hw2⟩
  subst w2
  rcases hcond with g1 | ⟨g1, g2⟩
  all_goals
    go_wp2_with fail
    refine ((unhide HX) _).mono ?_
    rintro e w2 ⟨rfl, hw2⟩
    subst w2
    rw [hT]
    go_wp2_with fail
    go_ret
    exact ⟨ret_int (unhide fin).symm, B1⟩

set_option maxRecDepth 100000 in
set_option maxHeartbeats 4000000 in
theorem l6Node_val (b : Nat) (l : List Co) (i : Nat) (n : Co) (w : World) (hrow : Co.Row w b l) (hb : b < w.heap.size) (hi : i < l.length) (h900 : l.length ≤ 900) (hn : n = l.getD i Co.zero) (hlen : n.val.length ≤ 1048576) (hok : ∀ x ∈ n.val, x.ok) (hop : ¬ (n.op < 1 ∨ 17 < n.op)) (hz2 : Co.high n.op ≠ 0 ∨ n.num = 0) (hT : Co.hasVal n.op = true) :
    Calls Try.prog 32 #[.slice (some ⟨b, 0, none⟩) l.length l.length, .int .i64 i] w fun e w' => e = .returned (.int .i64 (Co.nodeF l i)) ∧ Below w.heap.size w w' := by
  have hiI : (i : Int) < (l.length : Int) := by omega
  obtain ⟨f0, f1, f2, f3, f4, vg, f5, hvg, hvr⟩ := hrow i hi
  rw [← hn] at f0 f1 f2 f3 f4 f5 hvr
  have HN := hide hn
  have HVR := hide hvr
  have HOK := hide hok
  clear hrow hn hvr hok
  obtain ⟨w1, hw1⟩ : ∃ w1, w1 = w.alloc (.cells #[.int .i64 n.op, .int .i64 n.a, .int .i64 n.b, .int .i64 n.c, .int .i64 n.num, .slice (some ⟨vg, 0, none⟩) n.val.length n.val.length] 48) := ⟨_, rfl⟩
  have B1 : Below w.heap.size w w1 := by rw [hw1]; exact (Below.refl _ _).alloc (Nat.le_refl _) _
  have N1 : Own w1 w.heap.size 48 [.int .i64 n.op, .int .i64 n.a, .int .i64 n.b, .int .i64 n.c, .int .i64 n.num, .slice (some ⟨vg, 0, none⟩) n.val.length n.val.length] := by rw [hw1]; exact ⟨_, heap_alloc_new _ _, rfl⟩
  have hcond : (Co.high n.op == 0) = false ∨ ((Co.high n.op == 0) = true ∧ (n.num != 0) = false) := by
    by_cases q : Co.high n.op = 0
    · right; exact ⟨by simp [q], by simp; omega⟩
    · left; simpa using q
  have HOP := hide hop
  have HZ := hide hz2
  have hin : (decide (1 ≤ n.op) && decide (n.op ≤ 17)) = true := by simp; omega
  have HK := hide (fun wq => l6Kids_any n.op wq (by omega) (by omega))
  have HX := hide (fun wq => l6HasVal_any n.op wq)
  have HM := hide (fun wq => l6Nums_any n.op wq (by omega) (by omega))
  have HKL := hide (Co.kids_le n.op)
  have HF := hide (fun wq (hrq : Row wq vg 0 n.val) hgq => specFault_any n.val vg 0 n.val.length wq hrq hgq hlen (Nat.le_refl _) (unhide HOK))
  have HT := hide hT
  clear hop hz2 
  go_enter Try.func32, Try.ntmps32
  go_wp2_with fail
  rw [← hw1]
  clear hw1 f0 f1 f2 f3 f4 f5
  have c0 := N1.cell 0
  have c1 := N1.cell 1
  have c2 := N1.cell 2
  have c3 := N1.cell 3
  have c4 := N1.cell 4
  have c5 := N1.cell 5
  simp only [List.getElem?_cons_zero, List.getElem?_cons_succ] at c0 c1 c2 c3 c4 c5
  refine (l1In_tr _ _ _ _).mono ?_
  rintro e w2 ⟨rfl, hw2⟩
  subst w2
  rw [hin]
  go_wp2_with fail
  refine ((unhide HM) _).mono ?_
  rintro e w2 ⟨rfl, hw2⟩
  subst w2
  rcases hcond with g1 | ⟨g1, g2⟩
  all_goals
    go_wp2_with fail
    refine ((unhide HX) _).mono ?_
    rintro e w2 ⟨rfl, hw2⟩
    subst w2
    rw [hT]
    go_wp2_with fail
    clear c0 c1 c2 c3 c4 c5
    go_loopg [8] 3 (fun gh s8 wr => ∃ k : Nat, Hid (gh = 3 - k) ∧ s8 = .int .i64 k ∧ k ≤ 3 ∧ Hid (∀ j, j < k → Tr.one (decide (j < Co.kids n.op)) (Tr.kidAt (Co.nd n) j) i = true) ∧ Below w1.heap.size w1 wr)
    case atStart => exact ⟨0, rfl, rfl, by omega, fun j hj => absurd hj (by omega), Below.refl _ _⟩
    case round =>
      obtain ⟨k, hg, rfl, hk, hall, hbel⟩ := hrel
      have N2 := N1.below hbel N1.lt
      have c0 := N2.cell 0
      have c1 := N2.cell 1
      have c2 := N2.cell 2
      have c3 := N2.cell 3
      have c4 := N2.cell 4
      have c5 := N2.cell 5
      simp only [List.getElem?_cons_zero, List.getElem?_cons_succ] at c0 c1 c2 c3 c4 c5
      by_cases hlt : k < 3
      · have hbad := hide (fun h => Co.node_1 (unhide HN) (unhide HOP) (Co.form_no (.inl (Tr.links_bad (n := Co.nd n) (ks := Co.kids n.op) (i := i) hlt h))))
        have hnext : Hid (Tr.one (decide (k < Co.kids n.op)) (Tr.kidAt (Co.nd n) k) i = true → ∀ j, j < k + 1 → Tr.one (decide (j < Co.kids n.op)) (Tr.kidAt (Co.nd n) j) i = true) := fun h j hj => by
          by_cases e : j = k
          · subst e; exact h
          · exact hall.out j (by omega)
        have hltI : (k : Int) < 3 := by omega
        have HKD := hide (fun wq => l6Kid_any n vg k hlt wq)
        clear hlt
        go_wp2_with fail
        refine ((unhide HKD) _).mono ?_
        rintro e w3 ⟨rfl, hb3⟩
        have B3 : Below w1.heap.size w1 w3 := hbel.trans (hb3.mono hbel.size)
        have N3 := N2.below hb3 N2.lt
        clear c0 c1 c2 c3 c4 c5 N2
        have c0 := N3.cell 0
        simp only [List.getElem?_cons_zero] at c0
        have Bw : Below w.heap.size w w3 := B1.trans (B3.mono B1.size)
        generalize Tr.kidAt (Co.nd n) k = x at *
        go_wp2_with fail
        refine ((unhide HK) _).mono ?_
        rintro e w4 ⟨rfl, hw4⟩
        subst w4
        by_cases hks : (Co.kids n.op : Int) ≤ k
        · have g5 : decide ((Co.kids n.op : Int) ≤ (k : Int)) = true := decide_eq_true hks
          have g6 : decide ((k : Int) < (Co.kids n.op : Int)) = false := decide_eq_false (by omega)
          have hd : decide (k < Co.kids n.op) = false := decide_eq_false (by omega)
          have hks2 : Co.kids n.op ≤ k := by omega
          rw [hd] at hbad hnext
          clear hd
          by_cases hx : x = 0
          · have hn2 := hide (hnext.out (by simp [Tr.one, hx]))
            have g7 : (x != 0) = false := by simp [hx]
            clear hx hnext hbad
            go_wp2_with fail
            refine ((unhide HK) _).mono ?_
            rintro e w4 ⟨rfl, hw4⟩
            subst w4
            go_wp2_with fail
            go_roundg (3 - (k + 1))
            case rel => exact ⟨k + 1, rfl, by go_num, by omega, unhide hn2, B3⟩
            case measure => have := hg.out; omega
          · have fin := hide ((unhide hbad) (by simp [Tr.one, hx]))
            have g7 : (x != 0) = true := by simpa using hx
            clear hx hnext hbad
            go_wp2_with fail
            go_ret
            exact ⟨ret_int (unhide fin).symm, Bw⟩
        · have g5 : decide ((Co.kids n.op : Int) ≤ (k : Int)) = false := decide_eq_false hks
          have g6 : decide ((k : Int) < (Co.kids n.op : Int)) = true := decide_eq_true (by omega)
          have hks3 : (k : Int) < (Co.kids n.op : Int) := by omega
          have hd : decide (k < Co.kids n.op) = true := decide_eq_true (by omega)
          have hks2 : k < Co.kids n.op := by omega
          rw [hd] at hbad hnext
          clear hd
          go_wp2_with fail
          refine ((unhide HK) _).mono ?_
          rintro e w4 ⟨rfl, hw4⟩
          subst w4
          go_wp2_with fail
          refine (l1In_tr _ _ _ _).mono ?_
          rintro e w4 ⟨rfl, hw4⟩
          subst w4
          cases hq : (decide (0 ≤ x) && decide (x ≤ (i : Int) - 1)) with
          | true =>
            have hn2 := hide (hnext.out (by simp only [Bool.and_eq_true, decide_eq_true_eq] at hq; simp [Tr.one]; omega))
            clear hnext hbad
            go_wp2_with fail
            go_roundg (3 - (k + 1))
            case rel => exact ⟨k + 1, rfl, by go_num, by omega, unhide hn2, B3⟩
            case measure => have := hg.out; omega
          | false =>
            have fin := hide ((unhide hbad) (by simp only [Bool.and_eq_false_iff, decide_eq_false_iff_not] at hq; simp [Tr.one]; omega))
            clear hnext hbad
            go_wp2_with fail
            go_ret
            exact ⟨ret_int (unhide fin).symm, Bw⟩
      · have hke : k = 3 := by omega
        subst hke
        have fm := hide (Co.form_yes (n := n) (i := i) (Tr.links_all (n := Co.nd n) hall.out) (unhide HZ))
        have Bw : Below w.heap.size w wr := B1.trans (hbel.mono B1.size)
        clear hall
        go_wp2_with fail
        refine ((unhide HX) _).mono ?_
        rintro e w5 ⟨rfl, hw5⟩
        subst w5
        rw [unhide HT]
        have HR2 := hide ((unhide HVR).below Bw hvg)
        have HF2 := hide ((unhide HF) wr (unhide HR2) (Nat.lt_of_lt_of_le hvg Bw.size))
        go_wp2_with fail
        refine (unhide HF2).mono ?_
        rintro e w5 ⟨rfl, hb5⟩
        have B5 : Below w.heap.size w w5 := Bw.trans (hb5.mono Bw.size)
        have N5 := N2.below hb5 N2.lt
        clear c0 c1 c2 c3 c4 c5 N2 HF2
        have c0 := N5.cell 0
        have c1 := N5.cell 1
        have c2 := N5.cell 2
        have c3 := N5.cell 3
        have c4 := N5.cell 4
        have c5 := N5.cell 5
        simp only [List.getElem?_cons_zero, List.getElem?_cons_succ] at c0 c1 c2 c3 c4 c5
        by_cases hf : M.valueFault n.val = 0
        · rw [hf]
          have hl1 := (M.fault_zero hf).1
          have HFZ := hide hf
          obtain ⟨m0, _, _, _, _⟩ := (unhide HR2).below hb5 (Nat.lt_of_lt_of_le hvg Bw.size) 0 (by omega)
          simp only [Nat.zero_mul, Nat.add_zero] at m0
          have hlI : (0 : Int) < (n.val.length : Int) := by omega
          clear hf
          by_cases h11 : n.op = 11
          · have g11 : (n.op == 11) = true := by simp [h11]
            by_cases h4 : (n.val.getD 0 M.zero).kind = 4
            · have HVF := hide (valF_ok (unhide HT) (unhide HFZ) (fun h => h.2 h4))
              rw [h4] at m0
              clear h11 h4
              go_wp2_with fail
              refine (l1In_tr _ _ _ _).mono ?_
              rintro e w6 ⟨rfl, hw6⟩
              subst w6
              cases hq : (decide (Co.low n.op ≤ n.num) && decide (n.num ≤ Co.high n.op)) with
              | false =>
                have fin := hide (Co.node_3 (unhide HN) (unhide HOP) (unhide fm) (unhide HVF) (by simp only [Bool.and_eq_false_iff, decide_eq_false_iff_not] at hq; omega))
                go_wp2_with fail
                go_ret
                exact ⟨ret_int (unhide fin).symm, B5⟩
              | true =>
                have fin := hide (Co.node_0 (unhide HN) (unhide HOP) (unhide fm) (unhide HVF) (by simp only [Bool.and_eq_true, decide_eq_true_eq] at hq; omega))
                go_wp2_with fail
                go_ret
                exact ⟨ret_int (unhide fin).symm, B5⟩
            · have hvk := valF_kind (unhide HT) (unhide HFZ) h11 h4
              have fin := hide ((Co.node_v (unhide HN) (unhide HOP) (unhide fm) (by rw [hvk]; decide)).trans hvk)
              have g4 : ((n.val.getD 0 M.zero).kind != 4) = true := by simpa using h4
              generalize (n.val.getD 0 M.zero).kind = kk at *
              clear h11 h4 hvk
              go_wp2_with fail
              go_ret
              exact ⟨ret_int (unhide fin).symm, B5⟩
          · have g11 : (n.op == 11) = false := by simpa using h11
            have HVF := hide (valF_ok (unhide HT) (unhide HFZ) (fun h => h11 h.1))
            clear h11
            go_wp2_with fail
            refine (l1In_tr _ _ _ _).mono ?_
            rintro e w6 ⟨rfl, hw6⟩
            subst w6
            cases hq : (decide (Co.low n.op ≤ n.num) && decide (n.num ≤ Co.high n.op)) with
            | false =>
              have fin := hide (Co.node_3 (unhide HN) (unhide HOP) (unhide fm) (unhide HVF) (by simp only [Bool.and_eq_false_iff, decide_eq_false_iff_not] at hq; omega))
              go_wp2_with fail
              go_ret
              exact ⟨ret_int (unhide fin).symm, B5⟩
            | true =>
              have fin := hide (Co.node_0 (unhide HN) (unhide HOP) (unhide fm) (unhide HVF) (by simp only [Bool.and_eq_true, decide_eq_true_eq] at hq; omega))
              go_wp2_with fail
              go_ret
              exact ⟨ret_int (unhide fin).symm, B5⟩
        · have hvk := valF_bad (unhide HT) hf
          have fin := hide ((Co.node_v (unhide HN) (unhide HOP) (unhide fm) (by rw [hvk]; exact hf)).trans hvk)
          clear hvk
          generalize M.valueFault n.val = q at *
          have g12 : (q != 0) = true := by simpa using hf
          clear hf
          go_wp2_with fail
          go_ret
          exact ⟨ret_int (unhide fin).symm, B5⟩

set_option maxRecDepth 100000 in
set_option maxHeartbeats 4000000 in
theorem l6Node_no (b : Nat) (l : List Co) (i : Nat) (n : Co) (w : World) (hrow : Co.Row w b l) (hb : b < w.heap.size) (hi : i < l.length) (h900 : l.length ≤ 900) (hn : n = l.getD i Co.zero) (hlen : n.val.length ≤ 1048576) (hok : ∀ x ∈ n.val, x.ok) (hop : ¬ (n.op < 1 ∨ 17 < n.op)) (hz2 : Co.high n.op ≠ 0 ∨ n.num = 0) (hT : Co.hasVal n.op = false) (hl0 : n.val.length = 0) :
    Calls Try.prog 32 #[.slice (some ⟨b, 0, none⟩) l.length l.length, .int .i64 i] w fun e w' => e = .returned (.int .i64 (Co.nodeF l i)) ∧ Below w.heap.size w w' := by
  have hiI : (i : Int) < (l.length : Int) := by omega
  obtain ⟨f0, f1, f2, f3, f4, vg, f5, hvg, hvr⟩ := hrow i hi
  rw [← hn] at f0 f1 f2 f3 f4 f5 hvr
  have HN := hide hn
  have HVR := hide hvr
  have HOK := hide hok
  clear hrow hn hvr hok
  rw [hl0] at f5
  obtain ⟨w1, hw1⟩ : ∃ w1, w1 = w.alloc (.cells #[.int .i64 n.op, .int .i64 n.a, .int .i64 n.b, .int .i64 n.c, .int .i64 n.num, .slice (some ⟨vg, 0, none⟩) 0 0] 48) := ⟨_, rfl⟩
  have B1 : Below w.heap.size w w1 := by rw [hw1]; exact (Below.refl _ _).alloc (Nat.le_refl _) _
  have N1 : Own w1 w.heap.size 48 [.int .i64 n.op, .int .i64 n.a, .int .i64 n.b, .int .i64 n.c, .int .i64 n.num, .slice (some ⟨vg, 0, none⟩) 0 0] := by rw [hw1]; exact ⟨_, heap_alloc_new _ _, rfl⟩
  have hcond : (Co.high n.op == 0) = false ∨ ((Co.high n.op == 0) = true ∧ (n.num != 0) = false) := by
    by_cases q : Co.high n.op = 0
    · right; exact ⟨by simp [q], by simp; omega⟩
    · left; simpa using q
  have HOP := hide hop
  have HZ := hide hz2
  have hin : (decide (1 ≤ n.op) && decide (n.op ≤ 17)) = true := by simp; omega
  have HK := hide (fun wq => l6Kids_any n.op wq (by omega) (by omega))
  have HX := hide (fun wq => l6HasVal_any n.op wq)
  have HM := hide (fun wq => l6Nums_any n.op wq (by omega) (by omega))
  have HKL := hide (Co.kids_le n.op)
  have HVF := hide (show Co.valF n = 0 from (valF_no hT).trans (if_neg (by omega)))
  have HT := hide hT
  clear hop hz2 hl0
  go_enter Try.func32, Try.ntmps32
  go_wp2_with fail
  rw [← hw1]
  clear hw1 f0 f1 f2 f3 f4 f5
  have c0 := N1.cell 0
  have c1 := N1.cell 1
  have c2 := N1.cell 2
  have c3 := N1.cell 3
  have c4 := N1.cell 4
  have c5 := N1.cell 5
  simp only [List.getElem?_cons_zero, List.getElem?_cons_succ] at c0 c1 c2 c3 c4 c5
  refine (l1In_tr _ _ _ _).mono ?_
  rintro e w2 ⟨rfl, hw2⟩
  subst w2
  rw [hin]
  go_wp2_with fail
  refine ((unhide HM) _).mono ?_
  rintro e w2 ⟨rfl, hw2⟩
  subst w2
  rcases hcond with g1 | ⟨g1, g2⟩
  all_goals
    go_wp2_with fail
    refine ((unhide HX) _).mono ?_
    rintro e w2 ⟨rfl, hw2⟩
    subst w2
    rw [hT]
    go_wp2_with fail
    clear c0 c1 c2 c3 c4 c5
    go_loopg [8] 3 (fun gh s8 wr => ∃ k : Nat, Hid (gh = 3 - k) ∧ s8 = .int .i64 k ∧ k ≤ 3 ∧ Hid (∀ j, j < k → Tr.one (decide (j < Co.kids n.op)) (Tr.kidAt (Co.nd n) j) i = true) ∧ Below w1.heap.size w1 wr)
    case atStart => exact ⟨0, rfl, rfl, by omega, fun j hj => absurd hj (by omega), Below.refl _ _⟩
    case round =>
      obtain ⟨k, hg, rfl, hk, hall, hbel⟩ := hrel
      have N2 := N1.below hbel N1.lt
      have c0 := N2.cell 0
      have c1 := N2.cell 1
      have c2 := N2.cell 2
      have c3 := N2.cell 3
      have c4 := N2.cell 4
      have c5 := N2.cell 5
      simp only [List.getElem?_cons_zero, List.getElem?_cons_succ] at c0 c1 c2 c3 c4 c5
      by_cases hlt : k < 3
      · have hbad := hide (fun h => Co.node_1 (unhide HN) (unhide HOP) (Co.form_no (.inl (Tr.links_bad (n := Co.nd n) (ks := Co.kids n.op) (i := i) hlt h))))
        have hnext : Hid (Tr.one (decide (k < Co.kids n.op)) (Tr.kidAt (Co.nd n) k) i = true → ∀ j, j < k + 1 → Tr.one (decide (j < Co.kids n.op)) (Tr.kidAt (Co.nd n) j) i = true) := fun h j hj => by
          by_cases e : j = k
          · subst e; exact h
          · exact hall.out j (by omega)
        have hltI : (k : Int) < 3 := by omega
        have HKD := hide (fun wq => l6Kid_len n vg 0 k hlt wq)
        clear hlt
        go_wp2_with fail
        refine ((unhide HKD) _).mono ?_
        rintro e w3 ⟨rfl, hb3⟩
        have B3 : Below w1.heap.size w1 w3 := hbel.trans (hb3.mono hbel.size)
        have N3 := N2.below hb3 N2.lt
        clear c0 c1 c2 c3 c4 c5 N2
        have c0 := N3.cell 0
        simp only [List.getElem?_cons_zero] at c0
        have Bw : Below w.heap.size w w3 := B1.trans (B3.mono B1.size)
        generalize Tr.kidAt (Co.nd n) k = x at *
        go_wp2_with fail
        refine ((unhide HK) _).mono ?_
        rintro e w4 ⟨rfl, hw4⟩
        subst w4
        by_cases hks : (Co.kids n.op : Int) ≤ k
        · have g5 : decide ((Co.kids n.op : Int) ≤ (k : Int)) = true := decide_eq_true hks
          have g6 : decide ((k : Int) < (Co.kids n.op : Int)) = false := decide_eq_false (by omega)
          have hd : decide (k < Co.kids n.op) = false := decide_eq_false (by omega)
          have hks2 : Co.kids n.op ≤ k := by omega
          rw [hd] at hbad hnext
          clear hd
          by_cases hx : x = 0
          · have hn2 := hide (hnext.out (by simp [Tr.one, hx]))
            have g7 : (x != 0) = false := by simp [hx]
            clear hx hnext hbad
            go_wp2_with fail
            refine ((unhide HK) _).mono ?_
            rintro e w4 ⟨rfl, hw4⟩
            subst w4
            go_wp2_with fail
            go_roundg (3 - (k + 1))
            case rel => exact ⟨k + 1, rfl, by go_num, by omega, unhide hn2, B3⟩
            case measure => have := hg.out; omega
          · have fin := hide ((unhide hbad) (by simp [Tr.one, hx]))
            have g7 : (x != 0) = true := by simpa using hx
            clear hx hnext hbad
            go_wp2_with fail
            go_ret
            exact ⟨ret_int (unhide fin).symm, Bw⟩
        · have g5 : decide ((Co.kids n.op : Int) ≤ (k : Int)) = false := decide_eq_false hks
          have g6 : decide ((k : Int) < (Co.kids n.op : Int)) = true := decide_eq_true (by omega)
          have hks3 : (k : Int) < (Co.kids n.op : Int) := by omega
          have hd : decide (k < Co.kids n.op) = true := decide_eq_true (by omega)
          have hks2 : k < Co.kids n.op := by omega
          rw [hd] at hbad hnext
          clear hd
          go_wp2_with fail
          refine ((unhide HK) _).mono ?_
          rintro e w4 ⟨rfl, hw4⟩
          subst w4
          go_wp2_with fail
          refine (l1In_tr _ _ _ _).mono ?_
          rintro e w4 ⟨rfl, hw4⟩
          subst w4
          cases hq : (decide (0 ≤ x) && decide (x ≤ (i : Int) - 1)) with
          | true =>
            have hn2 := hide (hnext.out (by simp only [Bool.and_eq_true, decide_eq_true_eq] at hq; simp [Tr.one]; omega))
            clear hnext hbad
            go_wp2_with fail
            go_roundg (3 - (k + 1))
            case rel => exact ⟨k + 1, rfl, by go_num, by omega, unhide hn2, B3⟩
            case measure => have := hg.out; omega
          | false =>
            have fin := hide ((unhide hbad) (by simp only [Bool.and_eq_false_iff, decide_eq_false_iff_not] at hq; simp [Tr.one]; omega))
            clear hnext hbad
            go_wp2_with fail
            go_ret
            exact ⟨ret_int (unhide fin).symm, Bw⟩
      · have hke : k = 3 := by omega
        subst hke
        have fm := hide (Co.form_yes (n := n) (i := i) (Tr.links_all (n := Co.nd n) hall.out) (unhide HZ))
        have Bw : Below w.heap.size w wr := B1.trans (hbel.mono B1.size)
        clear hall
        go_wp2_with fail
        refine ((unhide HX) _).mono ?_
        rintro e w5 ⟨rfl, hw5⟩
        subst w5
        rw [unhide HT]
        go_wp2_with fail
        refine (l1In_tr _ _ _ _).mono ?_
        rintro e w6 ⟨rfl, hw6⟩
        subst w6
        cases hq : (decide (Co.low n.op ≤ n.num) && decide (n.num ≤ Co.high n.op)) with
        | false =>
          have fin := hide (Co.node_3 (unhide HN) (unhide HOP) (unhide fm) (unhide HVF) (by simp only [Bool.and_eq_false_iff, decide_eq_false_iff_not] at hq; omega))
          go_wp2_with fail
          go_ret
          exact ⟨ret_int (unhide fin).symm, Bw⟩
        | true =>
          have fin := hide (Co.node_0 (unhide HN) (unhide HOP) (unhide fm) (unhide HVF) (by simp only [Bool.and_eq_true, decide_eq_true_eq] at hq; omega))
          go_wp2_with fail
          go_ret
          exact ⟨ret_int (unhide fin).symm, Bw⟩

theorem l6Node_any (b : Nat) (l : List Co) (i : Nat) (n : Co) (w : World) (hrow : Co.Row w b l) (hb : b < w.heap.size) (hi : i < l.length) (h900 : l.length ≤ 900) (hn : n = l.getD i Co.zero) (hlen : n.val.length ≤ 1048576) (hok : ∀ x ∈ n.val, x.ok) :
    Calls Try.prog 32 #[.slice (some ⟨b, 0, none⟩) l.length l.length, .int .i64 i] w fun e w' => e = .returned (.int .i64 (Co.nodeF l i)) ∧ Below w.heap.size w w' := by
  by_cases hop : n.op < 1 ∨ 17 < n.op
  · exact l6Node_early b l i n w hrow hb hi h900 hn hlen hok (.inl hop)
  by_cases hz : Co.high n.op = 0 ∧ n.num ≠ 0
  · exact l6Node_early b l i n w hrow hb hi h900 hn hlen hok (.inr (.inl hz))
  cases hT : Co.hasVal n.op with
  | true => exact l6Node_val b l i n w hrow hb hi h900 hn hlen hok hop (by omega) hT
  | false =>
    by_cases hl : 0 < n.val.length
    · exact l6Node_early b l i n w hrow hb hi h900 hn hlen hok (.inr (.inr ⟨hT, hl⟩))
    · exact l6Node_no b l i n w hrow hb hi h900 hn hlen hok hop (by omega) hT (by omega)

end Go.Proofs.Ytkjmnkbiflkpdaa

namespace Go.Proofs.Ytkjmnkbiflkpdaa
open Go.RowKit
set_option linter.unusedVariables false
set_option linter.unusedSimpArgs false


/-- The fields of the nodes of a core alone. -/
def Co.Flat (w : World) (b : Nat) (l : List Co) : Prop := ∀ i, i < l.length → w.cell? ⟨b, i * 6, none⟩ = some (.int .i64 (l.getD i Co.zero).op) ∧ w.cell? ⟨b, i * 6 + 1, none⟩ = some (.int .i64 (l.getD i Co.zero).a) ∧ w.cell? ⟨b, i * 6 + 2, none⟩ = some (.int .i64 (l.getD i Co.zero).b) ∧ w.cell? ⟨b, i * 6 + 3, none⟩ = some (.int .i64 (l.getD i Co.zero).c) ∧ w.cell? ⟨b, i * 6 + 4, none⟩ = some (.int .i64 (l.getD i Co.zero).num) ∧ ∃ g : Nat, w.cell? ⟨b, i * 6 + 5, none⟩ = some (.slice (some ⟨g, 0, none⟩) (l.getD i Co.zero).val.length (l.getD i Co.zero).val.length)
theorem Co.Row.flat {w : World} {b : Nat} {l : List Co} (h : Co.Row w b l) : Co.Flat w b l := fun i hi => by
  obtain ⟨h0, h1, h2, h3, h4, g, h5, _, _⟩ := h i hi
  exact ⟨h0, h1, h2, h3, h4, g, h5⟩
theorem Co.Flat.below {B : Nat} {w w' : World} {b : Nat} {l : List Co} (h : Co.Flat w b l) (hb : Below B w w') (hB : b < B) : Co.Flat w' b l := by
  intro i hi
  obtain ⟨h0, h1, h2, h3, h4, g, h5⟩ := h i hi
  exact ⟨(hb.cell (by exact hB)).trans h0, (hb.cell (by exact hB)).trans h1, (hb.cell (by exact hB)).trans h2, (hb.cell (by exact hB)).trans h3, (hb.cell (by exact hB)).trans h4, g, (hb.cell (by exact hB)).trans h5⟩

/-- What l6Order of a node answers, where it may call itself f times deep. -/
def CordSays (b B0 : Nat) (l : List Co) (f : Nat) : Prop := ∀ (i : Nat) (out : List Int) (v : Value) (w : World), i < l.length → i < f → out.length ≤ 5000 - 2 * f → Co.Flat w b l → b < B0 → B0 ≤ w.heap.size → w.ownsRow B0 2 1 v out.length (out.map (Value.int .i64)) →
    Calls Try.prog 33 #[.slice (some ⟨b, 0, none⟩) l.length l.length, .int .i64 i, v] w fun e w' => ∃ v', e = .returned v' ∧ w'.ownsRow B0 2 1 v' (Tr.cutF f (Co.tree l) out i).length ((Tr.cutF f (Co.tree l) out i).map (Value.int .i64)) ∧ Tr.Kp B0 w w'

set_option maxRecDepth 100000 in
set_option maxHeartbeats 2000000 in
theorem l6Order_step (b B0 : Nat) (l : List Co) (f : Nat) (h900 : l.length ≤ 900) (hf : Tr.Fine (Co.tree l)) (hop : ∀ i, i < l.length → 1 ≤ (l.getD i Co.zero).op ∧ (l.getD i Co.zero).op ≤ 17) (hf2 : f < 900) (ih : CordSays b B0 l f) : CordSays b B0 l (f + 1) := by
  intro i out v w hi hif hlen hrow hb hB hown
  have hiI : (i : Int) < (l.length : Int) := by omega
  have hopi := hop i hi
  obtain ⟨f0, f1, f2, f3, f4, vg, f5⟩ := hrow i hi
  have htl := Co.tree_length l
  have hT := Co.tree_getD l hi
  have hkk := Co.nd_kids (l.getD i Co.zero).op
  have hkl := Co.kids_le (l.getD i Co.zero).op
  have hall := hide (Tr.cutK_all f (Co.tree l) out i)
  have hfin := hide (fun j hj => Tr.kid_fine hf i (by omega) j hj)
  have hsucc := hide (fun j hj => Tr.cutK_succ f (Co.tree l) ((Co.tree l).getD i Nd.zero) out j hj)
  have hstop := hide (fun j h hm => Tr.cutK_stop f (Co.tree l) ((Co.tree l).getD i Nd.zero) out j _ h hm (Nat.le_refl _))
  have hbd := hide (fun j => Tr.cutK_le f (Co.tree l) ((Co.tree l).getD i Nd.zero) out (5000 - 2 * (f + 1)) (by omega) (by omega) j)
  have hz := hide (Tr.cutK_zero f (Co.tree l) ((Co.tree l).getD i Nd.zero) out)
  have HR := hide hrow
  have HIH := hide ih
  have HK := hide (fun wq => l6Kids_any (l.getD i Co.zero).op wq hopi.1 hopi.2)
  have HKD := hide (fun j hj wq => l6Kid_any (l.getD i Co.zero) vg j hj wq)
  rw [hT] at hall hfin hsucc hstop hbd hz
  obtain ⟨i0, hi0, hz0, hz1, hz2⟩ := info_parts Tr.infoI
  clear hop hf hrow ih hopi hT
  generalize l.getD i Co.zero = n at *
  have hnk : Tr.kids (Co.nd n).op = Co.kids n.op := hkk
  rw [hnk] at hall hfin hsucc hstop
  clear hnk hkk
  obtain ⟨ks, hks⟩ : ∃ ks, ks = Co.kids n.op := ⟨_, rfl⟩
  rw [← hks] at hkl hall hfin hsucc hstop HK
  clear hks
  rw [htl] at hsucc hstop
  clear htl
  obtain ⟨w1, hw1⟩ : ∃ w1, w1 = w.alloc (.cells #[.int .i64 n.op, .int .i64 n.a, .int .i64 n.b, .int .i64 n.c, .int .i64 n.num, .slice (some ⟨vg, 0, none⟩) n.val.length n.val.length] 48) := ⟨_, rfl⟩
  have B1 : Below w.heap.size w w1 := by rw [hw1]; exact (Below.refl _ _).alloc (Nat.le_refl _) _
  have N1 : Own w1 w.heap.size 48 [.int .i64 n.op, .int .i64 n.a, .int .i64 n.b, .int .i64 n.c, .int .i64 n.num, .slice (some ⟨vg, 0, none⟩) n.val.length n.val.length] := by rw [hw1]; exact ⟨_, heap_alloc_new _ _, rfl⟩
  have hown1 := Tr.owns_below hown B1
  obtain ⟨va, vc, hv⟩ := Tr.owns_slice hown
  have HO1 := hide hown1
  clear hown hown1
  subst hv
  go_enter Try.func33, Try.ntmps33
  go_wp2_with fail
  rw [← hw1]
  clear hw1 f0 f1 f2 f3 f4 f5
  go_loopg [2, 8] 4 (fun gh s2 s8 wr => ∃ (j : Nat) (L : List Int), Hid (gh = 4 - j) ∧ s8 = .int .i64 j ∧ j ≤ ks ∧ Hid (L = Tr.cutK f (Co.tree l) (Co.nd n) out j) ∧ wr.ownsRow B0 2 1 s2 L.length (L.map (Value.int .i64)) ∧ Tr.Kp B0 w1 wr ∧ Own wr w.heap.size 48 [.int .i64 n.op, .int .i64 n.a, .int .i64 n.b, .int .i64 n.c, .int .i64 n.num, .slice (some ⟨vg, 0, none⟩) n.val.length n.val.length])
  case atStart => exact ⟨0, out, rfl, rfl, by omega, (unhide hz).symm, unhide HO1, Tr.Kp.refl _ _, N1⟩
  case round =>
    obtain ⟨j, L, hg, rfl, hj, hL, hown, hbel, hN⟩ := hrel
    obtain ⟨ua, uc, hu⟩ := Tr.owns_slice hown
    subst hu
    have K1 : Tr.Kp B0 w w1 := Tr.Kp.of_below B1 hB
    have KW := K1.trans hbel
    have hsz := KW.1.size
    have c0 := hN.cell 0
    have c1 := hN.cell 1
    have c2 := hN.cell 2
    have c3 := hN.cell 3
    have c4 := hN.cell 4
    have c5 := hN.cell 5
    simp only [List.getElem?_cons_zero, List.getElem?_cons_succ] at c0 c1 c2 c3 c4 c5
    have hLb : L.length ≤ 5000 := by rw [hL.out]; have := (unhide hbd) j; omega
    have HL := hide hown
    have hjI : (j : Int) ≤ (ks : Int) := by omega
    by_cases hgo : j < ks ∧ L.length ≤ l.length
    · obtain ⟨hjl, hll⟩ := hgo
      have g1 : (j : Int) < (ks : Int) := by omega
      have g2 : (L.length : Int) ≤ (l.length : Int) := by omega
      have hb1 := (unhide hfin) j hjl
      have hs1 := hide ((unhide hsucc) j hjl)
      obtain ⟨x, hx⟩ : ∃ x : Nat, Tr.kidAt (Co.nd n) j = x := ⟨(Tr.kidAt (Co.nd n) j).toNat, by omega⟩
      have HKJ := hide (fun wq => (unhide HKD) j (by omega) wq)
      rw [hx] at hb1 hs1 HKJ
      simp only [Int.toNat_natCast] at hs1
      have hxi : x < i := by omega
      clear hx hb1
      go_wp2_with fail
      refine ((unhide HK) _).mono ?_
      rintro e w2 ⟨rfl, hw2⟩
      subst w2
      go_wp2_with fail
      refine ((unhide HKJ) _).mono ?_
      rintro e w3 ⟨rfl, hb3⟩
      have K3 : Tr.Kp B0 wr w3 := Tr.Kp.of_below hb3 (by omega)
      have hN3 := K3.own hN (by decide)
      have KW3 := KW.trans K3
      clear c0 c1 c2 c3 c4 c5
      go_wp2_with fail
      refine ((unhide HIH) x L _ w3 (by omega) (by omega) (by omega) ((unhide HR).below KW3.1 hb) hb (by have := KW3.1.size; omega) (Tr.owns_below (unhide HL) hb3)).mono ?_
      rintro e w4 ⟨v4, rfl, ho4, k4⟩
      have hN4 := k4.own hN3 (by decide)
      have HO4 := hide ho4
      clear ho4
      go_wp2_with fail
      go_roundg (4 - (j + 1))
      case rel => exact ⟨j + 1, _, rfl, by go_num, by omega, by (show _ = _; rw [unhide hs1, ← hL.out, if_pos hll]), unhide HO4, hbel.trans (K3.trans k4), hN4⟩
      case measure => have := hg.out; omega
    · have hend : L = Tr.cutK f (Co.tree l) (Co.nd n) out ks := by
        by_cases hjl : j < ks
        · rw [hL.out]
          exact ((unhide hstop) j (by rw [← hL.out]; intro h; exact hgo ⟨hjl, h⟩) (by omega)).symm
        · rw [hL.out, show j = ks by omega]
      have hfinal : Hid (Tr.cutF (f + 1) (Co.tree l) out i = L ++ [(i : Int)]) := (unhide hall).trans (by rw [hend])
      have hcond : (¬ (j : Int) < (ks : Int)) ∨ ((j : Int) < (ks : Int) ∧ ¬ (L.length : Int) ≤ (l.length : Int)) := by omega
      have hbse := hide (Tr.owns_base hown)
      have hown' := hide (fun o => hown.alloc o)
      have hone := hide (Tr.one_word wr (i : Int))
      have honep := hide (Tr.one_plain (i : Int))
      have hb63 : L.length + 1 ≤ maxLen := by unfold maxLen; omega
      have hby : (L.length + 1) * 8 ≤ 140737488355328 := by omega
      have hbase : B0 ≤ wr.heap.size + 1 := by omega
      clear hend hown hgo
      rcases hcond with g1 | ⟨g1, g2⟩
      · have g3 : decide ((j : Int) < (ks : Int)) = false := decide_eq_false g1
        go_wp2_with fail
        refine ((unhide HK) _).mono ?_
        rintro e w2 ⟨rfl, hw2⟩
        subst w2
        go_wp2_with (at_builtin; refine wpList_append_own_at _ rfl (.tmp 33) (.tmp 35) 32 rfl B0 2 i0 (.int .i64 0) 1 8 Try.underlying32 hi0 hz0 hz1 hz2 rfl (by decide) _ L.length _ rfl ((unhide hown') _) ⟨wr.heap.size, 0, none⟩ 1 1 [.int .i64 i] rfl rfl (unhide hone) (unhide honep) hb63 hby (by simpa using hbase) ?_)
        intro v' w3 ho3 hg3 _ _
        have K3 : Tr.Kp B0 w w3 := (KW.trans (Tr.Kp.of_below ((Below.refl _ _).alloc (Nat.le_refl _) _) (by omega))).trans (Tr.Kp.grown ((unhide hown') _) hg3 (by simpa using hbase))
        obtain ⟨xa, xc, hx⟩ := Tr.owns_slice ho3
        subst hx
        have HO3 := hide ho3
        clear ho3 hg3
        go_wp2_with fail
        go_ret
        refine ⟨_, rfl, ?_, K3⟩
        rw [hfinal.out, List.length_append, List.map_append]; exact unhide HO3
      · have g4 : decide ((L.length : Int) ≤ (l.length : Int)) = false := decide_eq_false g2
        go_wp2_with fail
        refine ((unhide HK) _).mono ?_
        rintro e w2 ⟨rfl, hw2⟩
        subst w2
        go_wp2_with (at_builtin; refine wpList_append_own_at _ rfl (.tmp 33) (.tmp 35) 32 rfl B0 2 i0 (.int .i64 0) 1 8 Try.underlying32 hi0 hz0 hz1 hz2 rfl (by decide) _ L.length _ rfl ((unhide hown') _) ⟨wr.heap.size, 0, none⟩ 1 1 [.int .i64 i] rfl rfl (unhide hone) (unhide honep) hb63 hby (by simpa using hbase) ?_)
        intro v' w3 ho3 hg3 _ _
        have K3 : Tr.Kp B0 w w3 := (KW.trans (Tr.Kp.of_below ((Below.refl _ _).alloc (Nat.le_refl _) _) (by omega))).trans (Tr.Kp.grown ((unhide hown') _) hg3 (by simpa using hbase))
        obtain ⟨xa, xc, hx⟩ := Tr.owns_slice ho3
        subst hx
        have HO3 := hide ho3
        clear ho3 hg3
        go_wp2_with fail
        go_ret
        refine ⟨_, rfl, ?_, K3⟩
        rw [hfinal.out, List.length_append, List.map_append]; exact unhide HO3

theorem l6Order_any (b B0 : Nat) (l : List Co) (h900 : l.length ≤ 900) (hf : Tr.Fine (Co.tree l)) (hop : ∀ i, i < l.length → 1 ≤ (l.getD i Co.zero).op ∧ (l.getD i Co.zero).op ≤ 17) (f : Nat) : f ≤ 900 → CordSays b B0 l f := by
  induction f with
  | zero => intro _ i out v w hi hif; omega
  | succ f ih => intro h; exact l6Order_step b B0 l f h900 hf hop (by omega) (ih (by omega))


end Go.Proofs.Ytkjmnkbiflkpdaa

namespace Go.Proofs.Ytkjmnkbiflkpdaa
open Go.RowKit
set_option linter.unusedVariables false
set_option linter.unusedSimpArgs false


namespace Co
/-- Whether all that stands below a node is known. -/
def okAt (l : List Co) (x : Int) : Bool := !unk l x.toNat
def okF (f : Nat) (l : List Co) (x : Int) : Bool := (Tr.ordF f (tree l) x.toNat).all (okAt l)
theorem ok_ord (f : Nat) (l : List Co) (i : Nat) : okF (f + 1) l i = ((Tr.links ((tree l).getD i Nd.zero)).all (okF f l) && !unk l i) := by
  unfold okF
  rw [show ((i : Int).toNat) = i from Int.toNat_natCast i, Tr.ordF, List.all_append, List.all_flatMap]
  simp [okAt]
theorem ok_take (f : Nat) (l : List Co) (N : Nd) (j : Nat) (hj : j < Tr.kids N.op) : ((Tr.links N).take (j + 1)).all (okF f l) = (((Tr.links N).take j).all (okF f l) && okF f l (Tr.kidAt N j)) := by
  have h : j < (Tr.links N).length := by rw [Tr.links_length]; exact hj
  have e : (Tr.links N)[j] = Tr.kidAt N j := by
    have := Tr.links_getD N j hj
    rw [List.getD_eq_getElem?_getD, List.getElem?_eq_getElem h] at this
    exact this
  rw [List.take_succ_eq_append_getElem h, List.all_append, e]
  simp
theorem ok_none (f : Nat) (l : List Co) (N : Nd) (j : Nat) (h : ((Tr.links N).take j).all (okF f l) = false) : (Tr.links N).all (okF f l) = false := by
  cases hc : (Tr.links N).all (okF f l) with
  | false => rfl
  | true =>
    rw [List.all_eq_true] at hc
    have : ((Tr.links N).take j).all (okF f l) = true := by rw [List.all_eq_true]; exact fun x hx => hc x (List.mem_of_mem_take hx)
    rw [this] at h; exact absurd h (by decide)
/-- Is a number in a list? -/
def has (ss : List Int) (x : Int) : Bool := ss.any (· == x)
theorem has_snoc (ss : List Int) (t x : Int) : has (ss ++ [t]) x = (has ss x || (t == x)) := by simp [has]
theorem has_not (ss : List Int) (x : Int) (h : ∀ j, j < ss.length → ss.getD j 0 ≠ x) : has ss x = false := by
  unfold has
  rw [List.any_eq_false]
  intro y hy
  obtain ⟨j, hj, rfl⟩ := List.getElem_of_mem hy
  have := h j hj
  rw [List.getD_eq_getElem?_getD, List.getElem?_eq_getElem hj] at this
  simpa using this
theorem has_yes (ss : List Int) (x : Int) (j : Nat) (hj : j < ss.length) (h : ss.getD j 0 = x) : has ss x = true := by
  unfold has
  rw [List.any_eq_true]
  refine ⟨ss[j], List.getElem_mem hj, ?_⟩
  rw [List.getD_eq_getElem?_getD, List.getElem?_eq_getElem hj] at h
  simpa using h
end Co
theorem ints_get (ss : List Int) (j : Nat) (hj : j < ss.length) : (ss.map (Value.int .i64))[j]? = some (.int .i64 (ss.getD j 0)) := by
  rw [List.getElem?_map, List.getElem?_eq_getElem hj, List.getD_eq_getElem?_getD, List.getElem?_eq_getElem hj]; rfl
theorem ints_plain (ss : List Int) : ∀ u ∈ ss.map (Value.int .i64), u.oneCell' = true := by
  intro u hu
  obtain ⟨x, _, rfl⟩ := List.mem_map.1 hu
  rfl

/-- What l6Known of a node answers, where it may call itself f times deep. -/
def KnoSays (b : Nat) (l : List Co) (f : Nat) : Prop := ∀ (i : Nat) (ss : List Int) (nv : Value) (w : World), i < l.length → i < f → ss.length + f ≤ 2000 → (∀ x, 0 ≤ x → Co.has ss x = Tr.bound (Co.tree l) i (Co.slotT x)) → Co.Flat w b l → b < w.heap.size → w.ownsRow 0 2 1 nv ss.length (ss.map (Value.int .i64)) →
    Calls Try.prog 34 #[.slice (some ⟨b, 0, none⟩) l.length l.length, .int .i64 i, nv] w fun e w' => e = .returned (.bool (Co.okF f l i)) ∧ Below w.heap.size w w'

set_option maxRecDepth 100000 in
set_option maxHeartbeats 4000000 in
theorem l6Known_var (b : Nat) (l : List Co) (f : Nat) (h900 : l.length ≤ 900) (i : Nat) (ss : List Int) (nv : Value) (w : World) (hi : i < l.length) (hlen : ss.length ≤ 2000) (hsem : ∀ x, 0 ≤ x → Co.has ss x = Tr.bound (Co.tree l) i (Co.slotT x)) (hrow : Co.Flat w b l) (hb : b < w.heap.size) (hnv : w.ownsRow 0 2 1 nv ss.length (ss.map (Value.int .i64))) (h15 : (l.getD i Co.zero).op = 15) (hnum : 0 ≤ (l.getD i Co.zero).num) :
    Calls Try.prog 34 #[.slice (some ⟨b, 0, none⟩) l.length l.length, .int .i64 i, nv] w fun e w' => e = .returned (.bool (Co.okF (f + 1) l i)) ∧ Below w.heap.size w w' := by
  have hiI : (i : Int) < (l.length : Int) := by omega
  have fin0 := hide (show Co.okF (f + 1) l i = Co.has ss (l.getD i Co.zero).num by
    rw [Co.ok_ord, Co.tree_links l hi, h15, hsem _ hnum]
    have e0 : Co.kids 15 = 0 := by decide
    rw [e0]
    unfold Co.unk
    rw [h15]
    simp)
  obtain ⟨f0, f1, f2, f3, f4, vg, f5⟩ := hrow i hi
  rw [h15] at f0
  have HNV := hide hnv
  obtain ⟨na, nc, hne⟩ := Tr.owns_slice hnv
  subst hne
  clear hsem hrow hnum hnv
  generalize l.getD i Co.zero = n at *
  obtain ⟨w1, hw1⟩ : ∃ w1, w1 = w.alloc (.cells #[.int .i64 15, .int .i64 n.a, .int .i64 n.b, .int .i64 n.c, .int .i64 n.num, .slice (some ⟨vg, 0, none⟩) n.val.length n.val.length] 48) := ⟨_, rfl⟩
  have B1 : Below w.heap.size w w1 := by rw [hw1]; exact (Below.refl _ _).alloc (Nat.le_refl _) _
  have N1 : Own w1 w.heap.size 48 [.int .i64 15, .int .i64 n.a, .int .i64 n.b, .int .i64 n.c, .int .i64 n.num, .slice (some ⟨vg, 0, none⟩) n.val.length n.val.length] := by rw [hw1]; exact ⟨_, heap_alloc_new _ _, rfl⟩
  have NV1 := hide (Tr.owns_below (unhide HNV) B1)
  generalize n.num = t at *
  go_enter Try.func34, Try.ntmps34
  go_wp2_with fail
  rw [← hw1]
  clear hw1 f0 f1 f2 f3 f4 f5 HNV
  go_loopg [8] ss.length (fun gh s8 wr => ∃ k : Nat, Hid (gh = ss.length - k) ∧ s8 = .int .i64 k ∧ k ≤ ss.length ∧ Hid (∀ j, j < k → ss.getD j 0 ≠ t) ∧ Below w1.heap.size w1 wr)
  case atStart => exact ⟨0, rfl, rfl, by omega, fun j hj => absurd hj (by omega), Below.refl _ _⟩
  case round =>
    obtain ⟨k, hg, rfl, hk, hno, hbel⟩ := hrel
    have N2 := N1.below hbel N1.lt
    have BW : Below w.heap.size w wr := B1.trans (hbel.mono B1.size)
    by_cases hlt : k < ss.length
    · have hltI : (k : Int) < (ss.length : Int) := by omega
      have NV2 := Tr.owns_below (unhide NV1) hbel
      obtain ⟨_, ⟨h0, h1⟩ | ⟨g, cap, cur, hgv, _, hh, hnc, _, _, _⟩⟩ := NV2
      · exfalso; omega
      have NV3 := Tr.owns_below (unhide NV1) hbel
      cases hgv
      have hc := (Tr.owns_cell NV3 k hlt).trans (ints_get ss k hlt)
      have c4 := N2.cell 4
      simp only [List.getElem?_cons_zero, List.getElem?_cons_succ] at c4
      have q0 := fun q => show (wr.drewN q).cell? ⟨g, k, none⟩ = some (.int .i64 (ss.getD k 0)) from hc
      have q4 := fun q => show (wr.drewN q).cell? ⟨w.heap.size, 4, none⟩ = some (.int .i64 t) from c4
      have hnext : Hid (ss.getD k 0 ≠ t → ∀ j, j < k + 1 → ss.getD j 0 ≠ t) := fun h j hj => by
        by_cases e : j = k
        · subst e; exact h
        · exact hno.out j (by omega)
      have hyes := hide (fun h => Co.has_yes ss t k hlt h)
      clear hc c4 hh NV3 hlt
      generalize ss.getD k 0 = y at *
      cases hy : (y == t) with
      | true =>
        have fin := hide ((unhide fin0).trans ((unhide hyes) (by simpa using hy)))
        clear hnext hyes
        go_wp2_with fail
        go_quiet (fail)
        go_wp2_with fail
        go_ret
        exact ⟨ret_bool (unhide fin).symm, below_drewN BW _⟩
      | false =>
        have hn2 := hide (hnext.out (by simpa using hy))
        clear hnext hyes
        go_wp2_with fail
        go_quiet (fail)
        clear q0 q4
        have hb2 : Below w1.heap.size w1 (wr.drewN nq) := ⟨hbel.os, hbel.tape, hbel.output, hbel.size, hbel.block⟩
        go_wp2_with fail
        go_roundg (ss.length - (k + 1))
        case rel => exact ⟨k + 1, rfl, by go_num, by omega, unhide hn2, hb2⟩
        case measure => have := hg.out; omega
    · have hke : k = ss.length := by omega
      have fin := hide ((unhide fin0).trans (Co.has_not ss t (fun j hj => hno.out j (by omega))))
      clear hke
      go_wp2_with fail
      go_ret
      exact ⟨ret_bool (unhide fin).symm, BW⟩

set_option maxRecDepth 100000 in
set_option maxHeartbeats 8000000 in
theorem l6Known_step (b : Nat) (l : List Co) (f : Nat) (h900 : l.length ≤ 900) (hf : Tr.Fine (Co.tree l)) (hod : Tr.inOrder (Co.tree l) = true) (hop : ∀ i, i < l.length → 1 ≤ (l.getD i Co.zero).op ∧ (l.getD i Co.zero).op ≤ 17) (hnum : ∀ i, i < l.length → 0 ≤ (l.getD i Co.zero).num) (hf2 : f < 900) (ih : KnoSays b l f) : KnoSays b l (f + 1) := by
  intro i ss nv w hi hif hlen hsem hrow hb hnv
  by_cases h15 : (l.getD i Co.zero).op = 15
  · exact l6Known_var b l f h900 i ss nv w hi (by omega) hsem hrow hb hnv h15 (hnum i hi)
  have hiI : (i : Int) < (l.length : Int) := by omega
  have hopi := hop i hi
  obtain ⟨f0, f1, f2, f3, f4, vg, f5⟩ := hrow i hi
  have htl := Co.tree_length l
  have hT := Co.tree_getD l hi
  have hni := hnum i hi
  have fin0 := hide (show Co.okF (f + 1) l i = (Tr.links (Co.nd (l.getD i Co.zero))).all (Co.okF f l) by
    rw [Co.ok_ord, hT]
    unfold Co.unk
    rw [beq_eq_false_iff_ne.2 h15]
    simp)
  have hkl := Co.kids_le (l.getD i Co.zero).op
  have hkk : Tr.kids (Co.nd (l.getD i Co.zero)).op = Co.kids (l.getD i Co.zero).op := Co.nd_kids _
  have hfin := hide (fun j hj => Tr.kid_fine hf i (by omega) j hj)
  have htk := hide (fun j hj => Co.ok_take f l (Co.nd (l.getD i Co.zero)) j hj)
  have hnone := hide (fun j h => Co.ok_none f l (Co.nd (l.getD i Co.zero)) j h)
  have hlall := hide (Tr.links_length (Co.nd (l.getD i Co.zero)))
  have hbk := hide (fun (j : Nat) (hj : j < Tr.kids ((Co.tree l).getD i Nd.zero).op) (x : Nat) (hx : Tr.kidAt ((Co.tree l).getD i Nd.zero) j = x) (t : ByteArray) => show Tr.bound (Co.tree l) x t = ((Tr.binds ((Co.tree l).getD i Nd.zero) x && (((Co.tree l).getD i Nd.zero).text.toList == t.toList)) || Tr.bound (Co.tree l) i t) from Tr.bound_kid hf hod (by omega) (by rw [← hx]; exact Tr.kid_mem _ j hj) t)
  have hbn := hide (fun (j : Nat) (hj : j < Tr.kids ((Co.tree l).getD i Nd.zero).op) => Tr.binds_kid hod (show i < (Co.tree l).length by omega) hj)
  rw [hT] at hfin hbk hbn
  rw [hkk] at hfin htk hbk hbn hlall
  have HR := hide hrow
  have HIH := hide ih
  have HK := hide (fun wq => l6Kids_any (l.getD i Co.zero).op wq hopi.1 hopi.2)
  have HKD := hide (fun j hj wq => l6Kid_any (l.getD i Co.zero) vg j hj wq)
  obtain ⟨t0, ht0, hy0, hy1, hy2⟩ := info_parts Tr.infoI
  have HSEM := hide hsem
  have HNV := hide hnv
  obtain ⟨na, nc, hnve⟩ := Tr.owns_slice hnv
  subst hnve
  have g15 : ((l.getD i Co.zero).op == 15) = false := beq_eq_false_iff_ne.2 h15
  clear hop hf hrow ih hod hsem hnv h15 hT hkk htl hopi hnum
  generalize l.getD i Co.zero = n at *
  obtain ⟨ks, hks⟩ : ∃ ks, ks = Co.kids n.op := ⟨_, rfl⟩
  rw [← hks] at hkl hfin htk HK hbk hbn hlall
  clear hks
  obtain ⟨w1, hw1⟩ : ∃ w1, w1 = w.alloc (.cells #[.int .i64 n.op, .int .i64 n.a, .int .i64 n.b, .int .i64 n.c, .int .i64 n.num, .slice (some ⟨vg, 0, none⟩) n.val.length n.val.length] 48) := ⟨_, rfl⟩
  have B1 : Below w.heap.size w w1 := by rw [hw1]; exact (Below.refl _ _).alloc (Nat.le_refl _) _
  have N1 : Own w1 w.heap.size 48 [.int .i64 n.op, .int .i64 n.a, .int .i64 n.b, .int .i64 n.c, .int .i64 n.num, .slice (some ⟨vg, 0, none⟩) n.val.length n.val.length] := by rw [hw1]; exact ⟨_, heap_alloc_new _ _, rfl⟩
  go_enter Try.func34, Try.ntmps34
  go_wp2_with fail
  rw [← hw1]
  clear hw1 f0 f1 f2 f3 f4 f5
  go_loopg [9, 10] 4 (fun gh s9 s10 wr => ∃ j : Nat, Hid (gh = 4 - j) ∧ s9 = .int .i64 j ∧ j ≤ ks ∧ Hid (((Tr.links (Co.nd n)).take j).all (Co.okF f l) = true) ∧ Below w1.heap.size w1 wr)
  case atStart => exact ⟨0, rfl, rfl, by omega, by simp [Hid], Below.refl _ _⟩
  case round =>
    obtain ⟨j, hg, rfl, hj, hall, hbel⟩ := hrel
    have BW : Below w.heap.size w wr := B1.trans (hbel.mono B1.size)
    have hN := N1.below hbel N1.lt
    have hnvr := hide (Tr.owns_below (unhide HNV) BW)
    have c0 := hN.cell 0
    have c1 := hN.cell 1
    have c2 := hN.cell 2
    have c3 := hN.cell 3
    have c4 := hN.cell 4
    have c5 := hN.cell 5
    simp only [List.getElem?_cons_zero, List.getElem?_cons_succ] at c0 c1 c2 c3 c4 c5
    by_cases hjl : j < ks
    · have g1 : (j : Int) < (ks : Int) := by omega
      have hb1 := (unhide hfin) j hjl
      have htj := hide ((unhide htk) j hjl)
      obtain ⟨x, hx⟩ : ∃ x : Nat, Tr.kidAt (Co.nd n) j = x := ⟨(Tr.kidAt (Co.nd n) j).toNat, by omega⟩
      have HKJ := hide (fun wq => (unhide HKD) j (by omega) wq)
      have hbx := hide (fun t => (unhide hbk) j hjl x hx t)
      have hnx := (unhide hbn) j hjl
      rw [hx] at hb1 htj HKJ hnx
      have hxi : x < i := by omega
      have HNX := hide (show Tr.binds (Co.nd n) x = ((n.op == 14 && j == 1) || (n.op == 13 && j == 2)) by
        have h20 : ((Co.nd n).op == 20) = (n.op == 14) := Co.ndOp_20 n.op
        have h19 : ((Co.nd n).op == 19) = (n.op == 13) := Co.ndOp_19 n.op
        rw [hnx, h20, h19])
      have HS0 : Hid (∀ s2, s2 = (if Tr.binds (Co.nd n) x = true then ss ++ [n.num] else ss) → s2.length + f ≤ 2000 ∧ ∀ y, 0 ≤ y → Co.has s2 y = Tr.bound (Co.tree l) x (Co.slotT y)) := fun s2 h2 => by
        cases hbb : Tr.binds (Co.nd n) x with
        | true =>
          rw [hbb, if_pos rfl] at h2
          subst h2
          refine ⟨by rw [List.length_append]; simp only [List.length_cons, List.length_nil]; omega, fun y hy => ?_⟩
          rw [Co.has_snoc, (unhide hbx) (Co.slotT y), hbb, Bool.true_and, (unhide HSEM) y hy, Bool.or_comm]
          have : ((Co.nd n).text.toList == (Co.slotT y).toList) = (n.num == y) := Co.slotT_eq hni hy
          rw [this]
        | false =>
          rw [hbb, if_neg (by decide)] at h2
          subst h2
          refine ⟨by omega, fun y hy => ?_⟩
          rw [(unhide hbx) (Co.slotT y), hbb, Bool.false_and, Bool.false_or, (unhide HSEM) y hy]
      clear hx hb1 hnx hbx
      go_wp2_with fail
      refine ((unhide HK) _).mono ?_
      rintro e w2 ⟨rfl, hw2⟩
      subst w2
      go_upto_region 13 with fail
      go_cut [54] from 31 to 68 (fun s54 wx => s54 = .bool ((n.op == 14 && j == 1) || (n.op == 13 && j == 2)) ∧ wx = wr)
      case first =>
        clear HS0 HNX htj
        have e1 : ((j : Int) == 1) = (j == 1) := by
          by_cases h : j = 1
          · subst h; rfl
          · rw [beq_eq_false_iff_ne.2 h, beq_eq_false_iff_ne.2 (by omega)]
        have e2 : ((j : Int) == 2) = (j == 2) := by
          by_cases h : j = 2
          · subst h; rfl
          · rw [beq_eq_false_iff_ne.2 h, beq_eq_false_iff_ne.2 (by omega)]
        have E1 := hide e1
        have E2 := hide e2
        clear e1 e2
        cases g20 : (n.op == 14) with
        | true =>
          have g19 : (n.op == 13) = false := by
            have : n.op = 14 := by simpa using g20
            rw [this]; rfl
          cases hq1 : ((j : Int) == 1) with
          | true =>
            have HF := hide (show ((n.op == 14 && j == 1) || (n.op == 13 && j == 2)) = true by rw [g20, ← unhide E1, hq1]; rfl)
            go_wp2_with fail
            go_meet
            case rel => exact ⟨congrArg Value.bool (unhide HF).symm, rfl⟩
          | false =>
            have HF := hide (show ((n.op == 14 && j == 1) || (n.op == 13 && j == 2)) = false by rw [g20, ← unhide E1, hq1, g19]; rfl)
            go_wp2_with fail
            go_meet
            case rel => exact ⟨congrArg Value.bool (unhide HF).symm, rfl⟩
        | false =>
          cases g19 : (n.op == 13) with
          | true =>
            cases hq2 : ((j : Int) == 2) with
            | true =>
              have HF := hide (show ((n.op == 14 && j == 1) || (n.op == 13 && j == 2)) = true by rw [g20, g19, ← unhide E2, hq2]; rfl)
              go_wp2_with fail
              go_meet
              case rel => exact ⟨congrArg Value.bool (unhide HF).symm, rfl⟩
            | false =>
              have HF := hide (show ((n.op == 14 && j == 1) || (n.op == 13 && j == 2)) = false by rw [g20, g19, ← unhide E2, hq2]; rfl)
              go_wp2_with fail
              go_meet
              case rel => exact ⟨congrArg Value.bool (unhide HF).symm, rfl⟩
          | false =>
            have HF := hide (show ((n.op == 14 && j == 1) || (n.op == 13 && j == 2)) = false by rw [g20, g19]; rfl)
            go_wp2_with fail
            go_meet
            case rel => exact ⟨congrArg Value.bool (unhide HF).symm, rfl⟩
      case rest =>
      obtain ⟨h54, hwc⟩ := hcut
      subst h54
      subst wc
      rw [unhide HNX] at HS0
      generalize ((n.op == 14 && j == 1) || (n.op == 13 && j == 2)) = bq at *
      clear HNX
      go_upto_if 54 with fail
      go_cut [10] from 31 to 68 (fun s10 wx => ∃ s2 : List Int, (s2.length + f ≤ 2000 ∧ ∀ y, 0 ≤ y → Co.has s2 y = Tr.bound (Co.tree l) x (Co.slotT y)) ∧ wx.ownsRow 0 2 1 s10 s2.length (s2.map (Value.int .i64)) ∧ Below wr.heap.size wr wx)
      case first =>
        cases bq with
        | true =>
          have HS := hide (HS0.out (ss ++ [n.num]) rfl)
          clear HS0 htj
          have KEEP := hide (show ∀ W, Below wr.heap.size wr W → (W.cell? ⟨w.heap.size, 4, none⟩ = some (.int .i64 n.num) ∧ Below wr.heap.size wr W) from fun W hb => ⟨(hb.cell (by exact hN.lt)).trans c4, hb⟩)
          have NMV := hide (show ∀ W, Below wr.heap.size wr W → W.ownsRow 0 2 1 (.slice na ss.length nc) ss.length (ss.map (Value.int .i64)) from fun W hb => Tr.owns_below (unhide hnvr) hb)
          go_wp2_with fail
          go_region_held_law (fun w' => w'.cell? ⟨w.heap.size, 4, none⟩ = some (.int .i64 n.num) ∧ Below wr.heap.size wr w')
            (first | assumption | exact (unhide KEEP) _ (by assumption) | exact (unhide KEEP) _ (Below.refl _ _).drew | exact (unhide KEEP) _ (Ap.below_alloc (And.right (by assumption))))
            (first
              | (refine Ap.step_append_row ((wr.alloc (.cells #[] 2)).drew) rfl (.tmp 55) (.tmp 56) 32 rfl wr.heap.size 2 t0 (.int .i64 0) 8 Try.underlying32 ht0 hy0 hy1 hy2 rfl (.slice (some ⟨wr.heap.size, 0, none⟩) 0 0) 0 [] rfl (Ap.owns_empty (by omega) (Ap.heapE _ _)) 0 2 _ ss.length (ss.map (Value.int .i64)) rfl ((unhide NMV) _ (by exact And.right (by assumption))) (ints_plain ss) (by unfold maxLen; omega) (by omega) (Below.size (B := wr.heap.size) (by exact And.right (by assumption))) ?_
                 intro v1 w1' ho1 hg1
                 have hB1 : Below wr.heap.size wr w1' := Below.grown (by exact And.right (by assumption)) hg1 (Below.size (B := wr.heap.size) (by exact And.right (by assumption))) (by intro q hq; simp only [Value.ownBlock, Option.some.injEq] at hq; omega))
              | (refine Ap.step_append_row (((wr.alloc (.cells #[] 2)).alloc (.cells #[.int .i64 n.num] 2)).drew) rfl (.tmp 55) (.tmp 56) 32 rfl wr.heap.size 2 t0 (.int .i64 0) 8 Try.underlying32 ht0 hy0 hy1 hy2 rfl (.slice (some ⟨wr.heap.size, 0, none⟩) 0 0) 0 [] rfl (Ap.owns_empty (by omega) (Ap.heapEK _ _ _)) 0 2 _ ss.length (ss.map (Value.int .i64)) rfl ((unhide NMV) _ (by exact And.right (by assumption))) (ints_plain ss) (by unfold maxLen; omega) (by omega) (Below.size (B := wr.heap.size) (by exact And.right (by assumption))) ?_
                 intro v1 w1' ho1 hg1
                 have hB1 : Below wr.heap.size wr w1' := Below.grown (by exact And.right (by assumption)) hg1 (Below.size (B := wr.heap.size) (by exact And.right (by assumption))) (by intro q hq; simp only [Value.ownBlock, Option.some.injEq] at hq; omega)
                 have hk1 : w1'.cell? ⟨wr.heap.size + 1, 0, none⟩ = some (.int .i64 n.num) := (World.grownBy.cell_far hg1 ⟨wr.heap.size + 1, 0, none⟩ (by simp) (Ap.ne_own (wr.heap.size + 1) wr.heap.size 0 0 (by omega))).trans (Ap.cellEK _ _ _))
              | (refine Ap.step_append_row (((wr.alloc (.cells #[.int .i64 n.num] 2)).alloc (.cells #[] 2)).drew) rfl (.tmp 55) (.tmp 56) 32 rfl wr.heap.size 2 t0 (.int .i64 0) 8 Try.underlying32 ht0 hy0 hy1 hy2 rfl (.slice (some ⟨wr.heap.size + 1, 0, none⟩) 0 0) 0 [] rfl (Ap.owns_empty (by omega) (Ap.heapKE _ _ _)) 0 2 _ ss.length (ss.map (Value.int .i64)) rfl ((unhide NMV) _ (by exact And.right (by assumption))) (ints_plain ss) (by unfold maxLen; omega) (by omega) (Below.size (B := wr.heap.size) (by exact And.right (by assumption))) ?_
                 intro v1 w1' ho1 hg1
                 have hB1 : Below wr.heap.size wr w1' := Below.grown (by exact And.right (by assumption)) hg1 (Below.size (B := wr.heap.size) (by exact And.right (by assumption))) (by intro q hq; simp only [Value.ownBlock, Option.some.injEq] at hq; omega)
                 have hk1 : w1'.cell? ⟨wr.heap.size, 0, none⟩ = some (.int .i64 n.num) := (World.grownBy.cell_far hg1 ⟨wr.heap.size, 0, none⟩ (by simp <;> omega) (Ap.ne_own wr.heap.size (wr.heap.size + 1) 0 0 (by omega))).trans (Ap.cellKE _ _ _))
              | (refine Ap.step_append_any _ rfl (.tmp 57) (.tmp 60) 32 rfl wr.heap.size 2 t0 (.int .i64 0) 1 8 Try.underlying32 ht0 hy0 hy1 hy2 rfl (by decide) _ (0 + ss.length) _ rfl (by first | exact ho1 | exact ho1.alloc _) _ _ _ [.int .i64 n.num] rfl rfl (Ap.one_of (by first | assumption | exact World.cell?_alloc_mark _ _ _ _ _ | simp)) (by intro u hu; simp only [List.mem_cons, List.not_mem_nil, or_false] at hu; subst hu; rfl) (by unfold maxLen; omega) (by omega) (Below.size (B := wr.heap.size) (by exact And.right (by assumption))) ?_
                 intro v2 w2' ho2 hg2
                 have hB2 : Below wr.heap.size wr w2' := Below.grown (by exact And.right (by assumption)) hg2 (Below.size (B := wr.heap.size) (by exact And.right (by assumption))) (Tr.owns_base ho1)))
          all_goals
            have HV2 := hide (show w2'.ownsRow 0 2 1 v2 (ss ++ [n.num]).length ((ss ++ [n.num]).map (Value.int .i64)) by
              have := Tr.owns_mono ho2 (Nat.zero_le _)
              rw [List.length_append, List.map_append]
              simpa using this)
            have HB2 := hide hB2
            obtain ⟨xa, xc, hxe⟩ := Tr.owns_slice (unhide HV2)
            clear ho2
            subst hxe
            have HV3 := hide (show w2'.ownsRow 0 2 1 (.slice xa (ss.length + 1) xc) (ss ++ [n.num]).length ((ss ++ [n.num]).map (Value.int .i64)) by
              have h := unhide HV2
              rwa [show (Value.slice xa (ss ++ [n.num]).length xc) = .slice xa (ss.length + 1) xc by rw [List.length_append]; rfl] at h)
            go_wp2_with fail
            all_goals first
              | (rename_i dst d heq
                 have hd : d = 61 := (Option.some.inj (show some 61 = some d from heq)).symm
                 subst hd
                 clear heq
                 simp only [List.set_cons_zero, List.set_cons_succ]
                 go_meet
                 exact ⟨_, unhide HS, unhide HV3, unhide HB2⟩)
              | (rename_i heq
                 exact absurd (show some 61 = none from heq) (by decide))
              | (go_meet
                 exact ⟨_, unhide HS, unhide HV3, unhide HB2⟩)
        | false =>
          have HS := hide (HS0.out ss rfl)
          clear HS0 htj
          go_wp2_with fail
          go_meet
          case rel => exact ⟨ss, unhide HS, unhide hnvr, Below.refl _ _⟩
      case rest =>
      obtain ⟨s2, hs2, hv2, hbx2⟩ := hcut
      obtain ⟨xa, xc, hxe⟩ := Tr.owns_slice hv2
      have HV2 := hide hv2
      have HS2 := hide hs2
      clear hv2 HS0 c0 c1 c2 c3 c4 c5 hs2
      subst hxe
      have hN2 := hN.below hbx2 hN.lt
      have c0 := hN2.cell 0
      have c1 := hN2.cell 1
      have c2 := hN2.cell 2
      have c3 := hN2.cell 3
      have c4 := hN2.cell 4
      have c5 := hN2.cell 5
      simp only [List.getElem?_cons_zero, List.getElem?_cons_succ] at c0 c1 c2 c3 c4 c5
      go_wp2_with fail
      refine ((unhide HKJ) _).mono ?_
      rintro e w3 ⟨rfl, hb3⟩
      have B3 : Below w1.heap.size w1 w3 := (hbel.trans (hbx2.mono hbel.size)).trans (hb3.mono (Nat.le_trans hbel.size hbx2.size))
      have BW3 : Below w.heap.size w w3 := B1.trans (B3.mono B1.size)
      clear c0 c1 c2 c3 c4 c5 HKJ
      have HQ := hide ((unhide HIH) x s2 _ w3 (by omega) (by omega) (unhide HS2).1 (unhide HS2).2 ((unhide HR).below BW3 hb) (Nat.lt_of_lt_of_le hb BW3.size) (Tr.owns_below (unhide HV2) hb3))
      generalize hq : Co.okF f l x = q at HQ htj
      clear hq
      go_wp2_with fail
      refine (unhide HQ).mono ?_
      rintro e w4 ⟨rfl, hb4⟩
      have B4 : Below w1.heap.size w1 w4 := B3.trans (hb4.mono B3.size)
      clear HQ HV2 HS2
      cases q with
      | true =>
        have hn2 := hide (show ((Tr.links (Co.nd n)).take (j + 1)).all (Co.okF f l) = true by rw [unhide htj, hall.out]; rfl)
        clear htj
        go_wp2_with fail
        go_roundg (4 - (j + 1))
        case rel => exact ⟨j + 1, rfl, by go_num, by omega, unhide hn2, B4⟩
        case measure => have := hg.out; omega
      | false =>
        have fin := hide ((unhide fin0).trans ((unhide hnone) (j + 1) (by rw [unhide htj, hall.out]; rfl)))
        have BW4 : Below w.heap.size w w4 := B1.trans (B4.mono B1.size)
        clear htj
        go_wp2_with fail
        go_ret
        exact ⟨ret_bool (unhide fin).symm, BW4⟩
    · have hje : j = ks := by omega
      have fin := hide ((unhide fin0).trans (show (Tr.links (Co.nd n)).all (Co.okF f l) = true by
        have := hall.out
        rw [List.take_of_length_le (by rw [unhide hlall]; omega)] at this
        exact this))
      have g1 : ¬ (j : Int) < (ks : Int) := by omega
      clear hje
      go_wp2_with fail
      refine ((unhide HK) _).mono ?_
      rintro e w2 ⟨rfl, hw2⟩
      subst w2
      go_wp2_with fail
      go_ret
      exact ⟨ret_bool (unhide fin).symm, BW⟩

theorem l6Known_any (b : Nat) (l : List Co) (h900 : l.length ≤ 900) (hf : Tr.Fine (Co.tree l)) (hod : Tr.inOrder (Co.tree l) = true) (hop : ∀ i, i < l.length → 1 ≤ (l.getD i Co.zero).op ∧ (l.getD i Co.zero).op ≤ 17) (hnum : ∀ i, i < l.length → 0 ≤ (l.getD i Co.zero).num) (f : Nat) : f ≤ 900 → KnoSays b l f := by
  induction f with
  | zero => intro _ i ss nv w hi hif; omega
  | succ f ih => intro h; exact l6Known_step b l f h900 hf hod hop hnum (by omega) (ih (by omega))

end Go.Proofs.Ytkjmnkbiflkpdaa

namespace Go.Proofs.Ytkjmnkbiflkpdaa
open Go.RowKit
set_option linter.unusedVariables false
set_option linter.unusedSimpArgs false


namespace Co
theorem up_known (l : List Co) (n : Nat) : (Tr.up 0 n).all (okAt l) = known l n := by
  unfold Tr.up known
  rw [List.all_map, ← List.range_eq_range']
  congr 1
theorem ok_known {l : List Co} (hf : Tr.Fine (tree l)) (h0 : 0 < l.length) (ho : Tr.inOrder (tree l) = true) : okF l.length l ((l.length - 1 : Nat) : Int) = known l l.length := by
  have htl := tree_length l
  have h := (Tr.inOrder_iff hf (by omega)).1 ho
  rw [htl] at h
  unfold okF
  rw [Int.toNat_natCast, ← up_known, ← h]
  unfold Tr.ord
  rw [show l.length - 1 + 1 = l.length by omega]
theorem deep_le {l : List Co} (hf : Tr.Fine (tree l)) (h0 : 0 < l.length) (ho : Tr.inOrder (tree l) = true) {k : Nat} (hk : k < l.length) : Tr.dep (tree l) k ≤ Tr.dep (tree l) (l.length - 1) := by
  have htl := tree_length l
  have h := (Tr.inOrder_iff hf (by omega)).1 ho
  rw [htl] at h
  have := Tr.dep_ord hf (l.length - 1) (by omega) (k : Int) (by
    rw [h]
    unfold Tr.up
    exact List.mem_map.2 ⟨k, by rw [List.mem_range'_1]; omega, rfl⟩)
  simpa using this
end Co

set_option maxRecDepth 100000 in
set_option maxHeartbeats 8000000 in
theorem specCoreFault_any (b : Nat) (l : List Co) (w : World) (hrow : Co.Row w b l) (hb : b < w.heap.size) (hn : l.length ≤ 1048576) (hsz : ∀ i, i < l.length → (l.getD i Co.zero).val.length ≤ 1048576) (hok : ∀ c ∈ l, c.ok) :
    Calls Try.prog 21 #[.slice (some ⟨b, 0, none⟩) l.length l.length] w fun e w' => e = .returned (.int .i64 (Co.fault l)) ∧ Below w.heap.size w w' := by
  by_cases hm : l.length < 1 ∨ 900 < l.length
  · have fin := hide (Co.fault_many hm)
    rcases hm with hm | hm
    · have h0 : l.length = 0 := by omega
      rw [h0]
      clear hrow hsz hn h0 hm hok
      go_enter Try.func21, Try.ntmps21
      go_wp2_with fail
      go_ret
      exact ⟨ret_int (unhide fin).symm, Below.refl _ _⟩
    · have h1 : decide ((l.length : Int) < 1) = false := decide_eq_false (by omega)
      have h2 : (l.length : Int) > 900 := by omega
      clear hrow hsz hok
      go_enter Try.func21, Try.ntmps21
      go_wp2_with fail
      go_ret
      exact ⟨ret_int (unhide fin).symm, Below.refl _ _⟩
  have h1 : decide ((l.length : Int) < 1) = false := decide_eq_false (by omega)
  have h2 : decide ((l.length : Int) > 900) = false := decide_eq_false (by omega)
  have h900 : l.length ≤ 900 := by omega
  have h0 : 0 < l.length := by omega
  have HM := hide hm
  have HR := hide hrow
  have HS := hide hsz
  have HK := hide hok
  clear hm hrow hsz hok
  go_enter Try.func21, Try.ntmps21
  go_wp2_with fail
  go_loopg [3] l.length (fun gh s3 wr => ∃ k : Nat, Hid (gh = l.length - k) ∧ s3 = .int .i64 k ∧ k ≤ l.length ∧ Hid (Co.nf l k = 0) ∧ Below w.heap.size w wr)
  case atStart => exact ⟨0, rfl, rfl, by omega, rfl, Below.refl _ _⟩
  case round =>
    obtain ⟨k, hg, rfl, hk, hnf, hbel⟩ := hrel
    by_cases hlt : k < l.length
    · have hltI : (k : Int) < (l.length : Int) := by omega
      have HC := hide (l6Node_any b l k (l.getD k Co.zero) wr ((unhide HR).below hbel hb) (Nat.lt_of_lt_of_le hb hbel.size) hlt h900 rfl ((unhide HS) k hlt) ((unhide HK) _ (co_mem l k hlt)).2.2.2.2.2)
      have hstop := hide (fun h => Co.fault_node (unhide HM) hlt hnf.out h)
      have hnext := hide (fun h => Co.nf_next hnf.out h)
      generalize Co.nodeF l k = c at HC hstop hnext
      clear hlt
      go_wp2_with fail
      refine (unhide HC).mono ?_
      rintro e w2 ⟨rfl, hb2⟩
      have B2 : Below w.heap.size w w2 := hbel.trans (hb2.mono hbel.size)
      by_cases hc : c = 0
      · have hn2 := hide ((unhide hnext) hc)
        have g1 : (c != 0) = false := by simp [hc]
        clear hc hnext hstop
        go_wp2_with fail
        go_roundg (l.length - (k + 1))
        case rel => exact ⟨k + 1, rfl, by go_num, by omega, unhide hn2, B2⟩
        case measure => have := hg.out; omega
      · have fin := hide ((unhide hstop) hc)
        have g1 : (c != 0) = true := by simpa using hc
        clear hc hnext hstop
        go_wp2_with fail
        go_ret
        exact ⟨ret_int (unhide fin).symm, B2⟩
    · have hke : k = l.length := by omega
      subst hke
      have htl := Co.tree_length l
      have HTL := hide htl
      have HNF := hide hnf.out
      have HFI := hide (Co.fine_of hnf.out)
      have hci := hide (Tr.cut_iff (Co.fine_of hnf.out) (by omega))
      have HOS := hide (l6Order_any b wr.heap.size l h900 (Co.fine_of hnf.out) (co_ops hnf.out) l.length h900 (l.length - 1) [] (.slice none 0 0) wr (by omega) (by omega) (by simp) (((unhide HR).below hbel hb).flat) (Nat.lt_of_lt_of_le hb hbel.size) (Nat.le_refl _) (World.ownsRow_nil _ _ _ _))
      have hcl := Tr.cutF_le l.length (Co.tree l) [] (l.length - 1) 900 (by simp) (by omega)
      rw [htl] at hci
      clear htl
      obtain ⟨m, hm⟩ : ∃ m, l.length = m + 1 := ⟨l.length - 1, by omega⟩
      have hmI : (l.length : Int) - 1 = ((l.length - 1 : Nat) : Int) := by omega
      clear hm
      obtain ⟨L, hL⟩ : ∃ L, L = Tr.cutF l.length (Co.tree l) [] (l.length - 1) := ⟨_, rfl⟩
      rw [← hL] at hci HOS hcl
      clear hL
      go_wp2_with fail
      refine (unhide HOS).mono ?_
      rintro e w2 ⟨v, rfl, ho2, k2⟩
      have B2 : Below w.heap.size w w2 := hbel.trans (k2.1.mono hbel.size)
      obtain ⟨va, vc, hv⟩ := Tr.owns_slice ho2
      subst hv
      by_cases hlen : L.length = l.length
      case neg =>
        have hbad : Tr.inOrder (Co.tree l) = false := by
          cases h : Tr.inOrder (Co.tree l) with
          | false => rfl
          | true => have := (unhide hci).2 h; rw [this, Tr.up_length] at hlen; exact absurd rfl hlen
        have fin := hide (Co.fault_order (unhide HM) (unhide HNF) hbad)
        have g1 : ((L.length : Int) != (l.length : Int)) = true := by simp; omega
        clear hlen hbad ho2
        go_wp2_with fail
        go_ret
        exact ⟨ret_int (unhide fin).symm, B2⟩
      case pos =>
      have g1 : ((L.length : Int) != (l.length : Int)) = false := by simp; omega
      obtain ⟨g, cap, hv⟩ : ∃ g cap, va = some ⟨g, 0, none⟩ ∧ vc = cap ∧ L.length ≤ cap ∧ g < w2.heap.size := by
        obtain ⟨_, ⟨h, _⟩ | ⟨g, cap, cur, h, _, hh, h6, _⟩⟩ := ho2
        · simp only [Value.slice.injEq] at h; omega
        · simp only [Value.slice.injEq] at h; exact ⟨g, cap, h.1, h.2.2, h6, (Array.getElem?_eq_some_iff.1 hh).1⟩
      obtain ⟨rfl, rfl, hcap, hg2⟩ := hv
      have hcell := hide (fun j (hj : j < L.length) => (Tr.owns_cell ho2 j hj).trans (Tr.map_get L j hj))
      have HLEN := hide hlen
      clear ho2 hlen
      go_wp2_with fail
      go_loopg [7] L.length (fun gh s7 wq => ∃ j : Nat, Hid (gh = L.length - j) ∧ s7 = .int .i64 j ∧ j ≤ L.length ∧ Hid (∀ i, i < j → L.getD i 0 = (i : Int)) ∧ wq = w2)
      case atStart => exact ⟨0, rfl, rfl, by omega, fun i hi => absurd hi (by omega), rfl⟩
      case round =>
        obtain ⟨j, hgj, rfl, hj, hall, hwq⟩ := hrel
        subst wr
        by_cases hjl : j < L.length
        · have hjI : (j : Int) < (L.length : Int) := by omega
          have f0 := (unhide hcell) j hjl
          have hbad : Hid (L.getD j 0 ≠ (j : Int) → Tr.inOrder (Co.tree l) = false) := fun h => by
            cases q : Tr.inOrder (Co.tree l) with
            | false => rfl
            | true =>
              have e := (unhide hci).2 q
              rw [e, Tr.up_getD l.length j (by have := unhide HLEN; omega)] at h
              exact absurd rfl h
          have hnext : Hid (L.getD j 0 = (j : Int) → ∀ i, i < j + 1 → L.getD i 0 = (i : Int)) := fun h i hi => by
            by_cases e : i = j
            · subst e; exact h
            · exact hall.out i (by omega)
          generalize L.getD j 0 = x at f0 hbad hnext
          clear hjl
          by_cases hx : x = (j : Int)
          · have hn2 := hide (hnext.out hx)
            have g2 : (x != (j : Int)) = false := by simp [hx]
            clear hx hnext hbad
            go_wp2_with fail
            go_roundg (L.length - (j + 1))
            case rel => exact ⟨j + 1, rfl, by go_num, by omega, unhide hn2, rfl⟩
            case measure => have := hgj.out; omega
          · have fin := hide (Co.fault_order (unhide HM) (unhide HNF) (hbad.out hx))
            have g2 : (x != (j : Int)) = true := by simpa using hx
            clear hx hnext hbad
            go_wp2_with fail
            go_ret
            exact ⟨ret_int (unhide fin).symm, B2⟩
        · have hgood : Tr.inOrder (Co.tree l) = true := (unhide hci).1 (by
            refine Tr.list_same (by rw [Tr.up_length]; exact unhide HLEN) fun i hi => ?_
            rw [hall.out i (by omega), Tr.up_getD l.length i (by have := unhide HLEN; omega)])
          have HO := hide hgood
          have hroot : ∀ x, 0 ≤ x → Co.has [] x = Tr.bound (Co.tree l) (l.length - 1) (Co.slotT x) := fun x _ => by
            have := Tr.bound_root (unhide HFI) (show 0 < (Co.tree l).length by rw [unhide HTL]; exact h0) (Co.slotT x)
            rw [unhide HTL] at this
            rw [this]; rfl
          have HKN := hide (l6Known_any b l h900 (unhide HFI) hgood (co_ops (unhide HNF)) (co_nums (unhide HNF)) l.length h900 (l.length - 1) [] (.slice none 0 0) w2 (by omega) (by omega) (by simp; omega) hroot (((unhide HR).below B2 hb).flat) (Nat.lt_of_lt_of_le hb B2.size) (World.ownsRow_nil _ _ _ _))
          rw [Co.ok_known (unhide HFI) h0 hgood] at HKN
          have hjN : ¬ (j : Int) < (L.length : Int) := by omega
          clear hgood hroot hall hcell HOS
          go_wp2_with fail
          refine (unhide HKN).mono ?_
          rintro e w4 ⟨rfl, hb4⟩
          have B4 : Below w.heap.size w w4 := B2.trans (hb4.mono B2.size)
          clear HKN hci
          cases hkn : Co.known l l.length with
          | false =>
            have fin := hide (Co.fault_known (unhide HM) (unhide HNF) (unhide HO) hkn)
            go_wp2_with fail
            go_ret
            exact ⟨ret_int (unhide fin).symm, B4⟩
          | true =>
          have hd1 := hide (fun k (hk : k < l.length) (h : 120 < Tr.dep (Co.tree l) k) => Co.fault_deep (unhide HM) (unhide HNF) (unhide HO) hkn (Nat.lt_of_lt_of_le h (Co.deep_le (unhide HFI) h0 (unhide HO) hk)))
          have hd2 := hide (fun h => Co.fault_ok (unhide HM) (unhide HNF) (unhide HO) hkn h)
          have hmk := Tr.make_ints l.length (by omega)
          have HOP := hide (co_ops (unhide HNF))
          clear hkn
          go_wp2_with fail
          go_loopg [9, 10] l.length (fun gh s9 s10 wr => ∃ (k : Nat) (xs : List Value), Hid (gh = l.length - k) ∧ s9 = .int .i64 k ∧ k ≤ l.length ∧ Own wr w4.heap.size 2 xs ∧ Hid (Tr.DepsK (Co.tree l) xs k 0) ∧ Hid (∀ j, j < k → Tr.dep (Co.tree l) j ≤ 120) ∧ Below w4.heap.size w4 wr)
          case atStart => exact ⟨0, _, rfl, rfl, by omega, ⟨_, heap_alloc_new _ _, rfl⟩, by (show Tr.DepsK _ _ _ _; have hzz := Tr.DepsK.zero (Co.tree l); rw [unhide HTL] at hzz; exact hzz), fun j hj => absurd hj (by omega), (Below.refl _ _).alloc (Nat.le_refl _) _⟩
          case round =>
            clear hmk
            obtain ⟨k, xs, hg, rfl, hk, hown, hdeps, hle, hbel⟩ := hrel
            by_cases hlt : k < l.length
            · have hltI : (k : Int) < (l.length : Int) := by omega
              have hltT : k < (Co.tree l).length := by rw [unhide HTL]; exact hlt
              have hopk := (unhide HOP) k hlt
              have hkl := Co.kids_le (l.getD k Co.zero).op
              have hT := Co.tree_getD l hlt
              have hkk : Tr.kids (Co.nd (l.getD k Co.zero)).op = Co.kids (l.getD k Co.zero).op := Co.nd_kids _
              have hall := hide (Tr.depK_all (unhide HFI) k hltT)
              have hdle := hide (Tr.dep_le (unhide HFI) k hltT)
              have hfin := hide (fun j hj => Tr.kid_fine (unhide HFI) k hltT j hj)
              have hsucc := hide (fun j hj => Tr.depK_succ (Co.tree l) ((Co.tree l).getD k Nd.zero) j hj)
              have hz := hide (Tr.depK_zero (Co.tree l) ((Co.tree l).getD k Nd.zero))
              obtain ⟨_, _, _, _, _, vg, fv, _, _⟩ := (unhide HR) k hlt
              have hrw := hide (fun wq (hq : Below w.heap.size w wq) => (hq.cell hb).trans fv)
              have hrx := hide (fun wq (hq : Below w.heap.size w wq) => ((unhide HR).below hq hb) k hlt)
              rw [hT] at hall hfin hsucc hz
              rw [hkk] at hall hfin hsucc
              have HK2 := hide (fun wq => l6Kids_any (l.getD k Co.zero).op wq hopk.1 hopk.2)
              have HKD := hide (fun j hj wq => l6Kid_any (l.getD k Co.zero) vg j hj wq)
              have hdd := hide ((unhide hd1) k hlt)
              have hlenx := hide (show xs.length = l.length by rw [hdeps.out.1]; exact unhide HTL)
              clear hopk hT hkk fv
              generalize l.getD k Co.zero = n at *
              obtain ⟨ks, hks⟩ : ∃ ks, ks = Co.kids n.op := ⟨_, rfl⟩
              rw [← hks] at hkl hall hfin hsucc HK2
              clear hks
              go_wp2_with fail
              go_loopg [10] ks (fun gh s10 w5 => ∃ (j : Nat) (q : Nat) (ys : List Value), Hid (gh = ks - j) ∧ s10 = .int .i64 j ∧ j ≤ ks ∧ q ≤ 1001 ∧ Hid (q = Tr.depK (Co.tree l) (Co.nd n) j) ∧ Own w5 w4.heap.size 2 ys ∧ Hid (Tr.DepsK (Co.tree l) ys k q) ∧ Below w4.heap.size w4 w5)
              case atStart => exact ⟨0, 0, xs, rfl, rfl, by omega, by omega, (unhide hz).symm, hown, hdeps.out, hbel⟩
              case round =>
                obtain ⟨j, q, ys, hgj, rfl, hj, hq, hqd, hown2, hdeps2, hbel2⟩ := hrel
                have BW2 : Below w.heap.size w wr := B4.trans (hbel2.mono B4.size)
                obtain ⟨f0, f1, f2, f3, f4, _⟩ := (unhide hrx) _ BW2
                have f5 := (unhide hrw) _ BW2
                by_cases hjl : j < ks
                · have hjI : (j : Int) < (ks : Int) := by omega
                  have hb1 := (unhide hfin) j hjl
                  have hs1 := hide ((unhide hsucc) j hjl)
                  have HKJ := hide (fun wq => (unhide HKD) j (by omega) wq)
                  obtain ⟨x, hx⟩ : ∃ x : Nat, Tr.kidAt (Co.nd n) j = x := ⟨(Tr.kidAt (Co.nd n) j).toNat, by omega⟩
                  rw [hx] at hb1 hs1 HKJ
                  have hxk : x < k := by omega
                  have hxI : (x : Int) < (l.length : Int) := by omega
                  have hx0 : (0 : Int) ≤ (x : Int) := by omega
                  have hk0 : (0 : Int) ≤ (k : Int) := by omega
                  have d1 := (hown2.cell x).trans (hdeps2.out.2.1 x hxk)
                  have d2 := (hown2.cell k).trans (hdeps2.out.2.2.1 hltT)
                  have z2 := hown2.frozen k
                  have hdl := Tr.dep_le (unhide HFI) x (by omega)
                  simp only [Int.toNat_natCast] at hs1
                  generalize Tr.dep (Co.tree l) x = dx at d1 hs1 hdl
                  clear hx hb1 hjl
                  go_wp2_with fail
                  refine ((unhide HK2) _).mono ?_
                  rintro e w6 ⟨rfl, hw6⟩
                  subst w6
                  go_wp2_with fail
                  have hmx : max (q : Int) (dx : Int) = ((max q dx : Nat) : Int) := by omega
                  have hput2 : Hid (Tr.DepsK (Co.tree l) (ys.set k (.int .i64 (max (q : Int) (dx : Int)))) k ((max q dx : Nat) : Int)) := by
                    show Tr.DepsK _ _ _ _
                    rw [hmx]; exact hdeps2.out.put hltT _
                  clear hmx
                  have hbb : b < wr.heap.size := Nat.lt_of_lt_of_le hb BW2.size
                  have hwl : w4.heap.size < wr.heap.size := hown2.lt
                  go_region_with (first | (go_at_call 37; refine ((unhide HKJ) _).mono ?_; rintro e w7 ⟨rfl, hb7⟩; have hO7 := hown2.drew.below hb7 hown2.drew.lt; have e1 := (hb7.cell (by exact hwl)).trans d1; have e2 := (hb7.cell (by exact hwl)).trans d2; have ez := hO7.frozen k) | (go_at_call 36; refine (l1Max_tr _ _ _).mono ?_; rintro e w8 ⟨rfl, hw8⟩; subst w8))
                  all_goals
                    go_wp2_with fail
                    go_roundg (ks - (j + 1))
                    case rel => exact ⟨j + 1, max q dx, _, rfl, by go_num, by omega, by omega, by (show _ = _; rw [unhide hs1, ← hqd.out]), hO7.set k _, unhide hput2, (hbel2.drew.trans (hb7.mono (by exact hbel2.size))).setCell (Nat.le_refl _) _⟩
                    case measure => have := hgj.out; omega
                · have hje : j = ks := by omega
                  have hdn : q + 1 = Tr.dep (Co.tree l) k := by rw [unhide hall, hqd.out, hje]
                  have hdq : (q : Int) + 1 = Tr.dep (Co.tree l) k := by omega
                  have hdk : (q : Int) + 1 ≤ 1001 := by have := unhide hdle; omega
                  have d2 := (hown2.cell k).trans (hdeps2.out.2.2.1 hltT)
                  have z2 := hown2.frozen k
                  have hnx := hide ((hdeps2.out.put hltT ((q : Int) + 1)).next hltT hdq)
                  have o3 := hown2.set k (.int .i64 ((q : Int) + 1))
                  have e3 := (o3.cell k).trans (List.getElem?_set_self (by rw [hdeps2.out.1]; exact hltT))
                  have hjN2 : ¬ (j : Int) < (ks : Int) := by omega
                  have hjD : decide ((j : Int) < (ks : Int)) = false := decide_eq_false hjN2
                  have B6 : Below w4.heap.size w4 (wr.setCell ⟨w4.heap.size, k, none⟩ (.int .i64 ((q : Int) + 1))) := hbel2.setCell (Nat.le_refl _) _
                  have hkz : (0 : Int) ≤ (k : Int) := by omega
                  clear hje hdq
                  by_cases h120 : 120 < q + 1
                  · have fin := hide ((unhide hdd) (by omega))
                    have g9 : (q : Int) + 1 > 120 := by omega
                    have BF : Below w.heap.size w (wr.setCell ⟨w4.heap.size, k, none⟩ (.int .i64 ((q : Int) + 1))) := B4.trans (B6.mono B4.size)
                    clear h120
                    go_wp2_with fail
                    refine ((unhide HK2) _).mono ?_
                    rintro e w6 ⟨rfl, hw6⟩
                    subst w6
                    go_wp2_with fail
                    go_ret
                    exact ⟨ret_int (unhide fin).symm, BF⟩
                  · have g9 : ¬ (q : Int) + 1 > 120 := by omega
                    have hle2 := hide (show ∀ i, i < k + 1 → Tr.dep (Co.tree l) i ≤ 120 from fun i hi => by
                      by_cases e : i = k
                      · subst e; omega
                      · exact hle.out i (by omega))
                    clear h120
                    go_wp2_with fail
                    refine ((unhide HK2) _).mono ?_
                    rintro e w6 ⟨rfl, hw6⟩
                    subst w6
                    go_wp2_with fail
                    go_roundg (l.length - (k + 1))
                    case rel => exact ⟨k + 1, _, rfl, by go_num, by omega, o3, unhide hnx, unhide hle2, B6⟩
                    case measure => have := hg.out; omega
            · have hke : k = l.length := by omega
              have fin := hide ((unhide hd2) (by have := hle.out (l.length - 1) (by omega); omega))
              have BF : Below w.heap.size w wr := B4.trans (hbel.mono B4.size)
              clear hke
              go_wp2_with fail
              go_ret
              exact ⟨ret_int (unhide fin).symm, BF⟩

end Go.Proofs.Ytkjmnkbiflkpdaa

namespace Go.Proofs.Ytkjmnkbiflkpdaa
open Go.RowKit
set_option linter.unusedVariables false
set_option linter.unusedSimpArgs false


namespace Co
def binder (n : Co) : Bool := n.op == 14 || n.op == 13
def slots (l : List Co) : Nat → Int
  | 0 => 0
  | k + 1 => if binder (l.getD k zero) = true then max (slots l k) ((l.getD k zero).num + 1) else slots l k
def slotsOut (l : List Co) : Int × Int := if fault l ≠ 0 then (fault l, 0) else (0, slots l l.length)
theorem fault_parts {l : List Co} (h : fault l = 0) : l.length ≤ 900 ∧ nf l l.length = 0 := by
  unfold fault at h
  split at h
  · cases h
  split at h
  · rename_i h2; exact absurd h h2
  · rename_i h1 h2; exact ⟨by omega, by simpa using h2⟩
theorem num_bd {l : List Co} (h : nf l l.length = 0) {i : Nat} (hi : i < l.length) : 0 ≤ (l.getD i zero).num ∧ (l.getD i zero).num ≤ 59 := by
  have hp := (node_parts (nf_all h i hi)).2.2.2
  have h1 : 0 ≤ low (l.getD i zero).op := by unfold low; split <;> omega
  have h2 : high (l.getD i zero).op ≤ 59 := by unfold high; split <;> (try split) <;> (try split) <;> omega
  omega
end Co
end Go.Proofs.Ytkjmnkbiflkpdaa
