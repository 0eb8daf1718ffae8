/-
  spec.l5Node tells the code of a node.
-/
import Derived.Test.YtokcefcjkjhnbaaTreD
import Derived.Test.YtokcefcjkjhnbaaNdM
import Derived.Deep.LoopGhost
namespace Go.Proofs.Ytokcefcjkjhnbaa
open Go.RowKit
set_option linter.unusedVariables false
set_option linter.unusedSimpArgs false


set_option maxRecDepth 100000 in
set_option maxHeartbeats 4000000 in
theorem l5Node_texts (b : Nat) (l : List Nd) (i : Nat) (n : Nd) (w : World) (hrow : Nd.Row w b 0 l) (hb : b < w.heap.size) (hi : i < l.length) (h200 : l.length ≤ 200) (hn : n = l.getD i Nd.zero) (hop : ¬ (n.op < 1 ∨ 24 < n.op)) (hsz : n.text.size ≤ 1048576) (hT : Tr.texts n.op = true) (hz2 : Tr.high n.op ≠ 0 ∨ n.num = 0) (hok : n.ok) :
    Calls Try.prog 66 #[.slice (some ⟨b, 0, none⟩) l.length l.length, .int .i64 i] w fun e w' => e = .returned (.int .i64 (Tr.nodeF l i)) ∧ Below w.heap.size w w' := by
  have hiI : (i : Int) < (l.length : Int) := by omega
  obtain ⟨f0, f1, f2, f3, f4, f5⟩ := hrow i hi
  rw [← hn] at f0 f1 f2 f3 f4 f5
  simp only [Nat.zero_add] at f0 f1 f2 f3 f4 f5
  have fm := hide (Tr.form_ok hz2 (.inl hT))
  have hcond : (Tr.high n.op == 0) = false ∨ ((Tr.high n.op == 0) = true ∧ (n.num != 0) = false) := by
    by_cases q : Tr.high n.op = 0
    · right; exact ⟨by simp [q], by simp; omega⟩
    · left; simpa using q
  have HR := hide hrow
  have HN := hide hn
  have HI := hide hi
  have HOP := hide hop
  have HOK := hide hok
  have hin : (decide (1 ≤ n.op) && decide (n.op ≤ 24)) = true := by simp; omega
  have HK := hide (fun wq => l5Kids_any n.op wq (by omega) (by omega))
  have HX := hide (fun wq => l5Texts_any n.op wq (by omega) (by omega))
  have HM := hide (fun wq => l5Nums_any n.op wq (by omega) (by omega))
  have HT := hide (fun wq => l5TextFits_any n wq hsz (.inl hT))
  have HKL := hide (Tr.kids_le n.op)
  clear hrow hn hi hop hz2 hok
  obtain ⟨w1, hw1⟩ : ∃ w1, w1 = w.alloc (.cells #[.int .i64 n.op, .int .i64 n.a, .int .i64 n.b, .int .i64 n.c, .int .i64 n.num, .string n.text] 71) := ⟨_, rfl⟩
  have B1 : Below w.heap.size w w1 := by rw [hw1]; exact (Below.refl _ _).alloc (Nat.le_refl _) _
  have N1 : Own w1 w.heap.size 71 [.int .i64 n.op, .int .i64 n.a, .int .i64 n.b, .int .i64 n.c, .int .i64 n.num, .string n.text] := by rw [hw1]; exact ⟨_, heap_alloc_new _ _, rfl⟩
  go_enter Try.func66, Try.ntmps66
  go_wp2_with fail
  rw [← hw1]
  clear hw1 f0 f1 f2 f3 f4 f5
  have c0 := N1.cell 0
  have c1 := N1.cell 1
  have c2 := N1.cell 2
  have c3 := N1.cell 3
  have c4 := N1.cell 4
  have c5 := N1.cell 5
  simp only [List.getElem?_cons_zero, List.getElem?_cons_succ] at c0 c1 c2 c3 c4 c5
  refine (l1In_tr _ _ _ _).mono ?_
  rintro e w2 ⟨rfl, hw2⟩
  subst w2
  rw [hin]
  go_wp2_with fail
  refine ((unhide HM) _).mono ?_
  rintro e w2 ⟨rfl, hw2⟩
  subst w2
  rcases hcond with g1 | ⟨g1, g2⟩
  all_goals
    go_wp2_with fail
    refine ((unhide HX) _).mono ?_
    rintro e w2 ⟨rfl, hw2⟩
    subst w2
    rw [hT]
    go_wp2_with fail
    clear c0 c1 c2 c3 c4 c5
    go_loopg [8] 3 (fun gh s8 wr => ∃ k : Nat, Hid (gh = 3 - k) ∧ s8 = .int .i64 k ∧ k ≤ 3 ∧ Hid (∀ j, j < k → Tr.one (decide (j < Tr.kids n.op)) (Tr.kidAt n j) i = true) ∧ Below w1.heap.size w1 wr)
    case atStart => exact ⟨0, rfl, rfl, by omega, fun j hj => absurd hj (by omega), Below.refl _ _⟩
    case round =>
      obtain ⟨k, hg, rfl, hk, hall, hbel⟩ := hrel
      have N2 := N1.below hbel N1.lt
      have c0 := N2.cell 0
      have c1 := N2.cell 1
      have c2 := N2.cell 2
      have c3 := N2.cell 3
      have c4 := N2.cell 4
      have c5 := N2.cell 5
      simp only [List.getElem?_cons_zero, List.getElem?_cons_succ] at c0 c1 c2 c3 c4 c5
      by_cases hlt : k < 3
      · have hbad := hide (fun h => Tr.node_1 (unhide HN) (unhide HOP) (.inr (Tr.links_bad (n := n) (ks := Tr.kids n.op) (i := i) hlt h)))
        have hnext : Hid (Tr.one (decide (k < Tr.kids n.op)) (Tr.kidAt n k) i = true → ∀ j, j < k + 1 → Tr.one (decide (j < Tr.kids n.op)) (Tr.kidAt n j) i = true) := fun h j hj => by
          by_cases e : j = k
          · subst e; exact h
          · exact hall.out j (by omega)
        have hltI : (k : Int) < 3 := by omega
        have HKD := hide (fun wq => l5Kid_any n k hlt wq)
        clear hlt
        go_wp2_with fail
        refine ((unhide HKD) _).mono ?_
        rintro e w3 ⟨rfl, hb3⟩
        have B3 : Below w1.heap.size w1 w3 := hbel.trans (hb3.mono hbel.size)
        have N3 := N2.below hb3 N2.lt
        clear c0 c1 c2 c3 c4 c5 N2
        have c0 := N3.cell 0
        simp only [List.getElem?_cons_zero] at c0
        have Bw : Below w.heap.size w w3 := B1.trans (B3.mono B1.size)
        generalize Tr.kidAt n k = x at *
        go_wp2_with fail
        refine ((unhide HK) _).mono ?_
        rintro e w4 ⟨rfl, hw4⟩
        subst w4
        by_cases hks : (Tr.kids n.op : Int) ≤ k
        · have g5 : decide ((Tr.kids n.op : Int) ≤ (k : Int)) = true := decide_eq_true hks
          have g6 : decide ((k : Int) < (Tr.kids n.op : Int)) = false := decide_eq_false (by omega)
          have hd : decide (k < Tr.kids n.op) = false := decide_eq_false (by omega)
          have hks2 : Tr.kids n.op ≤ k := by omega
          rw [hd] at hbad hnext
          clear hd
          by_cases hx : x = 0
          · have hn2 := hide (hnext.out (by simp [Tr.one, hx]))
            have g7 : (x != 0) = false := by simp [hx]
            clear hx hnext hbad
            go_wp2_with fail
            refine ((unhide HK) _).mono ?_
            rintro e w4 ⟨rfl, hw4⟩
            subst w4
            go_wp2_with fail
            go_roundg (3 - (k + 1))
            case rel => exact ⟨k + 1, rfl, by go_num, by omega, unhide hn2, B3⟩
            case measure => have := hg.out; omega
          · have fin := hide ((unhide hbad) (by simp [Tr.one, hx]))
            have g7 : (x != 0) = true := by simpa using hx
            clear hx hnext hbad
            go_wp2_with fail
            go_ret
            exact ⟨ret_int (unhide fin).symm, Bw⟩
        · have g5 : decide ((Tr.kids n.op : Int) ≤ (k : Int)) = false := decide_eq_false hks
          have g6 : decide ((k : Int) < (Tr.kids n.op : Int)) = true := decide_eq_true (by omega)
          have hks3 : (k : Int) < (Tr.kids n.op : Int) := by omega
          have hd : decide (k < Tr.kids n.op) = true := decide_eq_true (by omega)
          have hks2 : k < Tr.kids n.op := by omega
          rw [hd] at hbad hnext
          clear hd
          go_wp2_with fail
          refine ((unhide HK) _).mono ?_
          rintro e w4 ⟨rfl, hw4⟩
          subst w4
          go_wp2_with fail
          refine (l1In_tr _ _ _ _).mono ?_
          rintro e w4 ⟨rfl, hw4⟩
          subst w4
          cases hq : (decide (0 ≤ x) && decide (x ≤ (i : Int) - 1)) with
          | true =>
            have hn2 := hide (hnext.out (by simp only [Bool.and_eq_true, decide_eq_true_eq] at hq; simp [Tr.one]; omega))
            clear hnext hbad
            go_wp2_with fail
            go_roundg (3 - (k + 1))
            case rel => exact ⟨k + 1, rfl, by go_num, by omega, unhide hn2, B3⟩
            case measure => have := hg.out; omega
          | false =>
            have fin := hide ((unhide hbad) (by simp only [Bool.and_eq_false_iff, decide_eq_false_iff_not] at hq; simp [Tr.one]; omega))
            clear hnext hbad
            go_wp2_with fail
            go_ret
            exact ⟨ret_int (unhide fin).symm, Bw⟩
      · have hke : k = 3 := by omega
        subst hke
        have HB := hide (Tr.links_all hall.out)
        have Bw : Below w.heap.size w wr := B1.trans (hbel.mono B1.size)
        have HR2 := hide ((unhide HR).below Bw hb)
        clear hall
        go_wp2_with fail
        refine ((unhide HT) _).mono ?_
        rintro e w5 ⟨rfl, hb5⟩
        have B5 : Below w.heap.size w w5 := Bw.trans (hb5.mono Bw.size)
        have N5 := N2.below hb5 N2.lt
        clear c0 c1 c2 c3 c4 c5 N2
        have c0 := N5.cell 0
        have c1 := N5.cell 1
        have c2 := N5.cell 2
        have c3 := N5.cell 3
        have c4 := N5.cell 4
        have c5 := N5.cell 5
        simp only [List.getElem?_cons_zero, List.getElem?_cons_succ] at c0 c1 c2 c3 c4 c5
        cases hf : Tr.fits n.op n.text with
        | false =>
          have fin := hide (Tr.node_5 (unhide HN) (unhide HOP) (unhide fm) (unhide HB) hf)
          go_wp2_with fail
          go_ret
          exact ⟨ret_int (unhide fin).symm, B5⟩
        | true =>
          have HF := hide hf
          clear hf
          go_wp2_with fail
          refine (l1In_tr _ _ _ _).mono ?_
          rintro e w6 ⟨rfl, hw6⟩
          subst w6
          cases hq : (decide (Tr.low n.op ≤ n.num) && decide (n.num ≤ Tr.high n.op)) with
          | false =>
            have fin := hide (Tr.node_3 (unhide HN) (unhide HOP) (unhide fm) (unhide HB) (unhide HF) (by simp only [Bool.and_eq_false_iff, decide_eq_false_iff_not] at hq; omega))
            go_wp2_with fail
            go_ret
            exact ⟨ret_int (unhide fin).symm, B5⟩
          | true =>
            have hr := hide (show ¬ (n.num < Tr.low n.op ∨ Tr.high n.op < n.num) by simp only [Bool.and_eq_true, decide_eq_true_eq] at hq; omega)
            clear hq
            by_cases h17 : n.op = 17
            case neg =>
              have fin := hide (Tr.node_0 (unhide HN) (unhide HOP) (unhide fm) (unhide HB) (unhide HF) (unhide hr) (.inl h17))
              have g7 : (n.op == 17) = false := by simpa using h17
              clear h17
              go_wp2_with fail
              go_ret
              exact ⟨ret_int (unhide fin).symm, B5⟩
            case pos =>
              have hfst := Tr.first_fine (unhide HB) (by rw [h17]; decide)
              have g7 : (n.op == 17) = true := by simp [h17]
              obtain ⟨q, hq⟩ : ∃ q : Nat, n.a = q := ⟨n.a.toNat, by omega⟩
              have hqI : (q : Int) < (l.length : Int) := by omega
              have hq0 : (0 : Int) ≤ (q : Int) := by omega
              obtain ⟨m0, _⟩ := ((unhide HR2).below hb5 (by have := Bw.size; omega)) q (by omega)
              simp only [Nat.zero_add] at m0
              have hqt : n.a.toNat = q := by omega
              have fz := hide (fun h => Tr.node_0 (unhide HN) (unhide HOP) (unhide fm) (unhide HB) (unhide HF) (unhide hr) (.inr (.inl h)))
              have fy := hide (fun h => Tr.node_0 (unhide HN) (unhide HOP) (unhide fm) (unhide HB) (unhide HF) (unhide hr) (.inr (.inr h)))
              have fx := hide (fun h h' => Tr.node_1b (unhide HN) (unhide HOP) (unhide fm) (unhide HB) (unhide HF) (unhide hr) h17 h h')
              rw [hqt] at fz fy fx
              rw [hq] at c1
              generalize (l.getD q Nd.zero).op = qo at m0 fz fy fx
              clear h17 hfst hqt hq
              by_cases k16 : qo = 16
              · have fin := hide ((unhide fz) k16)
                have g16 : (qo != 16) = false := by simp [k16]
                clear k16 fz fy fx
                go_wp2_with fail
                go_ret
                exact ⟨ret_int (unhide fin).symm, B5⟩
              have g16 : (qo != 16) = true := by simpa using k16
              by_cases k17 : qo = 17
              · have fin := hide ((unhide fy) k17)
                have g17 : (qo != 17) = false := by simp [k17]
                clear k16 k17 fz fy fx
                go_wp2_with fail
                go_ret
                exact ⟨ret_int (unhide fin).symm, B5⟩
              have g17 : (qo != 17) = true := by simpa using k17
              have fin := hide ((unhide fx) k16 k17)
              clear k16 k17 fz fy fx
              go_wp2_with fail
              go_ret
              exact ⟨ret_int (unhide fin).symm, B5⟩

set_option maxRecDepth 100000 in
set_option maxHeartbeats 4000000 in
theorem l5Node_plain (b : Nat) (l : List Nd) (i : Nat) (n : Nd) (w : World) (hrow : Nd.Row w b 0 l) (hb : b < w.heap.size) (hi : i < l.length) (h200 : l.length ≤ 200) (hn : n = l.getD i Nd.zero) (hop : ¬ (n.op < 1 ∨ 24 < n.op)) (hsz : n.text.size ≤ 1048576) (hT : Tr.texts n.op = false) (et : n.text.toList = []) (hz2 : Tr.high n.op ≠ 0 ∨ n.num = 0) (hok : n.ok) :
    Calls Try.prog 66 #[.slice (some ⟨b, 0, none⟩) l.length l.length, .int .i64 i] w fun e w' => e = .returned (.int .i64 (Tr.nodeF l i)) ∧ Below w.heap.size w w' := by
  have hiI : (i : Int) < (l.length : Int) := by omega
  obtain ⟨f0, f1, f2, f3, f4, f5⟩ := hrow i hi
  rw [← hn] at f0 f1 f2 f3 f4 f5
  simp only [Nat.zero_add] at f0 f1 f2 f3 f4 f5
  have fm := hide (Tr.form_ok hz2 (.inr (by simp [et])))
  have hcond : (Tr.high n.op == 0) = false ∨ ((Tr.high n.op == 0) = true ∧ (n.num != 0) = false) := by
    by_cases q : Tr.high n.op = 0
    · right; exact ⟨by simp [q], by simp; omega⟩
    · left; simpa using q
  have HR := hide hrow
  have HN := hide hn
  have HI := hide hi
  have HOP := hide hop
  have HOK := hide hok
  have hin : (decide (1 ≤ n.op) && decide (n.op ≤ 24)) = true := by simp; omega
  have HK := hide (fun wq => l5Kids_any n.op wq (by omega) (by omega))
  have HX := hide (fun wq => l5Texts_any n.op wq (by omega) (by omega))
  have HM := hide (fun wq => l5Nums_any n.op wq (by omega) (by omega))
  have HT := hide (fun wq => l5TextFits_any n wq hsz (.inr et))
  have HKL := hide (Tr.kids_le n.op)
  clear hrow hn hi hop hz2 hok
  obtain ⟨w1, hw1⟩ : ∃ w1, w1 = w.alloc (.cells #[.int .i64 n.op, .int .i64 n.a, .int .i64 n.b, .int .i64 n.c, .int .i64 n.num, .string n.text] 71) := ⟨_, rfl⟩
  have B1 : Below w.heap.size w w1 := by rw [hw1]; exact (Below.refl _ _).alloc (Nat.le_refl _) _
  have N1 : Own w1 w.heap.size 71 [.int .i64 n.op, .int .i64 n.a, .int .i64 n.b, .int .i64 n.c, .int .i64 n.num, .string n.text] := by rw [hw1]; exact ⟨_, heap_alloc_new _ _, rfl⟩
  go_enter Try.func66, Try.ntmps66
  go_wp2_with fail
  rw [← hw1]
  clear hw1 f0 f1 f2 f3 f4 f5
  have c0 := N1.cell 0
  have c1 := N1.cell 1
  have c2 := N1.cell 2
  have c3 := N1.cell 3
  have c4 := N1.cell 4
  have c5 := N1.cell 5
  simp only [List.getElem?_cons_zero, List.getElem?_cons_succ] at c0 c1 c2 c3 c4 c5
  refine (l1In_tr _ _ _ _).mono ?_
  rintro e w2 ⟨rfl, hw2⟩
  subst w2
  rw [hin]
  go_wp2_with fail
  refine ((unhide HM) _).mono ?_
  rintro e w2 ⟨rfl, hw2⟩
  subst w2
  rcases hcond with g1 | ⟨g1, g2⟩
  all_goals
    go_wp2_with fail
    refine ((unhide HX) _).mono ?_
    rintro e w2 ⟨rfl, hw2⟩
    subst w2
    rw [hT]
    go_wp2_with fail
    clear c0 c1 c2 c3 c4 c5
    go_loopg [8] 3 (fun gh s8 wr => ∃ k : Nat, Hid (gh = 3 - k) ∧ s8 = .int .i64 k ∧ k ≤ 3 ∧ Hid (∀ j, j < k → Tr.one (decide (j < Tr.kids n.op)) (Tr.kidAt n j) i = true) ∧ Below w1.heap.size w1 wr)
    case atStart => exact ⟨0, rfl, rfl, by omega, fun j hj => absurd hj (by omega), Below.refl _ _⟩
    case round =>
      obtain ⟨k, hg, rfl, hk, hall, hbel⟩ := hrel
      have N2 := N1.below hbel N1.lt
      have c0 := N2.cell 0
      have c1 := N2.cell 1
      have c2 := N2.cell 2
      have c3 := N2.cell 3
      have c4 := N2.cell 4
      have c5 := N2.cell 5
      simp only [List.getElem?_cons_zero, List.getElem?_cons_succ] at c0 c1 c2 c3 c4 c5
      by_cases hlt : k < 3
      · have hbad := hide (fun h => Tr.node_1 (unhide HN) (unhide HOP) (.inr (Tr.links_bad (n := n) (ks := Tr.kids n.op) (i := i) hlt h)))
        have hnext : Hid (Tr.one (decide (k < Tr.kids n.op)) (Tr.kidAt n k) i = true → ∀ j, j < k + 1 → Tr.one (decide (j < Tr.kids n.op)) (Tr.kidAt n j) i = true) := fun h j hj => by
          by_cases e : j = k
          · subst e; exact h
          · exact hall.out j (by omega)
        have hltI : (k : Int) < 3 := by omega
        have HKD := hide (fun wq => l5Kid_any n k hlt wq)
        clear hlt
        go_wp2_with fail
        refine ((unhide HKD) _).mono ?_
        rintro e w3 ⟨rfl, hb3⟩
        have B3 : Below w1.heap.size w1 w3 := hbel.trans (hb3.mono hbel.size)
        have N3 := N2.below hb3 N2.lt
        clear c0 c1 c2 c3 c4 c5 N2
        have c0 := N3.cell 0
        simp only [List.getElem?_cons_zero] at c0
        have Bw : Below w.heap.size w w3 := B1.trans (B3.mono B1.size)
        generalize Tr.kidAt n k = x at *
        go_wp2_with fail
        refine ((unhide HK) _).mono ?_
        rintro e w4 ⟨rfl, hw4⟩
        subst w4
        by_cases hks : (Tr.kids n.op : Int) ≤ k
        · have g5 : decide ((Tr.kids n.op : Int) ≤ (k : Int)) = true := decide_eq_true hks
          have g6 : decide ((k : Int) < (Tr.kids n.op : Int)) = false := decide_eq_false (by omega)
          have hd : decide (k < Tr.kids n.op) = false := decide_eq_false (by omega)
          have hks2 : Tr.kids n.op ≤ k := by omega
          rw [hd] at hbad hnext
          clear hd
          by_cases hx : x = 0
          · have hn2 := hide (hnext.out (by simp [Tr.one, hx]))
            have g7 : (x != 0) = false := by simp [hx]
            clear hx hnext hbad
            go_wp2_with fail
            refine ((unhide HK) _).mono ?_
            rintro e w4 ⟨rfl, hw4⟩
            subst w4
            go_wp2_with fail
            go_roundg (3 - (k + 1))
            case rel => exact ⟨k + 1, rfl, by go_num, by omega, unhide hn2, B3⟩
            case measure => have := hg.out; omega
          · have fin := hide ((unhide hbad) (by simp [Tr.one, hx]))
            have g7 : (x != 0) = true := by simpa using hx
            clear hx hnext hbad
            go_wp2_with fail
            go_ret
            exact ⟨ret_int (unhide fin).symm, Bw⟩
        · have g5 : decide ((Tr.kids n.op : Int) ≤ (k : Int)) = false := decide_eq_false hks
          have g6 : decide ((k : Int) < (Tr.kids n.op : Int)) = true := decide_eq_true (by omega)
          have hks3 : (k : Int) < (Tr.kids n.op : Int) := by omega
          have hd : decide (k < Tr.kids n.op) = true := decide_eq_true (by omega)
          have hks2 : k < Tr.kids n.op := by omega
          rw [hd] at hbad hnext
          clear hd
          go_wp2_with fail
          refine ((unhide HK) _).mono ?_
          rintro e w4 ⟨rfl, hw4⟩
          subst w4
          go_wp2_with fail
          refine (l1In_tr _ _ _ _).mono ?_
          rintro e w4 ⟨rfl, hw4⟩
          subst w4
          cases hq : (decide (0 ≤ x) && decide (x ≤ (i : Int) - 1)) with
          | true =>
            have hn2 := hide (hnext.out (by simp only [Bool.and_eq_true, decide_eq_true_eq] at hq; simp [Tr.one]; omega))
            clear hnext hbad
            go_wp2_with fail
            go_roundg (3 - (k + 1))
            case rel => exact ⟨k + 1, rfl, by go_num, by omega, unhide hn2, B3⟩
            case measure => have := hg.out; omega
          | false =>
            have fin := hide ((unhide hbad) (by simp only [Bool.and_eq_false_iff, decide_eq_false_iff_not] at hq; simp [Tr.one]; omega))
            clear hnext hbad
            go_wp2_with fail
            go_ret
            exact ⟨ret_int (unhide fin).symm, Bw⟩
      · have hke : k = 3 := by omega
        subst hke
        have HB := hide (Tr.links_all hall.out)
        have Bw : Below w.heap.size w wr := B1.trans (hbel.mono B1.size)
        have HR2 := hide ((unhide HR).below Bw hb)
        clear hall
        go_wp2_with fail
        refine ((unhide HT) _).mono ?_
        rintro e w5 ⟨rfl, hb5⟩
        have B5 : Below w.heap.size w w5 := Bw.trans (hb5.mono Bw.size)
        have N5 := N2.below hb5 N2.lt
        clear c0 c1 c2 c3 c4 c5 N2
        have c0 := N5.cell 0
        have c1 := N5.cell 1
        have c2 := N5.cell 2
        have c3 := N5.cell 3
        have c4 := N5.cell 4
        have c5 := N5.cell 5
        simp only [List.getElem?_cons_zero, List.getElem?_cons_succ] at c0 c1 c2 c3 c4 c5
        cases hf : Tr.fits n.op n.text with
        | false =>
          have fin := hide (Tr.node_5 (unhide HN) (unhide HOP) (unhide fm) (unhide HB) hf)
          go_wp2_with fail
          go_ret
          exact ⟨ret_int (unhide fin).symm, B5⟩
        | true =>
          have HF := hide hf
          clear hf
          go_wp2_with fail
          refine (l1In_tr _ _ _ _).mono ?_
          rintro e w6 ⟨rfl, hw6⟩
          subst w6
          cases hq : (decide (Tr.low n.op ≤ n.num) && decide (n.num ≤ Tr.high n.op)) with
          | false =>
            have fin := hide (Tr.node_3 (unhide HN) (unhide HOP) (unhide fm) (unhide HB) (unhide HF) (by simp only [Bool.and_eq_false_iff, decide_eq_false_iff_not] at hq; omega))
            go_wp2_with fail
            go_ret
            exact ⟨ret_int (unhide fin).symm, B5⟩
          | true =>
            have hr := hide (show ¬ (n.num < Tr.low n.op ∨ Tr.high n.op < n.num) by simp only [Bool.and_eq_true, decide_eq_true_eq] at hq; omega)
            clear hq
            by_cases h17 : n.op = 17
            case neg =>
              have fin := hide (Tr.node_0 (unhide HN) (unhide HOP) (unhide fm) (unhide HB) (unhide HF) (unhide hr) (.inl h17))
              have g7 : (n.op == 17) = false := by simpa using h17
              clear h17
              go_wp2_with fail
              go_ret
              exact ⟨ret_int (unhide fin).symm, B5⟩
            case pos =>
              exfalso
              rw [h17] at hT
              exact absurd hT (by decide)

set_option maxRecDepth 100000 in
set_option maxHeartbeats 4000000 in
theorem l5Node_any (b : Nat) (l : List Nd) (i : Nat) (w : World) (hrow : Nd.Row w b 0 l) (hb : b < w.heap.size) (hi : i < l.length) (h200 : l.length ≤ 200) (hsz : (l.getD i Nd.zero).text.size ≤ 1048576) (hok : (l.getD i Nd.zero).ok) :
    Calls Try.prog 66 #[.slice (some ⟨b, 0, none⟩) l.length l.length, .int .i64 i] w fun e w' => e = .returned (.int .i64 (Tr.nodeF l i)) ∧ Below w.heap.size w w' := by
  obtain ⟨n, hn⟩ : ∃ n, n = l.getD i Nd.zero := ⟨_, rfl⟩
  rw [← hn] at hsz hok
  have HB : Hid (∀ o, Below w.heap.size w (w.alloc o)) := fun o => (Below.refl _ _).alloc (Nat.le_refl _) o
  have N1 : ∀ t, Own (w.alloc (.cells #[.int .i64 n.op, .int .i64 n.a, .int .i64 n.b, .int .i64 n.c, .int .i64 n.num, .string n.text] t)) w.heap.size t [.int .i64 n.op, .int .i64 n.a, .int .i64 n.b, .int .i64 n.c, .int .i64 n.num, .string n.text] := fun t => ⟨_, heap_alloc_new _ _, rfl⟩
  have hiI : (i : Int) < (l.length : Int) := by omega
  by_cases hop : n.op < 1 ∨ 24 < n.op
  · have fin := hide (Tr.node_6 hn hop)
    obtain ⟨f0, f1, f2, f3, f4, f5⟩ := hrow i hi
    rw [← hn] at f0 f1 f2 f3 f4 f5
    simp only [Nat.zero_add] at f0 f1 f2 f3 f4 f5
    have hin : (decide (1 ≤ n.op) && decide (n.op ≤ 24)) = false := by simp; omega
    clear hop hrow hn hsz hi N1
    go_enter Try.func66, Try.ntmps66
    go_wp2_with fail
    refine (l1In_tr _ _ _ _).mono ?_
    rintro e w2 ⟨rfl, hw2⟩
    subst w2
    rw [hin]
    go_wp2_with fail
    go_ret
    exact ⟨ret_int (unhide fin).symm, HB.out _⟩
  have hin : (decide (1 ≤ n.op) && decide (n.op ≤ 24)) = true := by simp; omega
  by_cases hz : Tr.high n.op = 0 ∧ n.num ≠ 0
  · have fin := hide (Tr.node_1 hn hop (.inl (Tr.form_num hz.1 hz.2)))
    have g1 : (Tr.high n.op == 0) = true := by simp [hz.1]
    have g2 : (n.num != 0) = true := by simpa using hz.2
    have HM := hide (fun wq => l5Nums_any n.op wq (by omega) (by omega))
    obtain ⟨f0, f1, f2, f3, f4, f5⟩ := hrow i hi
    rw [← hn] at f0 f1 f2 f3 f4 f5
    simp only [Nat.zero_add] at f0 f1 f2 f3 f4 f5
    clear hz hop hrow hn hsz hi N1
    go_enter Try.func66, Try.ntmps66
    go_wp2_with fail
    refine (l1In_tr _ _ _ _).mono ?_
    rintro e w2 ⟨rfl, hw2⟩
    subst w2
    rw [hin]
    go_wp2_with fail
    refine ((unhide HM) _).mono ?_
    rintro e w2 ⟨rfl, hw2⟩
    subst w2
    go_wp2_with fail
    go_ret
    exact ⟨ret_int (unhide fin).symm, HB.out _⟩
  have hz2 : Tr.high n.op ≠ 0 ∨ n.num = 0 := by omega
  cases hT : Tr.texts n.op with
  | true => exact l5Node_texts b l i n w hrow hb hi h200 hn hop hsz hT hz2 hok
  | false =>
  cases et : n.text.toList.isEmpty with
  | true => exact l5Node_plain b l i n w hrow hb hi h200 hn hop hsz hT (by simpa using et) hz2 hok
  | false =>
  have fin := hide (Tr.node_1 hn hop (.inl (Tr.form_text hT et)))
  have en : (!n.text.toList.isEmpty) = true := by rw [et]; rfl
  have en2 : n.text.toList ≠ [] := by intro h; rw [h] at et; simp at et
  have HM := hide (fun wq => l5Nums_any n.op wq (by omega) (by omega))
  have HX := hide (fun wq => l5Texts_any n.op wq (by omega) (by omega))
  have hcond : (Tr.high n.op == 0) = false ∨ ((Tr.high n.op == 0) = true ∧ (n.num != 0) = false) := by
    by_cases q : Tr.high n.op = 0
    · right; exact ⟨by simp [q], by simp; omega⟩
    · left; simpa using q
  obtain ⟨f0, f1, f2, f3, f4, f5⟩ := hrow i hi
  rw [← hn] at f0 f1 f2 f3 f4 f5
  simp only [Nat.zero_add] at f0 f1 f2 f3 f4 f5
  clear hz hz2 hop hrow hn hsz hi N1
  rcases hcond with g1 | ⟨g1, g2⟩
  all_goals
    go_enter Try.func66, Try.ntmps66
    go_wp2_with fail
    refine (l1In_tr _ _ _ _).mono ?_
    rintro e w2 ⟨rfl, hw2⟩
    subst w2
    rw [hin]
    go_wp2_with fail
    refine ((unhide HM) _).mono ?_
    rintro e w2 ⟨rfl, hw2⟩
    subst w2
    go_wp2_with fail
    refine ((unhide HX) _).mono ?_
    rintro e w2 ⟨rfl, hw2⟩
    subst w2
    rw [hT]
    go_wp2_with fail
    go_ret
    exact ⟨ret_int (unhide fin).symm, HB.out _⟩

end Go.Proofs.Ytokcefcjkjhnbaa
