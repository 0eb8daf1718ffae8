/-
  impl.valFault, impl.coreNodeFault.
-/
import Derived.Test.YtbaanpgbfncdnaaGreatQ07
import Derived.Test.YtbaanpgbfncdnaaGreatQ10
import Derived.Test.YtbaanpgbfncdnaaGreatQ17
import Derived.Test.YtbaanpgbfncdnaaGreatQ19
namespace Go.Proofs.YtbaanpgbfncdnaaGreat
open Go.RowKit
set_option linter.unusedVariables false
set_option linter.unusedSimpArgs false

theorem valF_no {c : Co} (h : Co.hasVal c.op = false) : Co.valF c = if 0 < c.val.length then 1 else 0 := by unfold Co.valF; rw [if_neg (by rw [h]; decide)]
theorem valF_bad {c : Co} (h : Co.hasVal c.op = true) (h1 : M.valueFault c.val ≠ 0) : Co.valF c = M.valueFault c.val := by unfold Co.valF; rw [if_pos h, if_pos h1]
theorem valF_kind {c : Co} (h : Co.hasVal c.op = true) (h1 : M.valueFault c.val = 0) (h2 : c.op = 11) (h3 : (c.val.getD 0 M.zero).kind ≠ 4) : Co.valF c = 6 := by unfold Co.valF; rw [if_pos h, if_neg (fun h => h h1), if_pos ⟨h2, h3⟩]
theorem valF_ok {c : Co} (h : Co.hasVal c.op = true) (h1 : M.valueFault c.val = 0) (h2 : ¬ (c.op = 11 ∧ (c.val.getD 0 M.zero).kind ≠ 4)) : Co.valF c = 0 := by unfold Co.valF; rw [if_pos h, if_neg (fun h => h h1), if_neg h2]

set_option maxRecDepth 100000 in
set_option maxHeartbeats 2000000 in
theorem valFault_any (c : Co) (g : Nat) (w : World) (hr : Row w g 0 c.val) (hg : g < w.heap.size) (hn : c.val.length ≤ 1048576) (hok : ∀ x ∈ c.val, x.ok) :
    Calls Tryz.prog 103 #[.agg #[.int .i64 c.op, .int .i64 c.a, .int .i64 c.b, .int .i64 c.c, .int .i64 c.num, .slice (some ⟨g, 0, none⟩) c.val.length c.val.length]] w fun e w' => e = .returned (.int .i64 (Co.valF c)) ∧ Below w.heap.size w w' := by
  have HR := hide hr
  have OK := hide hok
  obtain ⟨w1, hw1⟩ : ∃ w1, w1 = w.alloc (.cells #[.int .i64 c.op, .int .i64 c.a, .int .i64 c.b, .int .i64 c.c, .int .i64 c.num, .slice (some ⟨g, 0, none⟩) c.val.length c.val.length] 47) := ⟨_, rfl⟩
  have B1 : Below w.heap.size w w1 := by rw [hw1]; exact (Below.refl _ _).alloc (Nat.le_refl _) _
  have N1 : Own w1 w.heap.size 47 [.int .i64 c.op, .int .i64 c.a, .int .i64 c.b, .int .i64 c.c, .int .i64 c.num, .slice (some ⟨g, 0, none⟩) c.val.length c.val.length] := by rw [hw1]; exact ⟨_, heap_alloc_new _ _, rfl⟩
  clear hr hok
  cases hh : Co.hasVal c.op with
  | false =>
    have h2 : c.op ≠ 2 ∧ c.op ≠ 11 := by unfold Co.hasVal at hh; simpa using hh
    have g1 : (c.op != 2) = true := by simpa using h2.1
    have g2 : (c.op != 11) = true := by simpa using h2.2
    have fin0 := hide (valF_no hh)
    clear hh h2
    by_cases hl : 0 < c.val.length
    · have fin := hide ((unhide fin0).trans (if_pos hl))
      have g3 : (c.val.length : Int) > 0 := by omega
      go_enter Tryz.func103, Tryz.ntmps103
      go_wp2_with fail
      rw [← hw1]
      go_ret
      exact ⟨ret_int (unhide fin).symm, B1⟩
    · have fin := hide ((unhide fin0).trans (if_neg hl))
      have g3 : ¬ (c.val.length : Int) > 0 := by omega
      go_enter Tryz.func103, Tryz.ntmps103
      go_wp2_with fail
      rw [← hw1]
      go_ret
      exact ⟨ret_int (unhide fin).symm, B1⟩
  | true =>
  have h2 : c.op = 2 ∨ c.op = 11 := by unfold Co.hasVal at hh; simpa using hh
  have HH := hide hh
  clear hh
  have HV := hide (implFault_any c.val g 0 c.val.length w1 ((unhide HR).below B1 hg) (Nat.lt_of_lt_of_le hg B1.size) hn (Nat.le_refl _) (unhide OK))
  rcases h2 with h2 | h2
  · have g1 : (c.op != 2) = false := by simp [h2]
    have g2 : (c.op != 11) = true := by simp [h2]
    have g3 : (c.op == 11) = false := by simp [h2]
    have H2 := hide h2
    clear h2
    go_enter Tryz.func103, Tryz.ntmps103
    go_wp2_with fail
    rw [← hw1]
    refine (unhide HV).mono ?_
    rintro e w2 ⟨rfl, hb2⟩
    have B2 : Below w.heap.size w w2 := B1.trans (hb2.mono B1.size)
    have N2 := N1.below hb2 N1.lt
    have R2 := (unhide HR).below B2 hg
    clear hw1 HV hb2 N1
    by_cases hf : M.valueFault c.val = 0
    · rw [hf]
      have hl1 := (M.fault_zero hf).1
      have HF := hide hf
      have c0 := N2.cell 0
      have c1 := N2.cell 1
      have c2 := N2.cell 2
      have c3 := N2.cell 3
      have c4 := N2.cell 4
      have c5 := N2.cell 5
      simp only [List.getElem?_cons_zero, List.getElem?_cons_succ] at c0 c1 c2 c3 c4 c5
      have fin := hide (valF_ok (unhide HH) (unhide HF) (fun h => by rw [unhide H2] at h; exact absurd h.1 (by decide)))
      clear hf R2
      go_wp2_with fail
      go_ret
      exact ⟨ret_int (unhide fin).symm, B2⟩
    · have fin := hide (valF_bad (unhide HH) hf)
      generalize M.valueFault c.val = q at *
      have g5 : (q != 0) = true := by simpa using hf
      clear R2
      go_wp2_with fail
      go_ret
      exact ⟨ret_int (unhide fin).symm, B2⟩
  · have g1 : (c.op != 2) = true := by simp [h2]
    have g2 : (c.op != 11) = false := by simp [h2]
    have g3 : (c.op == 11) = true := by simp [h2]
    have H2 := hide h2
    clear h2
    go_enter Tryz.func103, Tryz.ntmps103
    go_wp2_with fail
    rw [← hw1]
    refine (unhide HV).mono ?_
    rintro e w2 ⟨rfl, hb2⟩
    have B2 : Below w.heap.size w w2 := B1.trans (hb2.mono B1.size)
    have N2 := N1.below hb2 N1.lt
    have R2 := (unhide HR).below B2 hg
    clear hw1 HV hb2 N1
    by_cases hf : M.valueFault c.val = 0
    · rw [hf]
      have hl1 := (M.fault_zero hf).1
      have HF := hide hf
      have c0 := N2.cell 0
      have c1 := N2.cell 1
      have c2 := N2.cell 2
      have c3 := N2.cell 3
      have c4 := N2.cell 4
      have c5 := N2.cell 5
      simp only [List.getElem?_cons_zero, List.getElem?_cons_succ] at c0 c1 c2 c3 c4 c5
      obtain ⟨f0, _, _, _, _⟩ := R2 0 (by omega)
      simp only [Nat.zero_mul, Nat.add_zero] at f0
      have hlI : (0 : Int) < (c.val.length : Int) := by omega
      by_cases h4 : (c.val.getD 0 M.zero).kind = 4
      · have fin := hide (valF_ok (unhide HH) (unhide HF) (fun h => h.2 h4))
        rw [h4] at f0
        clear hf R2 h4
        go_wp2_with fail
        go_ret
        exact ⟨ret_int (unhide fin).symm, B2⟩
      · have fin := hide (valF_kind (unhide HH) (unhide HF) (unhide H2) h4)
        have g4 : ((c.val.getD 0 M.zero).kind != 4) = true := by simpa using h4
        generalize (c.val.getD 0 M.zero).kind = kk at *
        clear hf R2 h4
        go_wp2_with fail
        go_ret
        exact ⟨ret_int (unhide fin).symm, B2⟩
    · have fin := hide (valF_bad (unhide HH) hf)
      generalize M.valueFault c.val = q at *
      have g5 : (q != 0) = true := by simpa using hf
      clear R2
      go_wp2_with fail
      go_ret
      exact ⟨ret_int (unhide fin).symm, B2⟩

set_option maxRecDepth 100000 in
set_option maxHeartbeats 4000000 in
theorem coreNodeFault_any (l : List Co) (i : Nat) (n : Co) (g : Nat) (w : World) (hn : n = l.getD i Co.zero) (hr : Row w g 0 n.val) (hg : g < w.heap.size) (hlen : n.val.length ≤ 1048576) (hok : ∀ x ∈ n.val, x.ok) (hi : i ≤ 1000) :
    Calls Tryz.prog 75 #[.agg #[.int .i64 n.op, .int .i64 n.a, .int .i64 n.b, .int .i64 n.c, .int .i64 n.num, .slice (some ⟨g, 0, none⟩) n.val.length n.val.length], .int .i64 i] w fun e w' => e = .returned (.int .i64 (Co.nodeF l i)) ∧ Below w.heap.size w w' := by
  have HN := hide hn
  have HR := hide hr
  have OK := hide hok
  clear hn hr hok
  obtain ⟨w1, hw1⟩ : ∃ w1, w1 = w.alloc (.cells #[.int .i64 n.op, .int .i64 n.a, .int .i64 n.b, .int .i64 n.c, .int .i64 n.num, .slice (some ⟨g, 0, none⟩) n.val.length n.val.length] 47) := ⟨_, rfl⟩
  have B1 : Below w.heap.size w w1 := by rw [hw1]; exact (Below.refl _ _).alloc (Nat.le_refl _) _
  have N1 : Own w1 w.heap.size 47 [.int .i64 n.op, .int .i64 n.a, .int .i64 n.b, .int .i64 n.c, .int .i64 n.num, .slice (some ⟨g, 0, none⟩) n.val.length n.val.length] := by rw [hw1]; exact ⟨_, heap_alloc_new _ _, rfl⟩
  by_cases hop : n.op < 1 ∨ 17 < n.op
  · have fin := hide (Co.node_6 (unhide HN) hop)
    by_cases h1 : n.op < 1
    · have d1 : decide (n.op < 1) = true := decide_eq_true h1
      clear hop h1
      go_enter Tryz.func75, Tryz.ntmps75
      go_wp2_with fail
      rw [← hw1]
      go_ret
      exact ⟨ret_int (unhide fin).symm, B1⟩
    · have d1 : decide (n.op < 1) = false := decide_eq_false h1
      have d2 : decide (n.op > 17) = true := decide_eq_true (by omega)
      clear hop h1
      go_enter Tryz.func75, Tryz.ntmps75
      go_wp2_with fail
      rw [← hw1]
      go_ret
      exact ⟨ret_int (unhide fin).symm, B1⟩
  have d1 : decide (n.op < 1) = false := decide_eq_false (by omega)
  have d2 : decide (n.op > 17) = false := decide_eq_false (by omega)
  have HOP := hide hop
  have HS := hide (fun wq => coreShape_any n.op wq (by omega) (by omega))
  have HL : Hid (∀ wq, Calls Tryz.prog 102 #[.agg #[.int .i64 (Co.kids n.op), .int .i64 (Co.low n.op), .int .i64 (Co.high n.op), .nilFunc], .agg #[.int .i64 n.a, .int .i64 n.b, .int .i64 n.c], .int .i64 i] wq fun e w' => e = .returned (.bool (Tr.linksOk (Co.kids n.op) n.a n.b n.c i)) ∧ Below wq.heap.size wq w') := fun wq => linksFit_any ⟨0, n.a, n.b, n.c, 0, ByteArray.empty⟩ i (Co.kids n.op) (Co.kids_le _) (Co.low n.op) (Co.high n.op) .nilFunc rfl wq
  have HV := hide (fun wq (hrq : Row wq g 0 n.val) hgq => valFault_any n g wq hrq hgq hlen (unhide OK))
  clear hop
  go_enter Tryz.func75, Tryz.ntmps75
  go_wp2_with fail
  rw [← hw1]
  refine ((unhide HS) _).mono ?_
  rintro e w2 ⟨rfl, hb2⟩
  clear hw1 HS
  have N2 := N1.below hb2 N1.lt
  have B2 : Below w.heap.size w w2 := B1.trans (hb2.mono B1.size)
  have hne : w2.heap.size ≠ w.heap.size := by have := N2.lt; omega
  have hne2 : w.heap.size ≠ w2.heap.size := by have := N2.lt; omega
  unfold coreV
  clear hb2 N1
  obtain ⟨w3, hw3⟩ : ∃ w3, w3 = w2.alloc (.cells #[.int .i64 (Co.kids n.op), .int .i64 (Co.low n.op), .int .i64 (Co.high n.op), .nilFunc] 121) := ⟨_, rfl⟩
  have B3 : Below w.heap.size w w3 := by rw [hw3]; exact B2.alloc (by have := N2.lt; omega) _
  have N3 : Own w3 w.heap.size 47 [.int .i64 n.op, .int .i64 n.a, .int .i64 n.b, .int .i64 n.c, .int .i64 n.num, .slice (some ⟨g, 0, none⟩) n.val.length n.val.length] := by rw [hw3]; exact N2.below ((Below.refl _ _).alloc (Nat.le_refl _) _) N2.lt
  have S3 : Own w3 w2.heap.size 121 [.int .i64 (Co.kids n.op), .int .i64 (Co.low n.op), .int .i64 (Co.high n.op), .nilFunc] := by rw [hw3]; exact ⟨_, heap_alloc_new _ _, rfl⟩
  have c0 := N3.cell 0
  have c1 := N3.cell 1
  have c2 := N3.cell 2
  have c3 := N3.cell 3
  have c4 := N3.cell 4
  have c5 := N3.cell 5
  simp only [List.getElem?_cons_zero, List.getElem?_cons_succ] at c0 c1 c2 c3 c4 c5
  rw [hw3] at c0 c1 c2 c3 c4 c5
  clear N2 B1 B2
  go_wp2_with fail
  refine ((unhide HL) _).mono ?_
  rintro e w5 ⟨rfl, hb5⟩
  rw [← hw3] at hb5
  have B5 : Below w.heap.size w w5 := B3.trans (hb5.mono B3.size)
  have N5 := N3.below hb5 N3.lt
  have S5 := S3.below hb5 S3.lt
  have HV5 := hide ((unhide HV) w5 ((unhide HR).below B5 hg) (Nat.lt_of_lt_of_le hg B5.size))
  clear hw3 HL c0 c1 c2 c3 c4 c5 N3 S3 B3 hb5 HR HV
  have c0 := N5.cell 0
  have c1 := N5.cell 1
  have c2 := N5.cell 2
  have c3 := N5.cell 3
  have c4 := N5.cell 4
  have c5 := N5.cell 5
  simp only [List.getElem?_cons_zero, List.getElem?_cons_succ] at c0 c1 c2 c3 c4 c5
  have s0 := S5.cell 0
  have s1 := S5.cell 1
  have s2 := S5.cell 2
  have s3 := S5.cell 3
  simp only [List.getElem?_cons_zero, List.getElem?_cons_succ] at s0 s1 s2 s3
  cases hB : Tr.linksOk (Co.kids n.op) n.a n.b n.c i with
  | false =>
    have fin := hide (Co.node_1 (unhide HN) (unhide HOP) (Co.form_no (.inl hB)))
    go_wp2_with fail
    go_ret
    exact ⟨ret_int (unhide fin).symm, B5⟩
  | true =>
  have HB := hide hB
  clear hB
  by_cases hz : Co.high n.op = 0 ∧ n.num ≠ 0
  · have fin := hide (Co.node_1 (unhide HN) (unhide HOP) (Co.form_no (.inr hz)))
    have g1 : (Co.high n.op == 0) = true := by simp [hz.1]
    have g2 : (n.num != 0) = true := by simpa using hz.2
    clear hz
    go_wp2_with fail
    go_ret
    exact ⟨ret_int (unhide fin).symm, B5⟩
  have hz2 : Co.high n.op ≠ 0 ∨ n.num = 0 := by omega
  have HFO := hide (Co.form_yes (unhide HB) hz2)
  have hcond : (Co.high n.op == 0) = false ∨ ((Co.high n.op == 0) = true ∧ (n.num != 0) = false) := by
    by_cases q : Co.high n.op = 0
    · right; exact ⟨by simp [q], by simp; omega⟩
    · left; simpa using q
  clear hz hz2
  rcases hcond with g1 | ⟨g1, g2⟩
  · go_wp2_with fail
    refine (unhide HV5).mono ?_
    rintro e w6 ⟨rfl, hb6⟩
    have B6 : Below w.heap.size w w6 := B5.trans (hb6.mono B5.size)
    have N6 := N5.below hb6 N5.lt
    have S6 := S5.below hb6 S5.lt
    clear c0 c1 c2 c3 c4 c5 s0 s1 s2 s3 hb6 N5 S5 HV5
    by_cases hv : Co.valF n = 0
    · have HVF := hide hv
      rw [hv]
      have c4 := N6.cell 4
      have s1 := S6.cell 1
      have s2 := S6.cell 2
      simp only [List.getElem?_cons_zero, List.getElem?_cons_succ] at c4 s1 s2
      clear hv
      by_cases hlo : n.num < Co.low n.op
      · have fin := hide (Co.node_3 (unhide HN) (unhide HOP) (unhide HFO) (unhide HVF) (.inl hlo))
        have g5 : decide (n.num < Co.low n.op) = true := decide_eq_true hlo
        clear hlo
        go_wp2_with fail
        go_ret
        exact ⟨ret_int (unhide fin).symm, B6⟩
      · have g5 : decide (n.num < Co.low n.op) = false := decide_eq_false hlo
        by_cases hhi : Co.high n.op < n.num
        · have fin := hide (Co.node_3 (unhide HN) (unhide HOP) (unhide HFO) (unhide HVF) (.inr hhi))
          have g6 : decide (n.num > Co.high n.op) = true := decide_eq_true hhi
          clear hlo hhi
          go_wp2_with fail
          go_ret
          exact ⟨ret_int (unhide fin).symm, B6⟩
        · have fin := hide (Co.node_0 (unhide HN) (unhide HOP) (unhide HFO) (unhide HVF) (fun h => by rcases h with h | h; exact hlo h; exact hhi h))
          have g6 : decide (n.num > Co.high n.op) = false := decide_eq_false hhi
          clear hlo hhi
          go_wp2_with fail
          go_ret
          exact ⟨ret_int (unhide fin).symm, B6⟩
    · have fin := hide (Co.node_v (unhide HN) (unhide HOP) (unhide HFO) hv)
      generalize Co.valF n = q at *
      have g5 : (q != 0) = true := by simpa using hv
      clear hv
      go_wp2_with fail
      go_ret
      exact ⟨ret_int (unhide fin).symm, B6⟩
  · go_wp2_with fail
    refine (unhide HV5).mono ?_
    rintro e w6 ⟨rfl, hb6⟩
    have B6 : Below w.heap.size w w6 := B5.trans (hb6.mono B5.size)
    have N6 := N5.below hb6 N5.lt
    have S6 := S5.below hb6 S5.lt
    clear c0 c1 c2 c3 c4 c5 s0 s1 s2 s3 hb6 N5 S5 HV5
    by_cases hv : Co.valF n = 0
    · have HVF := hide hv
      rw [hv]
      have c4 := N6.cell 4
      have s1 := S6.cell 1
      have s2 := S6.cell 2
      simp only [List.getElem?_cons_zero, List.getElem?_cons_succ] at c4 s1 s2
      clear hv
      by_cases hlo : n.num < Co.low n.op
      · have fin := hide (Co.node_3 (unhide HN) (unhide HOP) (unhide HFO) (unhide HVF) (.inl hlo))
        have g5 : decide (n.num < Co.low n.op) = true := decide_eq_true hlo
        clear hlo
        go_wp2_with fail
        go_ret
        exact ⟨ret_int (unhide fin).symm, B6⟩
      · have g5 : decide (n.num < Co.low n.op) = false := decide_eq_false hlo
        by_cases hhi : Co.high n.op < n.num
        · have fin := hide (Co.node_3 (unhide HN) (unhide HOP) (unhide HFO) (unhide HVF) (.inr hhi))
          have g6 : decide (n.num > Co.high n.op) = true := decide_eq_true hhi
          clear hlo hhi
          go_wp2_with fail
          go_ret
          exact ⟨ret_int (unhide fin).symm, B6⟩
        · have fin := hide (Co.node_0 (unhide HN) (unhide HOP) (unhide HFO) (unhide HVF) (fun h => by rcases h with h | h; exact hlo h; exact hhi h))
          have g6 : decide (n.num > Co.high n.op) = false := decide_eq_false hhi
          clear hlo hhi
          go_wp2_with fail
          go_ret
          exact ⟨ret_int (unhide fin).symm, B6⟩
    · have fin := hide (Co.node_v (unhide HN) (unhide HOP) (unhide HFO) hv)
      generalize Co.valF n = q at *
      have g5 : (q != 0) = true := by simpa using hv
      clear hv
      go_wp2_with fail
      go_ret
      exact ⟨ret_int (unhide fin).symm, B6⟩

end Go.Proofs.YtbaanpgbfncdnaaGreat
