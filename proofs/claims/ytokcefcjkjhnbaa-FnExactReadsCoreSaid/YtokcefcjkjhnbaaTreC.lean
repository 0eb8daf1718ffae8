/-
  impl.nodeFault tells the code of a node.
-/
import Derived.Test.YtokcefcjkjhnbaaTreA
import Derived.Test.YtokcefcjkjhnbaaTreB
import Derived.Test.YtokcefcjkjhnbaaTreN
import Derived.Test.YtokcefcjkjhnbaaNdM
namespace Go.Proofs.Ytokcefcjkjhnbaa
open Go.RowKit
set_option linter.unusedVariables false
set_option linter.unusedSimpArgs false

theorem linksFit_any (n : Nd) (at_ ks : Nat) (hk : ks ≤ 3) (lo hi : Int) (fv : Value) (hfv : fv.oneCell' = true) (w : World) : Calls Try.prog 101 #[.agg #[.int .i64 ks, .int .i64 lo, .int .i64 hi, fv], .agg #[.int .i64 n.a, .int .i64 n.b, .int .i64 n.c], .int .i64 at_] w fun e w' => e = .returned (.bool (Tr.linksOk ks n.a n.b n.c at_)) ∧ Below w.heap.size w w' := by
  match ks, hk with
  | 0, _ =>
    by_cases p0 : n.a = 0
    case neg =>
      have e : Tr.linksOk 0 n.a n.b n.c at_ = false := by simp [Tr.linksOk, Tr.one] <;> omega
      rw [e]; exact links_0_0_zero n at_ lo hi fv hfv w  p0
    case pos =>
      by_cases p1 : n.b = 0
      case neg =>
        have e : Tr.linksOk 0 n.a n.b n.c at_ = false := by simp [Tr.linksOk, Tr.one] <;> omega
        rw [e]; exact links_0_1_zero n at_ lo hi fv hfv w p0 p1
      case pos =>
        by_cases p2 : n.c = 0
        case neg =>
          have e : Tr.linksOk 0 n.a n.b n.c at_ = false := by simp [Tr.linksOk, Tr.one] <;> omega
          rw [e]; exact links_0_2_zero n at_ lo hi fv hfv w p0 p1 p2
        case pos =>
          have e : Tr.linksOk 0 n.a n.b n.c at_ = true := by simp [Tr.linksOk, Tr.one] <;> omega
          rw [e]; exact links_0_3_ok n at_ lo hi fv hfv w p0 p1 p2
  | 1, _ =>
    by_cases p0 : n.a < 0
    · have e : Tr.linksOk 1 n.a n.b n.c at_ = false := by simp [Tr.linksOk, Tr.one] <;> omega
      rw [e]; exact links_1_0_low n at_ lo hi fv hfv w  p0
    by_cases q0 : (at_ : Int) ≤ n.a
    · have e : Tr.linksOk 1 n.a n.b n.c at_ = false := by simp [Tr.linksOk, Tr.one] <;> omega
      rw [e]; exact links_1_0_high n at_ lo hi fv hfv w  (by omega) q0
    by_cases p1 : n.b = 0
    case neg =>
      have e : Tr.linksOk 1 n.a n.b n.c at_ = false := by simp [Tr.linksOk, Tr.one] <;> omega
      rw [e]; exact links_1_1_zero n at_ lo hi fv hfv w (by omega) (by omega) p1
    case pos =>
      by_cases p2 : n.c = 0
      case neg =>
        have e : Tr.linksOk 1 n.a n.b n.c at_ = false := by simp [Tr.linksOk, Tr.one] <;> omega
        rw [e]; exact links_1_2_zero n at_ lo hi fv hfv w (by omega) (by omega) p1 p2
      case pos =>
        have e : Tr.linksOk 1 n.a n.b n.c at_ = true := by simp [Tr.linksOk, Tr.one] <;> omega
        rw [e]; exact links_1_3_ok n at_ lo hi fv hfv w (by omega) (by omega) p1 p2
  | 2, _ =>
    by_cases p0 : n.a < 0
    · have e : Tr.linksOk 2 n.a n.b n.c at_ = false := by simp [Tr.linksOk, Tr.one] <;> omega
      rw [e]; exact links_2_0_low n at_ lo hi fv hfv w  p0
    by_cases q0 : (at_ : Int) ≤ n.a
    · have e : Tr.linksOk 2 n.a n.b n.c at_ = false := by simp [Tr.linksOk, Tr.one] <;> omega
      rw [e]; exact links_2_0_high n at_ lo hi fv hfv w  (by omega) q0
    by_cases p1 : n.b < 0
    · have e : Tr.linksOk 2 n.a n.b n.c at_ = false := by simp [Tr.linksOk, Tr.one] <;> omega
      rw [e]; exact links_2_1_low n at_ lo hi fv hfv w (by omega) (by omega) p1
    by_cases q1 : (at_ : Int) ≤ n.b
    · have e : Tr.linksOk 2 n.a n.b n.c at_ = false := by simp [Tr.linksOk, Tr.one] <;> omega
      rw [e]; exact links_2_1_high n at_ lo hi fv hfv w (by omega) (by omega) (by omega) q1
    by_cases p2 : n.c = 0
    case neg =>
      have e : Tr.linksOk 2 n.a n.b n.c at_ = false := by simp [Tr.linksOk, Tr.one] <;> omega
      rw [e]; exact links_2_2_zero n at_ lo hi fv hfv w (by omega) (by omega) (by omega) (by omega) p2
    case pos =>
      have e : Tr.linksOk 2 n.a n.b n.c at_ = true := by simp [Tr.linksOk, Tr.one] <;> omega
      rw [e]; exact links_2_3_ok n at_ lo hi fv hfv w (by omega) (by omega) (by omega) (by omega) p2
  | 3, _ =>
    by_cases p0 : n.a < 0
    · have e : Tr.linksOk 3 n.a n.b n.c at_ = false := by simp [Tr.linksOk, Tr.one] <;> omega
      rw [e]; exact links_3_0_low n at_ lo hi fv hfv w  p0
    by_cases q0 : (at_ : Int) ≤ n.a
    · have e : Tr.linksOk 3 n.a n.b n.c at_ = false := by simp [Tr.linksOk, Tr.one] <;> omega
      rw [e]; exact links_3_0_high n at_ lo hi fv hfv w  (by omega) q0
    by_cases p1 : n.b < 0
    · have e : Tr.linksOk 3 n.a n.b n.c at_ = false := by simp [Tr.linksOk, Tr.one] <;> omega
      rw [e]; exact links_3_1_low n at_ lo hi fv hfv w (by omega) (by omega) p1
    by_cases q1 : (at_ : Int) ≤ n.b
    · have e : Tr.linksOk 3 n.a n.b n.c at_ = false := by simp [Tr.linksOk, Tr.one] <;> omega
      rw [e]; exact links_3_1_high n at_ lo hi fv hfv w (by omega) (by omega) (by omega) q1
    by_cases p2 : n.c < 0
    · have e : Tr.linksOk 3 n.a n.b n.c at_ = false := by simp [Tr.linksOk, Tr.one] <;> omega
      rw [e]; exact links_3_2_low n at_ lo hi fv hfv w (by omega) (by omega) (by omega) (by omega) p2
    by_cases q2 : (at_ : Int) ≤ n.c
    · have e : Tr.linksOk 3 n.a n.b n.c at_ = false := by simp [Tr.linksOk, Tr.one] <;> omega
      rw [e]; exact links_3_2_high n at_ lo hi fv hfv w (by omega) (by omega) (by omega) (by omega) (by omega) q2
    have e : Tr.linksOk 3 n.a n.b n.c at_ = true := by simp [Tr.linksOk, Tr.one] <;> omega
    rw [e]; exact links_3_3_ok n at_ lo hi fv hfv w (by omega) (by omega) (by omega) (by omega) (by omega) (by omega)

set_option maxRecDepth 100000 in
set_option maxHeartbeats 4000000 in
theorem nodeFault_nil (b : Nat) (l : List Nd) (i : Nat) (n : Nd) (w : World) (hrow : Nd.Row w b 0 l) (hb : b < w.heap.size) (hi : i < l.length) (h200 : l.length ≤ 200) (hn : n = l.getD i Nd.zero) (hop : ¬ (n.op < 1 ∨ 24 < n.op)) (hsz : n.text.size ≤ 1048576) (hV : fitsV n.op = .nilFunc) (hT : Tr.texts n.op = false) (hF : Tr.fits n.op n.text = true) :
    Calls Try.prog 69 #[.slice (some ⟨b, 0, none⟩) l.length l.length, .int .i64 i] w fun e w' => e = .returned (.int .i64 (Tr.nodeF l i)) ∧ Below w.heap.size w w' := by
  have hiI : (i : Int) < (l.length : Int) := by omega
  obtain ⟨f0, f1, f2, f3, f4, f5⟩ := hrow i hi
  rw [← hn] at f0 f1 f2 f3 f4 f5
  simp only [Nat.zero_add] at f0 f1 f2 f3 f4 f5
  have HR := hide hrow
  have HN := hide hn
  have HI := hide hi
  have HOP := hide hop
  clear hrow hn hi
  have d1 : decide (n.op < 1) = false := decide_eq_false (by omega)
  have d2 : decide (n.op > 24) = false := decide_eq_false (by omega)
  have u1 : ∀ W, (binOp BinOp.eql 136 (.nilFunc) .nilFunc).run Try.prog W = .ok (.bool true) W := fun _ => by kernel_rfl
  have u2 : ∀ W, (binOp BinOp.neq 136 (.nilFunc) .nilFunc).run Try.prog W = .ok (.bool false) W := fun _ => by kernel_rfl
  have HS := hide (fun wq => shapeOf_any n.op wq (by omega) (by omega))
  have HL := hide (fun wq => linksFit_any n i (Tr.kids n.op) (Tr.kids_le _) (Tr.low n.op) (Tr.high n.op) (.nilFunc) rfl wq)
  obtain ⟨w1, hw1⟩ : ∃ w1, w1 = w.alloc (.cells #[.int .i64 n.op, .int .i64 n.a, .int .i64 n.b, .int .i64 n.c, .int .i64 n.num, .string n.text] 71) := ⟨_, rfl⟩
  have B1 : Below w.heap.size w w1 := by rw [hw1]; exact (Below.refl _ _).alloc (Nat.le_refl _) _
  have N1 : Own w1 w.heap.size 71 [.int .i64 n.op, .int .i64 n.a, .int .i64 n.b, .int .i64 n.c, .int .i64 n.num, .string n.text] := by rw [hw1]; exact ⟨_, heap_alloc_new _ _, rfl⟩
  clear hop
  go_enter Try.func69, Try.ntmps69
  go_wp2_with fail
  refine ((unhide HS) _).mono ?_
  rintro e w2 ⟨rfl, hb2⟩
  rw [← hw1] at hb2
  clear hw1 HS
  have N2 := N1.below hb2 N1.lt
  have B2 : Below w.heap.size w w2 := B1.trans (hb2.mono B1.size)
  have hne : w2.heap.size ≠ w.heap.size := by have := N2.lt; omega
  have hne2 : w.heap.size ≠ w2.heap.size := by have := N2.lt; omega
  unfold shapeV
  rw [hV]
  have c0 := N2.cell 0
  have c1 := N2.cell 1
  have c2 := N2.cell 2
  have c3 := N2.cell 3
  have c4 := N2.cell 4
  have c5 := N2.cell 5
  simp only [List.getElem?_cons_zero, List.getElem?_cons_succ] at c0 c1 c2 c3 c4 c5
  clear f0 f1 f2 f3 f4 f5 hb2 N1
  obtain ⟨w3, hw3⟩ : ∃ w3, w3 = w2.alloc (.cells #[.int .i64 (Tr.kids n.op), .int .i64 (Tr.low n.op), .int .i64 (Tr.high n.op), .nilFunc] 138) := ⟨_, rfl⟩
  have B3 : Below w.heap.size w w3 := by rw [hw3]; exact B2.alloc (by have := N2.lt; omega) _
  have N3 : Own w3 w.heap.size 71 [.int .i64 n.op, .int .i64 n.a, .int .i64 n.b, .int .i64 n.c, .int .i64 n.num, .string n.text] := by rw [hw3]; exact N2.below ((Below.refl _ _).alloc (Nat.le_refl _) _) N2.lt
  have S3 : Own w3 w2.heap.size 138 [.int .i64 (Tr.kids n.op), .int .i64 (Tr.low n.op), .int .i64 (Tr.high n.op), .nilFunc] := by rw [hw3]; exact ⟨_, heap_alloc_new _ _, rfl⟩
  clear c0 c1 c2 c3 c4 c5
  have c0 := N3.cell 0
  have c1 := N3.cell 1
  have c2 := N3.cell 2
  have c3 := N3.cell 3
  have c4 := N3.cell 4
  have c5 := N3.cell 5
  simp only [List.getElem?_cons_zero, List.getElem?_cons_succ] at c0 c1 c2 c3 c4 c5
  rw [hw3] at c0 c1 c2 c3 c4 c5
  clear N2 B1 B2
  go_wp2_with fail
  refine ((unhide HL) _).mono ?_
  rintro e w5 ⟨rfl, hb5⟩
  rw [← hw3] at hb5
  have B5 : Below w.heap.size w w5 := B3.trans (hb5.mono B3.size)
  have N5 := N3.below hb5 N3.lt
  have S5 := S3.below hb5 S3.lt
  have R5 := (unhide HR).below B5 hb
  have HR5 := hide R5
  clear R5 hw3 HL c0 c1 c2 c3 c4 c5 N3 S3 B3 hb5 HR
  have c0 := N5.cell 0
  have c1 := N5.cell 1
  have c2 := N5.cell 2
  have c3 := N5.cell 3
  have c4 := N5.cell 4
  have c5 := N5.cell 5
  have s0 := S5.cell 0
  have s1 := S5.cell 1
  have s2 := S5.cell 2
  have s3 := S5.cell 3
  simp only [List.getElem?_cons_zero, List.getElem?_cons_succ] at c0 c1 c2 c3 c4 c5 s0 s1 s2 s3
  cases hB : Tr.linksOk (Tr.kids n.op) n.a n.b n.c i with
  | false =>
    have fin := hide (Tr.node_1 (unhide HN) (unhide HOP) (.inr hB))
    go_wp2_with fail
    go_ret
    exact ⟨ret_int (unhide fin).symm, B5⟩
  | true =>
  have HB := hide hB
  clear hB
  by_cases hz : Tr.high n.op = 0 ∧ n.num ≠ 0
  · have fin := hide (Tr.node_1 (unhide HN) (unhide HOP) (.inl (Tr.form_num hz.1 hz.2)))
    have g1 : (Tr.high n.op == 0) = true := by simp [hz.1]
    have g2 : (n.num != 0) = true := by simpa using hz.2
    clear hz
    go_wp2_with fail
    go_ret
    exact ⟨ret_int (unhide fin).symm, B5⟩
  have hz2 : Tr.high n.op ≠ 0 ∨ n.num = 0 := by omega
  have hcond : (Tr.high n.op == 0) = false ∨ ((Tr.high n.op == 0) = true ∧ (n.num != 0) = false) := by
    by_cases q : Tr.high n.op = 0
    · right; exact ⟨by simp [q], by simp; omega⟩
    · left; simpa using q
  clear hz
  have HZ := hide hz2
  clear hz2
  have HF := hide hF
  clear hF
  cases et : n.text.toList.isEmpty with
  | false =>
    have fin := hide (Tr.node_1 (unhide HN) (unhide HOP) (.inl (Tr.form_text hT et)))
    have en : (!n.text.toList.isEmpty) = true := by rw [et]; rfl
    have en2 : n.text.toList ≠ [] := by intro h; rw [h] at et; simp at et
    rcases hcond with g1 | ⟨g1, g2⟩
    all_goals (go_wp2_with fail; go_ret; exact ⟨ret_int (unhide fin).symm, B5⟩)
  | true =>
    have en2 : n.text.toList = [] := by simpa using et
    rcases hcond with g1 | ⟨g1, g2⟩
    · have fm := hide (Tr.form_ok (unhide HZ) (.inr et))
      by_cases r1 : n.num < Tr.low n.op
      · have fin := hide (Tr.node_3 (unhide HN) (unhide HOP) (unhide fm) (unhide HB) (unhide HF) (.inl r1))
        have g8 : decide (n.num < Tr.low n.op) = true := decide_eq_true r1
        clear r1
        go_wp2_with fail
        go_ret
        exact ⟨ret_int (unhide fin).symm, B5⟩
      by_cases r2 : Tr.high n.op < n.num
      · have fin := hide (Tr.node_3 (unhide HN) (unhide HOP) (unhide fm) (unhide HB) (unhide HF) (.inr r2))
        have g8 : decide (n.num < Tr.low n.op) = false := decide_eq_false r1
        have g9 : decide (n.num > Tr.high n.op) = true := decide_eq_true r2
        clear r1 r2
        go_wp2_with fail
        go_ret
        exact ⟨ret_int (unhide fin).symm, B5⟩
      have g8 : decide (n.num < Tr.low n.op) = false := decide_eq_false r1
      have g9 : decide (n.num > Tr.high n.op) = false := decide_eq_false r2
      have hr := hide (show ¬ (n.num < Tr.low n.op ∨ Tr.high n.op < n.num) by omega)
      clear r1 r2
      by_cases h17 : n.op = 17
      case neg =>
        have fin := hide (Tr.node_0 (unhide HN) (unhide HOP) (unhide fm) (unhide HB) (unhide HF) (unhide hr) (.inl h17))
        have g7 : (n.op == 17) = false := by simpa using h17
        clear h17
        go_wp2_with fail
        go_ret
        exact ⟨ret_int (unhide fin).symm, B5⟩
      case pos =>
        exfalso
        rw [h17] at hT
        exact absurd hT (by decide)
    · have fm := hide (Tr.form_ok (unhide HZ) (.inr et))
      by_cases r1 : n.num < Tr.low n.op
      · have fin := hide (Tr.node_3 (unhide HN) (unhide HOP) (unhide fm) (unhide HB) (unhide HF) (.inl r1))
        have g8 : decide (n.num < Tr.low n.op) = true := decide_eq_true r1
        clear r1
        go_wp2_with fail
        go_ret
        exact ⟨ret_int (unhide fin).symm, B5⟩
      by_cases r2 : Tr.high n.op < n.num
      · have fin := hide (Tr.node_3 (unhide HN) (unhide HOP) (unhide fm) (unhide HB) (unhide HF) (.inr r2))
        have g8 : decide (n.num < Tr.low n.op) = false := decide_eq_false r1
        have g9 : decide (n.num > Tr.high n.op) = true := decide_eq_true r2
        clear r1 r2
        go_wp2_with fail
        go_ret
        exact ⟨ret_int (unhide fin).symm, B5⟩
      have g8 : decide (n.num < Tr.low n.op) = false := decide_eq_false r1
      have g9 : decide (n.num > Tr.high n.op) = false := decide_eq_false r2
      have hr := hide (show ¬ (n.num < Tr.low n.op ∨ Tr.high n.op < n.num) by omega)
      clear r1 r2
      by_cases h17 : n.op = 17
      case neg =>
        have fin := hide (Tr.node_0 (unhide HN) (unhide HOP) (unhide fm) (unhide HB) (unhide HF) (unhide hr) (.inl h17))
        have g7 : (n.op == 17) = false := by simpa using h17
        clear h17
        go_wp2_with fail
        go_ret
        exact ⟨ret_int (unhide fin).symm, B5⟩
      case pos =>
        exfalso
        rw [h17] at hT
        exact absurd hT (by decide)

set_option maxRecDepth 100000 in
set_option maxHeartbeats 4000000 in
theorem nodeFault_text (b : Nat) (l : List Nd) (i : Nat) (n : Nd) (w : World) (hrow : Nd.Row w b 0 l) (hb : b < w.heap.size) (hi : i < l.length) (h200 : l.length ≤ 200) (hn : n = l.getD i Nd.zero) (hop : ¬ (n.op < 1 ∨ 24 < n.op)) (hsz : n.text.size ≤ 1048576) (hV : fitsV n.op = .func (.func 121) #[] #[]) (hT : Tr.texts n.op = true) (hF : Tr.fits n.op n.text = M.textOk n.text) :
    Calls Try.prog 69 #[.slice (some ⟨b, 0, none⟩) l.length l.length, .int .i64 i] w fun e w' => e = .returned (.int .i64 (Tr.nodeF l i)) ∧ Below w.heap.size w w' := by
  have hiI : (i : Int) < (l.length : Int) := by omega
  obtain ⟨f0, f1, f2, f3, f4, f5⟩ := hrow i hi
  rw [← hn] at f0 f1 f2 f3 f4 f5
  simp only [Nat.zero_add] at f0 f1 f2 f3 f4 f5
  have HR := hide hrow
  have HN := hide hn
  have HI := hide hi
  have HOP := hide hop
  clear hrow hn hi
  have d1 : decide (n.op < 1) = false := decide_eq_false (by omega)
  have d2 : decide (n.op > 24) = false := decide_eq_false (by omega)
  have u1 : ∀ W, (binOp BinOp.eql 136 (.func (.func 121) #[] #[]) .nilFunc).run Try.prog W = .ok (.bool false) W := fun _ => by kernel_rfl
  have u2 : ∀ W, (binOp BinOp.neq 136 (.func (.func 121) #[] #[]) .nilFunc).run Try.prog W = .ok (.bool true) W := fun _ => by kernel_rfl
  have HS := hide (fun wq => shapeOf_any n.op wq (by omega) (by omega))
  have HL := hide (fun wq => linksFit_any n i (Tr.kids n.op) (Tr.kids_le _) (Tr.low n.op) (Tr.high n.op) (.func (.func 121) #[] #[]) rfl wq)
  obtain ⟨w1, hw1⟩ : ∃ w1, w1 = w.alloc (.cells #[.int .i64 n.op, .int .i64 n.a, .int .i64 n.b, .int .i64 n.c, .int .i64 n.num, .string n.text] 71) := ⟨_, rfl⟩
  have B1 : Below w.heap.size w w1 := by rw [hw1]; exact (Below.refl _ _).alloc (Nat.le_refl _) _
  have N1 : Own w1 w.heap.size 71 [.int .i64 n.op, .int .i64 n.a, .int .i64 n.b, .int .i64 n.c, .int .i64 n.num, .string n.text] := by rw [hw1]; exact ⟨_, heap_alloc_new _ _, rfl⟩
  clear hop
  go_enter Try.func69, Try.ntmps69
  go_wp2_with fail
  refine ((unhide HS) _).mono ?_
  rintro e w2 ⟨rfl, hb2⟩
  rw [← hw1] at hb2
  clear hw1 HS
  have N2 := N1.below hb2 N1.lt
  have B2 : Below w.heap.size w w2 := B1.trans (hb2.mono B1.size)
  have hne : w2.heap.size ≠ w.heap.size := by have := N2.lt; omega
  have hne2 : w.heap.size ≠ w2.heap.size := by have := N2.lt; omega
  unfold shapeV
  rw [hV]
  have c0 := N2.cell 0
  have c1 := N2.cell 1
  have c2 := N2.cell 2
  have c3 := N2.cell 3
  have c4 := N2.cell 4
  have c5 := N2.cell 5
  simp only [List.getElem?_cons_zero, List.getElem?_cons_succ] at c0 c1 c2 c3 c4 c5
  clear f0 f1 f2 f3 f4 f5 hb2 N1
  obtain ⟨w3, hw3⟩ : ∃ w3, w3 = w2.alloc (.cells #[.int .i64 (Tr.kids n.op), .int .i64 (Tr.low n.op), .int .i64 (Tr.high n.op), .func (.func 121) #[] #[]] 138) := ⟨_, rfl⟩
  have B3 : Below w.heap.size w w3 := by rw [hw3]; exact B2.alloc (by have := N2.lt; omega) _
  have N3 : Own w3 w.heap.size 71 [.int .i64 n.op, .int .i64 n.a, .int .i64 n.b, .int .i64 n.c, .int .i64 n.num, .string n.text] := by rw [hw3]; exact N2.below ((Below.refl _ _).alloc (Nat.le_refl _) _) N2.lt
  have S3 : Own w3 w2.heap.size 138 [.int .i64 (Tr.kids n.op), .int .i64 (Tr.low n.op), .int .i64 (Tr.high n.op), .func (.func 121) #[] #[]] := by rw [hw3]; exact ⟨_, heap_alloc_new _ _, rfl⟩
  clear c0 c1 c2 c3 c4 c5
  have c0 := N3.cell 0
  have c1 := N3.cell 1
  have c2 := N3.cell 2
  have c3 := N3.cell 3
  have c4 := N3.cell 4
  have c5 := N3.cell 5
  simp only [List.getElem?_cons_zero, List.getElem?_cons_succ] at c0 c1 c2 c3 c4 c5
  rw [hw3] at c0 c1 c2 c3 c4 c5
  clear N2 B1 B2
  go_wp2_with fail
  refine ((unhide HL) _).mono ?_
  rintro e w5 ⟨rfl, hb5⟩
  rw [← hw3] at hb5
  have B5 : Below w.heap.size w w5 := B3.trans (hb5.mono B3.size)
  have N5 := N3.below hb5 N3.lt
  have S5 := S3.below hb5 S3.lt
  have R5 := (unhide HR).below B5 hb
  have HR5 := hide R5
  clear R5 hw3 HL c0 c1 c2 c3 c4 c5 N3 S3 B3 hb5 HR
  have c0 := N5.cell 0
  have c1 := N5.cell 1
  have c2 := N5.cell 2
  have c3 := N5.cell 3
  have c4 := N5.cell 4
  have c5 := N5.cell 5
  have s0 := S5.cell 0
  have s1 := S5.cell 1
  have s2 := S5.cell 2
  have s3 := S5.cell 3
  simp only [List.getElem?_cons_zero, List.getElem?_cons_succ] at c0 c1 c2 c3 c4 c5 s0 s1 s2 s3
  cases hB : Tr.linksOk (Tr.kids n.op) n.a n.b n.c i with
  | false =>
    have fin := hide (Tr.node_1 (unhide HN) (unhide HOP) (.inr hB))
    go_wp2_with fail
    go_ret
    exact ⟨ret_int (unhide fin).symm, B5⟩
  | true =>
  have HB := hide hB
  clear hB
  by_cases hz : Tr.high n.op = 0 ∧ n.num ≠ 0
  · have fin := hide (Tr.node_1 (unhide HN) (unhide HOP) (.inl (Tr.form_num hz.1 hz.2)))
    have g1 : (Tr.high n.op == 0) = true := by simp [hz.1]
    have g2 : (n.num != 0) = true := by simpa using hz.2
    clear hz
    go_wp2_with fail
    go_ret
    exact ⟨ret_int (unhide fin).symm, B5⟩
  have hz2 : Tr.high n.op ≠ 0 ∨ n.num = 0 := by omega
  have hcond : (Tr.high n.op == 0) = false ∨ ((Tr.high n.op == 0) = true ∧ (n.num != 0) = false) := by
    by_cases q : Tr.high n.op = 0
    · right; exact ⟨by simp [q], by simp; omega⟩
    · left; simpa using q
  clear hz
  have HZ := hide hz2
  clear hz2
  have HF := hide hF
  clear hF
  rcases hcond with g1 | ⟨g1, g2⟩
  · go_wp2_with fail
    refine (textFits_any n.text _ (by omega)).mono ?_
    rintro e w4 ⟨rfl, hw4⟩; subst hw4; have hb4 := Below.refl w4.heap.size w4
    have B4 : Below w.heap.size w w4 := B5.trans (hb4.mono B5.size)
    have N4 := N5.below hb4 N5.lt
    have S4 := S5.below hb4 S5.lt
    clear c0 c1 c2 c3 c4 c5 s0 s1 s2 s3
    have c0 := N4.cell 0
    have c1 := N4.cell 1
    have c2 := N4.cell 2
    have c3 := N4.cell 3
    have c4 := N4.cell 4
    have c5 := N4.cell 5
    have s0 := S4.cell 0
    have s1 := S4.cell 1
    have s2 := S4.cell 2
    have s3 := S4.cell 3
    simp only [List.getElem?_cons_zero, List.getElem?_cons_succ] at c0 c1 c2 c3 c4 c5 s0 s1 s2 s3
    cases hf : M.textOk n.text with
    | false =>
      have fin := hide (Tr.node_5 (unhide HN) (unhide HOP) (Tr.form_ok (unhide HZ) (.inl hT)) (unhide HB) ((unhide HF).trans hf))
      go_wp2_with fail
      go_ret
      exact ⟨ret_int (unhide fin).symm, B4⟩
    | true =>
      replace HF : Hid (Tr.fits n.op n.text = true) := (unhide HF).trans hf
      clear hf
      have fm := hide (Tr.form_ok (unhide HZ) (.inl hT))
      by_cases r1 : n.num < Tr.low n.op
      · have fin := hide (Tr.node_3 (unhide HN) (unhide HOP) (unhide fm) (unhide HB) (unhide HF) (.inl r1))
        have g8 : decide (n.num < Tr.low n.op) = true := decide_eq_true r1
        clear r1
        go_wp2_with fail
        go_ret
        exact ⟨ret_int (unhide fin).symm, B4⟩
      by_cases r2 : Tr.high n.op < n.num
      · have fin := hide (Tr.node_3 (unhide HN) (unhide HOP) (unhide fm) (unhide HB) (unhide HF) (.inr r2))
        have g8 : decide (n.num < Tr.low n.op) = false := decide_eq_false r1
        have g9 : decide (n.num > Tr.high n.op) = true := decide_eq_true r2
        clear r1 r2
        go_wp2_with fail
        go_ret
        exact ⟨ret_int (unhide fin).symm, B4⟩
      have g8 : decide (n.num < Tr.low n.op) = false := decide_eq_false r1
      have g9 : decide (n.num > Tr.high n.op) = false := decide_eq_false r2
      have hr := hide (show ¬ (n.num < Tr.low n.op ∨ Tr.high n.op < n.num) by omega)
      clear r1 r2
      by_cases h17 : n.op = 17
      case neg =>
        have fin := hide (Tr.node_0 (unhide HN) (unhide HOP) (unhide fm) (unhide HB) (unhide HF) (unhide hr) (.inl h17))
        have g7 : (n.op == 17) = false := by simpa using h17
        clear h17
        go_wp2_with fail
        go_ret
        exact ⟨ret_int (unhide fin).symm, B4⟩
      case pos =>
        have hfst := Tr.first_fine (unhide HB) (by rw [h17]; decide)
        have g7 : (n.op == 17) = true := by simp [h17]
        obtain ⟨q, hq⟩ : ∃ q : Nat, n.a = q := ⟨n.a.toNat, by omega⟩
        have hqI : (q : Int) < (l.length : Int) := by omega
        have hq0 : (0 : Int) ≤ (q : Int) := by omega
        obtain ⟨m0, _⟩ := ((unhide HR5).below hb4 (by have := B5.size; omega)) q (by omega)
        simp only [Nat.zero_add] at m0
        have hqt : n.a.toNat = q := by omega
        have fz := hide (fun h => Tr.node_0 (unhide HN) (unhide HOP) (unhide fm) (unhide HB) (unhide HF) (unhide hr) (.inr (.inl h)))
        have fy := hide (fun h => Tr.node_0 (unhide HN) (unhide HOP) (unhide fm) (unhide HB) (unhide HF) (unhide hr) (.inr (.inr h)))
        have fx := hide (fun h h' => Tr.node_1b (unhide HN) (unhide HOP) (unhide fm) (unhide HB) (unhide HF) (unhide hr) h17 h h')
        rw [hqt] at fz fy fx
        rw [hq] at c1
        generalize (l.getD q Nd.zero).op = qo at m0 fz fy fx
        clear h17 hfst hqt hq
        by_cases k16 : qo = 16
        · have fin := hide ((unhide fz) k16)
          have g16 : (qo != 16) = false := by simp [k16]
          clear k16 fz fy fx
          go_wp2_with fail
          go_ret
          exact ⟨ret_int (unhide fin).symm, B4⟩
        have g16 : (qo != 16) = true := by simpa using k16
        by_cases k17 : qo = 17
        · have fin := hide ((unhide fy) k17)
          have g17 : (qo != 17) = false := by simp [k17]
          clear k16 k17 fz fy fx
          go_wp2_with fail
          go_ret
          exact ⟨ret_int (unhide fin).symm, B4⟩
        have g17 : (qo != 17) = true := by simpa using k17
        have fin := hide ((unhide fx) k16 k17)
        clear k16 k17 fz fy fx
        go_wp2_with fail
        go_ret
        exact ⟨ret_int (unhide fin).symm, B4⟩
  · go_wp2_with fail
    refine (textFits_any n.text _ (by omega)).mono ?_
    rintro e w4 ⟨rfl, hw4⟩; subst hw4; have hb4 := Below.refl w4.heap.size w4
    have B4 : Below w.heap.size w w4 := B5.trans (hb4.mono B5.size)
    have N4 := N5.below hb4 N5.lt
    have S4 := S5.below hb4 S5.lt
    clear c0 c1 c2 c3 c4 c5 s0 s1 s2 s3
    have c0 := N4.cell 0
    have c1 := N4.cell 1
    have c2 := N4.cell 2
    have c3 := N4.cell 3
    have c4 := N4.cell 4
    have c5 := N4.cell 5
    have s0 := S4.cell 0
    have s1 := S4.cell 1
    have s2 := S4.cell 2
    have s3 := S4.cell 3
    simp only [List.getElem?_cons_zero, List.getElem?_cons_succ] at c0 c1 c2 c3 c4 c5 s0 s1 s2 s3
    cases hf : M.textOk n.text with
    | false =>
      have fin := hide (Tr.node_5 (unhide HN) (unhide HOP) (Tr.form_ok (unhide HZ) (.inl hT)) (unhide HB) ((unhide HF).trans hf))
      go_wp2_with fail
      go_ret
      exact ⟨ret_int (unhide fin).symm, B4⟩
    | true =>
      replace HF : Hid (Tr.fits n.op n.text = true) := (unhide HF).trans hf
      clear hf
      have fm := hide (Tr.form_ok (unhide HZ) (.inl hT))
      by_cases r1 : n.num < Tr.low n.op
      · have fin := hide (Tr.node_3 (unhide HN) (unhide HOP) (unhide fm) (unhide HB) (unhide HF) (.inl r1))
        have g8 : decide (n.num < Tr.low n.op) = true := decide_eq_true r1
        clear r1
        go_wp2_with fail
        go_ret
        exact ⟨ret_int (unhide fin).symm, B4⟩
      by_cases r2 : Tr.high n.op < n.num
      · have fin := hide (Tr.node_3 (unhide HN) (unhide HOP) (unhide fm) (unhide HB) (unhide HF) (.inr r2))
        have g8 : decide (n.num < Tr.low n.op) = false := decide_eq_false r1
        have g9 : decide (n.num > Tr.high n.op) = true := decide_eq_true r2
        clear r1 r2
        go_wp2_with fail
        go_ret
        exact ⟨ret_int (unhide fin).symm, B4⟩
      have g8 : decide (n.num < Tr.low n.op) = false := decide_eq_false r1
      have g9 : decide (n.num > Tr.high n.op) = false := decide_eq_false r2
      have hr := hide (show ¬ (n.num < Tr.low n.op ∨ Tr.high n.op < n.num) by omega)
      clear r1 r2
      by_cases h17 : n.op = 17
      case neg =>
        have fin := hide (Tr.node_0 (unhide HN) (unhide HOP) (unhide fm) (unhide HB) (unhide HF) (unhide hr) (.inl h17))
        have g7 : (n.op == 17) = false := by simpa using h17
        clear h17
        go_wp2_with fail
        go_ret
        exact ⟨ret_int (unhide fin).symm, B4⟩
      case pos =>
        have hfst := Tr.first_fine (unhide HB) (by rw [h17]; decide)
        have g7 : (n.op == 17) = true := by simp [h17]
        obtain ⟨q, hq⟩ : ∃ q : Nat, n.a = q := ⟨n.a.toNat, by omega⟩
        have hqI : (q : Int) < (l.length : Int) := by omega
        have hq0 : (0 : Int) ≤ (q : Int) := by omega
        obtain ⟨m0, _⟩ := ((unhide HR5).below hb4 (by have := B5.size; omega)) q (by omega)
        simp only [Nat.zero_add] at m0
        have hqt : n.a.toNat = q := by omega
        have fz := hide (fun h => Tr.node_0 (unhide HN) (unhide HOP) (unhide fm) (unhide HB) (unhide HF) (unhide hr) (.inr (.inl h)))
        have fy := hide (fun h => Tr.node_0 (unhide HN) (unhide HOP) (unhide fm) (unhide HB) (unhide HF) (unhide hr) (.inr (.inr h)))
        have fx := hide (fun h h' => Tr.node_1b (unhide HN) (unhide HOP) (unhide fm) (unhide HB) (unhide HF) (unhide hr) h17 h h')
        rw [hqt] at fz fy fx
        rw [hq] at c1
        generalize (l.getD q Nd.zero).op = qo at m0 fz fy fx
        clear h17 hfst hqt hq
        by_cases k16 : qo = 16
        · have fin := hide ((unhide fz) k16)
          have g16 : (qo != 16) = false := by simp [k16]
          clear k16 fz fy fx
          go_wp2_with fail
          go_ret
          exact ⟨ret_int (unhide fin).symm, B4⟩
        have g16 : (qo != 16) = true := by simpa using k16
        by_cases k17 : qo = 17
        · have fin := hide ((unhide fy) k17)
          have g17 : (qo != 17) = false := by simp [k17]
          clear k16 k17 fz fy fx
          go_wp2_with fail
          go_ret
          exact ⟨ret_int (unhide fin).symm, B4⟩
        have g17 : (qo != 17) = true := by simpa using k17
        have fin := hide ((unhide fx) k16 k17)
        clear k16 k17 fz fy fx
        go_wp2_with fail
        go_ret
        exact ⟨ret_int (unhide fin).symm, B4⟩

set_option maxRecDepth 100000 in
set_option maxHeartbeats 4000000 in
theorem nodeFault_name (b : Nat) (l : List Nd) (i : Nat) (n : Nd) (w : World) (hrow : Nd.Row w b 0 l) (hb : b < w.heap.size) (hi : i < l.length) (h200 : l.length ≤ 200) (hn : n = l.getD i Nd.zero) (hop : ¬ (n.op < 1 ∨ 24 < n.op)) (hsz : n.text.size ≤ 1048576) (hV : fitsV n.op = .func (.func 123) #[] #[]) (hT : Tr.texts n.op = true) (hF : Tr.fits n.op n.text = J.isName n.text) :
    Calls Try.prog 69 #[.slice (some ⟨b, 0, none⟩) l.length l.length, .int .i64 i] w fun e w' => e = .returned (.int .i64 (Tr.nodeF l i)) ∧ Below w.heap.size w w' := by
  have hiI : (i : Int) < (l.length : Int) := by omega
  obtain ⟨f0, f1, f2, f3, f4, f5⟩ := hrow i hi
  rw [← hn] at f0 f1 f2 f3 f4 f5
  simp only [Nat.zero_add] at f0 f1 f2 f3 f4 f5
  have HR := hide hrow
  have HN := hide hn
  have HI := hide hi
  have HOP := hide hop
  clear hrow hn hi
  have d1 : decide (n.op < 1) = false := decide_eq_false (by omega)
  have d2 : decide (n.op > 24) = false := decide_eq_false (by omega)
  have u1 : ∀ W, (binOp BinOp.eql 136 (.func (.func 123) #[] #[]) .nilFunc).run Try.prog W = .ok (.bool false) W := fun _ => by kernel_rfl
  have u2 : ∀ W, (binOp BinOp.neq 136 (.func (.func 123) #[] #[]) .nilFunc).run Try.prog W = .ok (.bool true) W := fun _ => by kernel_rfl
  have HS := hide (fun wq => shapeOf_any n.op wq (by omega) (by omega))
  have HL := hide (fun wq => linksFit_any n i (Tr.kids n.op) (Tr.kids_le _) (Tr.low n.op) (Tr.high n.op) (.func (.func 123) #[] #[]) rfl wq)
  obtain ⟨w1, hw1⟩ : ∃ w1, w1 = w.alloc (.cells #[.int .i64 n.op, .int .i64 n.a, .int .i64 n.b, .int .i64 n.c, .int .i64 n.num, .string n.text] 71) := ⟨_, rfl⟩
  have B1 : Below w.heap.size w w1 := by rw [hw1]; exact (Below.refl _ _).alloc (Nat.le_refl _) _
  have N1 : Own w1 w.heap.size 71 [.int .i64 n.op, .int .i64 n.a, .int .i64 n.b, .int .i64 n.c, .int .i64 n.num, .string n.text] := by rw [hw1]; exact ⟨_, heap_alloc_new _ _, rfl⟩
  clear hop
  go_enter Try.func69, Try.ntmps69
  go_wp2_with fail
  refine ((unhide HS) _).mono ?_
  rintro e w2 ⟨rfl, hb2⟩
  rw [← hw1] at hb2
  clear hw1 HS
  have N2 := N1.below hb2 N1.lt
  have B2 : Below w.heap.size w w2 := B1.trans (hb2.mono B1.size)
  have hne : w2.heap.size ≠ w.heap.size := by have := N2.lt; omega
  have hne2 : w.heap.size ≠ w2.heap.size := by have := N2.lt; omega
  unfold shapeV
  rw [hV]
  have c0 := N2.cell 0
  have c1 := N2.cell 1
  have c2 := N2.cell 2
  have c3 := N2.cell 3
  have c4 := N2.cell 4
  have c5 := N2.cell 5
  simp only [List.getElem?_cons_zero, List.getElem?_cons_succ] at c0 c1 c2 c3 c4 c5
  clear f0 f1 f2 f3 f4 f5 hb2 N1
  obtain ⟨w3, hw3⟩ : ∃ w3, w3 = w2.alloc (.cells #[.int .i64 (Tr.kids n.op), .int .i64 (Tr.low n.op), .int .i64 (Tr.high n.op), .func (.func 123) #[] #[]] 138) := ⟨_, rfl⟩
  have B3 : Below w.heap.size w w3 := by rw [hw3]; exact B2.alloc (by have := N2.lt; omega) _
  have N3 : Own w3 w.heap.size 71 [.int .i64 n.op, .int .i64 n.a, .int .i64 n.b, .int .i64 n.c, .int .i64 n.num, .string n.text] := by rw [hw3]; exact N2.below ((Below.refl _ _).alloc (Nat.le_refl _) _) N2.lt
  have S3 : Own w3 w2.heap.size 138 [.int .i64 (Tr.kids n.op), .int .i64 (Tr.low n.op), .int .i64 (Tr.high n.op), .func (.func 123) #[] #[]] := by rw [hw3]; exact ⟨_, heap_alloc_new _ _, rfl⟩
  clear c0 c1 c2 c3 c4 c5
  have c0 := N3.cell 0
  have c1 := N3.cell 1
  have c2 := N3.cell 2
  have c3 := N3.cell 3
  have c4 := N3.cell 4
  have c5 := N3.cell 5
  simp only [List.getElem?_cons_zero, List.getElem?_cons_succ] at c0 c1 c2 c3 c4 c5
  rw [hw3] at c0 c1 c2 c3 c4 c5
  clear N2 B1 B2
  go_wp2_with fail
  refine ((unhide HL) _).mono ?_
  rintro e w5 ⟨rfl, hb5⟩
  rw [← hw3] at hb5
  have B5 : Below w.heap.size w w5 := B3.trans (hb5.mono B3.size)
  have N5 := N3.below hb5 N3.lt
  have S5 := S3.below hb5 S3.lt
  have R5 := (unhide HR).below B5 hb
  have HR5 := hide R5
  clear R5 hw3 HL c0 c1 c2 c3 c4 c5 N3 S3 B3 hb5 HR
  have c0 := N5.cell 0
  have c1 := N5.cell 1
  have c2 := N5.cell 2
  have c3 := N5.cell 3
  have c4 := N5.cell 4
  have c5 := N5.cell 5
  have s0 := S5.cell 0
  have s1 := S5.cell 1
  have s2 := S5.cell 2
  have s3 := S5.cell 3
  simp only [List.getElem?_cons_zero, List.getElem?_cons_succ] at c0 c1 c2 c3 c4 c5 s0 s1 s2 s3
  cases hB : Tr.linksOk (Tr.kids n.op) n.a n.b n.c i with
  | false =>
    have fin := hide (Tr.node_1 (unhide HN) (unhide HOP) (.inr hB))
    go_wp2_with fail
    go_ret
    exact ⟨ret_int (unhide fin).symm, B5⟩
  | true =>
  have HB := hide hB
  clear hB
  by_cases hz : Tr.high n.op = 0 ∧ n.num ≠ 0
  · have fin := hide (Tr.node_1 (unhide HN) (unhide HOP) (.inl (Tr.form_num hz.1 hz.2)))
    have g1 : (Tr.high n.op == 0) = true := by simp [hz.1]
    have g2 : (n.num != 0) = true := by simpa using hz.2
    clear hz
    go_wp2_with fail
    go_ret
    exact ⟨ret_int (unhide fin).symm, B5⟩
  have hz2 : Tr.high n.op ≠ 0 ∨ n.num = 0 := by omega
  have hcond : (Tr.high n.op == 0) = false ∨ ((Tr.high n.op == 0) = true ∧ (n.num != 0) = false) := by
    by_cases q : Tr.high n.op = 0
    · right; exact ⟨by simp [q], by simp; omega⟩
    · left; simpa using q
  clear hz
  have HZ := hide hz2
  clear hz2
  have HF := hide hF
  clear hF
  rcases hcond with g1 | ⟨g1, g2⟩
  · go_wp2_with fail
    refine (implIsName_any n.text _ hsz).mono ?_
    rintro e w4 ⟨rfl, hb4⟩
    have B4 : Below w.heap.size w w4 := B5.trans (hb4.mono B5.size)
    have N4 := N5.below hb4 N5.lt
    have S4 := S5.below hb4 S5.lt
    clear c0 c1 c2 c3 c4 c5 s0 s1 s2 s3
    have c0 := N4.cell 0
    have c1 := N4.cell 1
    have c2 := N4.cell 2
    have c3 := N4.cell 3
    have c4 := N4.cell 4
    have c5 := N4.cell 5
    have s0 := S4.cell 0
    have s1 := S4.cell 1
    have s2 := S4.cell 2
    have s3 := S4.cell 3
    simp only [List.getElem?_cons_zero, List.getElem?_cons_succ] at c0 c1 c2 c3 c4 c5 s0 s1 s2 s3
    cases hf : J.isName n.text with
    | false =>
      have fin := hide (Tr.node_5 (unhide HN) (unhide HOP) (Tr.form_ok (unhide HZ) (.inl hT)) (unhide HB) ((unhide HF).trans hf))
      go_wp2_with fail
      go_ret
      exact ⟨ret_int (unhide fin).symm, B4⟩
    | true =>
      replace HF : Hid (Tr.fits n.op n.text = true) := (unhide HF).trans hf
      clear hf
      have fm := hide (Tr.form_ok (unhide HZ) (.inl hT))
      by_cases r1 : n.num < Tr.low n.op
      · have fin := hide (Tr.node_3 (unhide HN) (unhide HOP) (unhide fm) (unhide HB) (unhide HF) (.inl r1))
        have g8 : decide (n.num < Tr.low n.op) = true := decide_eq_true r1
        clear r1
        go_wp2_with fail
        go_ret
        exact ⟨ret_int (unhide fin).symm, B4⟩
      by_cases r2 : Tr.high n.op < n.num
      · have fin := hide (Tr.node_3 (unhide HN) (unhide HOP) (unhide fm) (unhide HB) (unhide HF) (.inr r2))
        have g8 : decide (n.num < Tr.low n.op) = false := decide_eq_false r1
        have g9 : decide (n.num > Tr.high n.op) = true := decide_eq_true r2
        clear r1 r2
        go_wp2_with fail
        go_ret
        exact ⟨ret_int (unhide fin).symm, B4⟩
      have g8 : decide (n.num < Tr.low n.op) = false := decide_eq_false r1
      have g9 : decide (n.num > Tr.high n.op) = false := decide_eq_false r2
      have hr := hide (show ¬ (n.num < Tr.low n.op ∨ Tr.high n.op < n.num) by omega)
      clear r1 r2
      by_cases h17 : n.op = 17
      case neg =>
        have fin := hide (Tr.node_0 (unhide HN) (unhide HOP) (unhide fm) (unhide HB) (unhide HF) (unhide hr) (.inl h17))
        have g7 : (n.op == 17) = false := by simpa using h17
        clear h17
        go_wp2_with fail
        go_ret
        exact ⟨ret_int (unhide fin).symm, B4⟩
      case pos =>
        exfalso
        rw [h17] at hV
        exact absurd hV (by unfold fitsV; simp)
  · go_wp2_with fail
    refine (implIsName_any n.text _ hsz).mono ?_
    rintro e w4 ⟨rfl, hb4⟩
    have B4 : Below w.heap.size w w4 := B5.trans (hb4.mono B5.size)
    have N4 := N5.below hb4 N5.lt
    have S4 := S5.below hb4 S5.lt
    clear c0 c1 c2 c3 c4 c5 s0 s1 s2 s3
    have c0 := N4.cell 0
    have c1 := N4.cell 1
    have c2 := N4.cell 2
    have c3 := N4.cell 3
    have c4 := N4.cell 4
    have c5 := N4.cell 5
    have s0 := S4.cell 0
    have s1 := S4.cell 1
    have s2 := S4.cell 2
    have s3 := S4.cell 3
    simp only [List.getElem?_cons_zero, List.getElem?_cons_succ] at c0 c1 c2 c3 c4 c5 s0 s1 s2 s3
    cases hf : J.isName n.text with
    | false =>
      have fin := hide (Tr.node_5 (unhide HN) (unhide HOP) (Tr.form_ok (unhide HZ) (.inl hT)) (unhide HB) ((unhide HF).trans hf))
      go_wp2_with fail
      go_ret
      exact ⟨ret_int (unhide fin).symm, B4⟩
    | true =>
      replace HF : Hid (Tr.fits n.op n.text = true) := (unhide HF).trans hf
      clear hf
      have fm := hide (Tr.form_ok (unhide HZ) (.inl hT))
      by_cases r1 : n.num < Tr.low n.op
      · have fin := hide (Tr.node_3 (unhide HN) (unhide HOP) (unhide fm) (unhide HB) (unhide HF) (.inl r1))
        have g8 : decide (n.num < Tr.low n.op) = true := decide_eq_true r1
        clear r1
        go_wp2_with fail
        go_ret
        exact ⟨ret_int (unhide fin).symm, B4⟩
      by_cases r2 : Tr.high n.op < n.num
      · have fin := hide (Tr.node_3 (unhide HN) (unhide HOP) (unhide fm) (unhide HB) (unhide HF) (.inr r2))
        have g8 : decide (n.num < Tr.low n.op) = false := decide_eq_false r1
        have g9 : decide (n.num > Tr.high n.op) = true := decide_eq_true r2
        clear r1 r2
        go_wp2_with fail
        go_ret
        exact ⟨ret_int (unhide fin).symm, B4⟩
      have g8 : decide (n.num < Tr.low n.op) = false := decide_eq_false r1
      have g9 : decide (n.num > Tr.high n.op) = false := decide_eq_false r2
      have hr := hide (show ¬ (n.num < Tr.low n.op ∨ Tr.high n.op < n.num) by omega)
      clear r1 r2
      by_cases h17 : n.op = 17
      case neg =>
        have fin := hide (Tr.node_0 (unhide HN) (unhide HOP) (unhide fm) (unhide HB) (unhide HF) (unhide hr) (.inl h17))
        have g7 : (n.op == 17) = false := by simpa using h17
        clear h17
        go_wp2_with fail
        go_ret
        exact ⟨ret_int (unhide fin).symm, B4⟩
      case pos =>
        exfalso
        rw [h17] at hV
        exact absurd hV (by unfold fitsV; simp)

set_option maxRecDepth 100000 in
set_option maxHeartbeats 4000000 in
theorem nodeFault_free (b : Nat) (l : List Nd) (i : Nat) (n : Nd) (w : World) (hrow : Nd.Row w b 0 l) (hb : b < w.heap.size) (hi : i < l.length) (h200 : l.length ≤ 200) (hn : n = l.getD i Nd.zero) (hop : ¬ (n.op < 1 ∨ 24 < n.op)) (hsz : n.text.size ≤ 1048576) (hV : fitsV n.op = .func (.func 124) #[] #[]) (hT : Tr.texts n.op = true) (hF : Tr.fits n.op n.text = (J.isName n.text && !oneOf theWords n.text)) :
    Calls Try.prog 69 #[.slice (some ⟨b, 0, none⟩) l.length l.length, .int .i64 i] w fun e w' => e = .returned (.int .i64 (Tr.nodeF l i)) ∧ Below w.heap.size w w' := by
  have hiI : (i : Int) < (l.length : Int) := by omega
  obtain ⟨f0, f1, f2, f3, f4, f5⟩ := hrow i hi
  rw [← hn] at f0 f1 f2 f3 f4 f5
  simp only [Nat.zero_add] at f0 f1 f2 f3 f4 f5
  have HR := hide hrow
  have HN := hide hn
  have HI := hide hi
  have HOP := hide hop
  clear hrow hn hi
  have d1 : decide (n.op < 1) = false := decide_eq_false (by omega)
  have d2 : decide (n.op > 24) = false := decide_eq_false (by omega)
  have u1 : ∀ W, (binOp BinOp.eql 136 (.func (.func 124) #[] #[]) .nilFunc).run Try.prog W = .ok (.bool false) W := fun _ => by kernel_rfl
  have u2 : ∀ W, (binOp BinOp.neq 136 (.func (.func 124) #[] #[]) .nilFunc).run Try.prog W = .ok (.bool true) W := fun _ => by kernel_rfl
  have HS := hide (fun wq => shapeOf_any n.op wq (by omega) (by omega))
  have HL := hide (fun wq => linksFit_any n i (Tr.kids n.op) (Tr.kids_le _) (Tr.low n.op) (Tr.high n.op) (.func (.func 124) #[] #[]) rfl wq)
  obtain ⟨w1, hw1⟩ : ∃ w1, w1 = w.alloc (.cells #[.int .i64 n.op, .int .i64 n.a, .int .i64 n.b, .int .i64 n.c, .int .i64 n.num, .string n.text] 71) := ⟨_, rfl⟩
  have B1 : Below w.heap.size w w1 := by rw [hw1]; exact (Below.refl _ _).alloc (Nat.le_refl _) _
  have N1 : Own w1 w.heap.size 71 [.int .i64 n.op, .int .i64 n.a, .int .i64 n.b, .int .i64 n.c, .int .i64 n.num, .string n.text] := by rw [hw1]; exact ⟨_, heap_alloc_new _ _, rfl⟩
  clear hop
  go_enter Try.func69, Try.ntmps69
  go_wp2_with fail
  refine ((unhide HS) _).mono ?_
  rintro e w2 ⟨rfl, hb2⟩
  rw [← hw1] at hb2
  clear hw1 HS
  have N2 := N1.below hb2 N1.lt
  have B2 : Below w.heap.size w w2 := B1.trans (hb2.mono B1.size)
  have hne : w2.heap.size ≠ w.heap.size := by have := N2.lt; omega
  have hne2 : w.heap.size ≠ w2.heap.size := by have := N2.lt; omega
  unfold shapeV
  rw [hV]
  have c0 := N2.cell 0
  have c1 := N2.cell 1
  have c2 := N2.cell 2
  have c3 := N2.cell 3
  have c4 := N2.cell 4
  have c5 := N2.cell 5
  simp only [List.getElem?_cons_zero, List.getElem?_cons_succ] at c0 c1 c2 c3 c4 c5
  clear f0 f1 f2 f3 f4 f5 hb2 N1
  obtain ⟨w3, hw3⟩ : ∃ w3, w3 = w2.alloc (.cells #[.int .i64 (Tr.kids n.op), .int .i64 (Tr.low n.op), .int .i64 (Tr.high n.op), .func (.func 124) #[] #[]] 138) := ⟨_, rfl⟩
  have B3 : Below w.heap.size w w3 := by rw [hw3]; exact B2.alloc (by have := N2.lt; omega) _
  have N3 : Own w3 w.heap.size 71 [.int .i64 n.op, .int .i64 n.a, .int .i64 n.b, .int .i64 n.c, .int .i64 n.num, .string n.text] := by rw [hw3]; exact N2.below ((Below.refl _ _).alloc (Nat.le_refl _) _) N2.lt
  have S3 : Own w3 w2.heap.size 138 [.int .i64 (Tr.kids n.op), .int .i64 (Tr.low n.op), .int .i64 (Tr.high n.op), .func (.func 124) #[] #[]] := by rw [hw3]; exact ⟨_, heap_alloc_new _ _, rfl⟩
  clear c0 c1 c2 c3 c4 c5
  have c0 := N3.cell 0
  have c1 := N3.cell 1
  have c2 := N3.cell 2
  have c3 := N3.cell 3
  have c4 := N3.cell 4
  have c5 := N3.cell 5
  simp only [List.getElem?_cons_zero, List.getElem?_cons_succ] at c0 c1 c2 c3 c4 c5
  rw [hw3] at c0 c1 c2 c3 c4 c5
  clear N2 B1 B2
  go_wp2_with fail
  refine ((unhide HL) _).mono ?_
  rintro e w5 ⟨rfl, hb5⟩
  rw [← hw3] at hb5
  have B5 : Below w.heap.size w w5 := B3.trans (hb5.mono B3.size)
  have N5 := N3.below hb5 N3.lt
  have S5 := S3.below hb5 S3.lt
  have R5 := (unhide HR).below B5 hb
  have HR5 := hide R5
  clear R5 hw3 HL c0 c1 c2 c3 c4 c5 N3 S3 B3 hb5 HR
  have c0 := N5.cell 0
  have c1 := N5.cell 1
  have c2 := N5.cell 2
  have c3 := N5.cell 3
  have c4 := N5.cell 4
  have c5 := N5.cell 5
  have s0 := S5.cell 0
  have s1 := S5.cell 1
  have s2 := S5.cell 2
  have s3 := S5.cell 3
  simp only [List.getElem?_cons_zero, List.getElem?_cons_succ] at c0 c1 c2 c3 c4 c5 s0 s1 s2 s3
  cases hB : Tr.linksOk (Tr.kids n.op) n.a n.b n.c i with
  | false =>
    have fin := hide (Tr.node_1 (unhide HN) (unhide HOP) (.inr hB))
    go_wp2_with fail
    go_ret
    exact ⟨ret_int (unhide fin).symm, B5⟩
  | true =>
  have HB := hide hB
  clear hB
  by_cases hz : Tr.high n.op = 0 ∧ n.num ≠ 0
  · have fin := hide (Tr.node_1 (unhide HN) (unhide HOP) (.inl (Tr.form_num hz.1 hz.2)))
    have g1 : (Tr.high n.op == 0) = true := by simp [hz.1]
    have g2 : (n.num != 0) = true := by simpa using hz.2
    clear hz
    go_wp2_with fail
    go_ret
    exact ⟨ret_int (unhide fin).symm, B5⟩
  have hz2 : Tr.high n.op ≠ 0 ∨ n.num = 0 := by omega
  have hcond : (Tr.high n.op == 0) = false ∨ ((Tr.high n.op == 0) = true ∧ (n.num != 0) = false) := by
    by_cases q : Tr.high n.op = 0
    · right; exact ⟨by simp [q], by simp; omega⟩
    · left; simpa using q
  clear hz
  have HZ := hide hz2
  clear hz2
  have HF := hide hF
  clear hF
  rcases hcond with g1 | ⟨g1, g2⟩
  · go_wp2_with fail
    refine (isFreeName_any n.text _ hsz).mono ?_
    rintro e w4 ⟨rfl, hb4⟩
    have B4 : Below w.heap.size w w4 := B5.trans (hb4.mono B5.size)
    have N4 := N5.below hb4 N5.lt
    have S4 := S5.below hb4 S5.lt
    clear c0 c1 c2 c3 c4 c5 s0 s1 s2 s3
    have c0 := N4.cell 0
    have c1 := N4.cell 1
    have c2 := N4.cell 2
    have c3 := N4.cell 3
    have c4 := N4.cell 4
    have c5 := N4.cell 5
    have s0 := S4.cell 0
    have s1 := S4.cell 1
    have s2 := S4.cell 2
    have s3 := S4.cell 3
    simp only [List.getElem?_cons_zero, List.getElem?_cons_succ] at c0 c1 c2 c3 c4 c5 s0 s1 s2 s3
    cases hf : (J.isName n.text && !oneOf theWords n.text) with
    | false =>
      have fin := hide (Tr.node_5 (unhide HN) (unhide HOP) (Tr.form_ok (unhide HZ) (.inl hT)) (unhide HB) ((unhide HF).trans hf))
      go_wp2_with fail
      go_ret
      exact ⟨ret_int (unhide fin).symm, B4⟩
    | true =>
      replace HF : Hid (Tr.fits n.op n.text = true) := (unhide HF).trans hf
      clear hf
      have fm := hide (Tr.form_ok (unhide HZ) (.inl hT))
      by_cases r1 : n.num < Tr.low n.op
      · have fin := hide (Tr.node_3 (unhide HN) (unhide HOP) (unhide fm) (unhide HB) (unhide HF) (.inl r1))
        have g8 : decide (n.num < Tr.low n.op) = true := decide_eq_true r1
        clear r1
        go_wp2_with fail
        go_ret
        exact ⟨ret_int (unhide fin).symm, B4⟩
      by_cases r2 : Tr.high n.op < n.num
      · have fin := hide (Tr.node_3 (unhide HN) (unhide HOP) (unhide fm) (unhide HB) (unhide HF) (.inr r2))
        have g8 : decide (n.num < Tr.low n.op) = false := decide_eq_false r1
        have g9 : decide (n.num > Tr.high n.op) = true := decide_eq_true r2
        clear r1 r2
        go_wp2_with fail
        go_ret
        exact ⟨ret_int (unhide fin).symm, B4⟩
      have g8 : decide (n.num < Tr.low n.op) = false := decide_eq_false r1
      have g9 : decide (n.num > Tr.high n.op) = false := decide_eq_false r2
      have hr := hide (show ¬ (n.num < Tr.low n.op ∨ Tr.high n.op < n.num) by omega)
      clear r1 r2
      by_cases h17 : n.op = 17
      case neg =>
        have fin := hide (Tr.node_0 (unhide HN) (unhide HOP) (unhide fm) (unhide HB) (unhide HF) (unhide hr) (.inl h17))
        have g7 : (n.op == 17) = false := by simpa using h17
        clear h17
        go_wp2_with fail
        go_ret
        exact ⟨ret_int (unhide fin).symm, B4⟩
      case pos =>
        exfalso
        rw [h17] at hV
        exact absurd hV (by unfold fitsV; simp)
  · go_wp2_with fail
    refine (isFreeName_any n.text _ hsz).mono ?_
    rintro e w4 ⟨rfl, hb4⟩
    have B4 : Below w.heap.size w w4 := B5.trans (hb4.mono B5.size)
    have N4 := N5.below hb4 N5.lt
    have S4 := S5.below hb4 S5.lt
    clear c0 c1 c2 c3 c4 c5 s0 s1 s2 s3
    have c0 := N4.cell 0
    have c1 := N4.cell 1
    have c2 := N4.cell 2
    have c3 := N4.cell 3
    have c4 := N4.cell 4
    have c5 := N4.cell 5
    have s0 := S4.cell 0
    have s1 := S4.cell 1
    have s2 := S4.cell 2
    have s3 := S4.cell 3
    simp only [List.getElem?_cons_zero, List.getElem?_cons_succ] at c0 c1 c2 c3 c4 c5 s0 s1 s2 s3
    cases hf : (J.isName n.text && !oneOf theWords n.text) with
    | false =>
      have fin := hide (Tr.node_5 (unhide HN) (unhide HOP) (Tr.form_ok (unhide HZ) (.inl hT)) (unhide HB) ((unhide HF).trans hf))
      go_wp2_with fail
      go_ret
      exact ⟨ret_int (unhide fin).symm, B4⟩
    | true =>
      replace HF : Hid (Tr.fits n.op n.text = true) := (unhide HF).trans hf
      clear hf
      have fm := hide (Tr.form_ok (unhide HZ) (.inl hT))
      by_cases r1 : n.num < Tr.low n.op
      · have fin := hide (Tr.node_3 (unhide HN) (unhide HOP) (unhide fm) (unhide HB) (unhide HF) (.inl r1))
        have g8 : decide (n.num < Tr.low n.op) = true := decide_eq_true r1
        clear r1
        go_wp2_with fail
        go_ret
        exact ⟨ret_int (unhide fin).symm, B4⟩
      by_cases r2 : Tr.high n.op < n.num
      · have fin := hide (Tr.node_3 (unhide HN) (unhide HOP) (unhide fm) (unhide HB) (unhide HF) (.inr r2))
        have g8 : decide (n.num < Tr.low n.op) = false := decide_eq_false r1
        have g9 : decide (n.num > Tr.high n.op) = true := decide_eq_true r2
        clear r1 r2
        go_wp2_with fail
        go_ret
        exact ⟨ret_int (unhide fin).symm, B4⟩
      have g8 : decide (n.num < Tr.low n.op) = false := decide_eq_false r1
      have g9 : decide (n.num > Tr.high n.op) = false := decide_eq_false r2
      have hr := hide (show ¬ (n.num < Tr.low n.op ∨ Tr.high n.op < n.num) by omega)
      clear r1 r2
      by_cases h17 : n.op = 17
      case neg =>
        have fin := hide (Tr.node_0 (unhide HN) (unhide HOP) (unhide fm) (unhide HB) (unhide HF) (unhide hr) (.inl h17))
        have g7 : (n.op == 17) = false := by simpa using h17
        clear h17
        go_wp2_with fail
        go_ret
        exact ⟨ret_int (unhide fin).symm, B4⟩
      case pos =>
        exfalso
        rw [h17] at hV
        exact absurd hV (by unfold fitsV; simp)

theorem fitsV_kind (op : Int) (s : ByteArray) (h : ¬ (op < 1 ∨ 24 < op)) : (fitsV op = .nilFunc ∧ Tr.texts op = false ∧ Tr.fits op s = true) ∨ (fitsV op = .func (.func 121) #[] #[] ∧ Tr.texts op = true ∧ Tr.fits op s = M.textOk s) ∨ (fitsV op = .func (.func 123) #[] #[] ∧ Tr.texts op = true ∧ Tr.fits op s = J.isName s) ∨ (fitsV op = .func (.func 124) #[] #[] ∧ Tr.texts op = true ∧ Tr.fits op s = (J.isName s && !oneOf theWords s)) := by
  by_cases h1 : op = 3 ∨ op = 17
  · right; left; unfold fitsV Tr.fits; rw [if_pos h1, if_pos h1]; refine ⟨rfl, ?_, rfl⟩; rcases h1 with rfl | rfl <;> decide
  by_cases h2 : op = 19 ∨ op = 20 ∨ op = 21
  · right; right; left; unfold fitsV Tr.fits; rw [if_neg h1, if_neg h1, if_pos h2, if_pos h2]; refine ⟨rfl, ?_, rfl⟩; rcases h2 with rfl | rfl | rfl <;> decide
  by_cases h3 : op = 22 ∨ op = 23
  · right; right; right; unfold fitsV Tr.fits; rw [if_neg h1, if_neg h1, if_neg h2, if_neg h2, if_pos h3, if_pos h3]; refine ⟨rfl, ?_, rfl⟩; rcases h3 with rfl | rfl <;> decide
  · left; unfold fitsV Tr.fits; rw [if_neg h1, if_neg h1, if_neg h2, if_neg h2, if_neg h3, if_neg h3]
    refine ⟨rfl, ?_, rfl⟩
    simp [Tr.texts]; omega

set_option maxHeartbeats 1000000 in
theorem nodeFault_any (b : Nat) (l : List Nd) (i : Nat) (w : World) (hrow : Nd.Row w b 0 l) (hb : b < w.heap.size) (hi : i < l.length) (h200 : l.length ≤ 200) (hsz : (l.getD i Nd.zero).text.size ≤ 1048576) :
    Calls Try.prog 69 #[.slice (some ⟨b, 0, none⟩) l.length l.length, .int .i64 i] w fun e w' => e = .returned (.int .i64 (Tr.nodeF l i)) ∧ Below w.heap.size w w' := by
  by_cases hop : (l.getD i Nd.zero).op < 1 ∨ 24 < (l.getD i Nd.zero).op
  · have fin := hide (Tr.node_6 (l := l) (i := i) rfl hop)
    have hiI : (i : Int) < (l.length : Int) := by omega
    obtain ⟨f0, f1, f2, f3, f4, f5⟩ := hrow i hi
    simp only [Nat.zero_add] at f0 f1 f2 f3 f4 f5
    clear hrow hi hsz
    generalize l.getD i Nd.zero = n at *
    have HB : Hid (∀ o, Below w.heap.size w (w.alloc o)) := fun o => (Below.refl _ _).alloc (Nat.le_refl _) o
    by_cases h1 : n.op < 1
    · have d1 : decide (n.op < 1) = true := decide_eq_true h1
      clear hop h1
      go_enter Try.func69, Try.ntmps69
      go_wp2_with fail
      go_ret
      exact ⟨ret_int (unhide fin).symm, HB.out _⟩
    · have d1 : decide (n.op < 1) = false := decide_eq_false h1
      have d2 : decide (n.op > 24) = true := decide_eq_true (by omega)
      clear hop h1
      go_enter Try.func69, Try.ntmps69
      go_wp2_with fail
      go_ret
      exact ⟨ret_int (unhide fin).symm, HB.out _⟩
  · rcases fitsV_kind (l.getD i Nd.zero).op (l.getD i Nd.zero).text hop with ⟨h1, h2, h3⟩ | ⟨h1, h2, h3⟩ | ⟨h1, h2, h3⟩ | ⟨h1, h2, h3⟩
    · exact nodeFault_nil b l i _ w hrow hb hi h200 rfl hop hsz h1 h2 h3
    · exact nodeFault_text b l i _ w hrow hb hi h200 rfl hop hsz h1 h2 h3
    · exact nodeFault_name b l i _ w hrow hb hi h200 rfl hop hsz h1 h2 h3
    · exact nodeFault_free b l i _ w hrow hb hi h200 rfl hop hsz h1 h2 h3

end Go.Proofs.Ytokcefcjkjhnbaa
