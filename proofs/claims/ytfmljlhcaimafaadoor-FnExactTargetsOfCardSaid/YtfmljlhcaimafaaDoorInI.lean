/-
  impl: the table of what instructions are; the bounds of an Arg; the fault of one instruction.
-/
import Derived.Test.YtfmljlhcaimafaaDoorInL
import Derived.Test.YtfmljlhcaimafaaDoorFaultI
import Derived.Test.YtfmljlhcaimafaaDoorKids
namespace Go.Proofs.YtfmljlhcaimafaaDoor
open Go.RowKit
set_option linter.unusedVariables false
set_option linter.unusedSimpArgs false


/-- The words of the instructions. -/
def Ic.words : List ByteArray := [⟨#[]⟩, ⟨#[100, 117, 112]⟩, ⟨#[112, 111, 112]⟩, ⟨#[112, 117, 115, 104]⟩, ⟨#[115, 119, 97, 112]⟩, ⟨#[98, 105, 110]⟩, ⟨#[97, 116]⟩, ⟨#[101, 97, 99, 104]⟩, ⟨#[100, 111]⟩, ⟨#[109, 101, 109, 98, 101, 114]⟩, ⟨#[106, 117, 109, 112]⟩, ⟨#[117, 110, 108, 101, 115, 115]⟩, ⟨#[102, 111, 114, 107]⟩, ⟨#[116, 114, 121]⟩, ⟨#[97, 108, 116]⟩, ⟨#[98, 97, 99, 107]⟩, ⟨#[115, 116, 111, 114, 101]⟩, ⟨#[108, 111, 97, 100]⟩, ⟨#[97, 112, 112, 101, 110, 100]⟩, ⟨#[101, 109, 105, 116]⟩]
def Ic.word (k : Nat) : ByteArray := Ic.words.getD k ByteArray.empty
/-- The program's table of shapes lies as its text lays it. -/
structure Shp (w : World) : Prop where
  lt : 0 < w.heap.size
  cell : ∀ o : Nat, o < 20 → w.cell? ⟨0, o * 6, none⟩ = some (.string (Ic.word o)) ∧ w.cell? ⟨0, o * 6 + 1, none⟩ = some (.int .i64 (Ic.argK (o : Int))) ∧ w.cell? ⟨0, o * 6 + 2, none⟩ = some (.bool (Ic.holds (o : Int))) ∧ w.cell? ⟨0, o * 6 + 3, none⟩ = some (.int .i64 (Ic.takes (o : Int))) ∧ w.cell? ⟨0, o * 6 + 4, none⟩ = some (.int .i64 (Ic.lays (o : Int))) ∧ w.cell? ⟨0, o * 6 + 5, none⟩ = some (.bool (Ic.ends (o : Int)))
theorem Shp.below {w w' : World} (h : Shp w) (hb : Below w.heap.size w w') : Shp w' := by
  refine ⟨Nat.lt_of_lt_of_le h.lt hb.size, fun o ho => ?_⟩
  obtain ⟨h0, h1, h2, h3, h4, h5⟩ := h.cell o ho
  exact ⟨(hb.cell (p := ⟨0, o * 6, none⟩) h.lt).trans h0, (hb.cell (p := ⟨0, o * 6 + 1, none⟩) h.lt).trans h1, (hb.cell (p := ⟨0, o * 6 + 2, none⟩) h.lt).trans h2, (hb.cell (p := ⟨0, o * 6 + 3, none⟩) h.lt).trans h3, (hb.cell (p := ⟨0, o * 6 + 4, none⟩) h.lt).trans h4, (hb.cell (p := ⟨0, o * 6 + 5, none⟩) h.lt).trans h5⟩
theorem Shp.belowB {B : Nat} {w w' : World} (h : Shp w) (hb : Below B w w') (hB : 0 < B) : Shp w' := by
  refine ⟨Nat.lt_of_lt_of_le h.lt hb.size, fun o ho => ?_⟩
  obtain ⟨h0, h1, h2, h3, h4, h5⟩ := h.cell o ho
  exact ⟨(hb.cell (p := ⟨0, o * 6, none⟩) hB).trans h0, (hb.cell (p := ⟨0, o * 6 + 1, none⟩) hB).trans h1, (hb.cell (p := ⟨0, o * 6 + 2, none⟩) hB).trans h2, (hb.cell (p := ⟨0, o * 6 + 3, none⟩) hB).trans h3, (hb.cell (p := ⟨0, o * 6 + 4, none⟩) hB).trans h4, (hb.cell (p := ⟨0, o * 6 + 5, none⟩) hB).trans h5⟩
set_option maxHeartbeats 2000000 in
theorem argBounds_any (k : Int) (i n : Nat) (rg : Int) (w : World) (h0 : 0 ≤ k) (h4 : k ≤ 4) (hi : i ≤ 6000) (hn : n ≤ 6000) :
    Calls Tryd.prog 53 #[.int .i64 k, .int .i64 i, .int .i64 n, .int .i64 rg] w fun e w' => e = .returned (.tuple #[.int .i64 (Ic.low k i), .int .i64 (Ic.top k n rg)]) ∧ w' = w := by
  have wr3 : IntKind.i64.wrap ((i : Int) + 1) = (i : Int) + 1 := IntWalk.i64_in _ ⟨by omega, by omega⟩
  have hc : k = 0 ∨ k = 1 ∨ k = 2 ∨ k = 3 ∨ k = 4 := by omega
  clear h0 h4
  rcases hc with rfl | rfl | rfl | rfl | rfl
  all_goals
    go_enter Tryd.func53, Tryd.ntmps53
    go_wp2_with fail
    go_ret2
    exact ⟨rfl, rfl⟩

set_option maxRecDepth 100000 in
set_option maxHeartbeats 4000000 in
theorem inFault_any (b : Nat) (l : List Ic) (i : Nat) (rg : Int) (n : Ic) (w : World) (hrow : Ic.Row w b l) (hb : b < w.heap.size) (hi : i < l.length) (hn : l.length ≤ 6000) (hr0 : 0 ≤ rg) (hr1 : rg ≤ 1000) (hnd : n = l.getD i Ic.zero) (hlen : n.val.length ≤ 1048576) (hok : ∀ x ∈ n.val, x.ok) (hS : Shp w) :
    Calls Tryd.prog 31 #[.slice (some ⟨b, 0, none⟩) l.length l.length, .int .i64 i, .int .i64 rg] w fun e w' => e = .returned (.int .i64 (Ic.oneF n i l.length rg)) ∧ Below w.heap.size w w' := by
  obtain ⟨f0, f1, g, f2, hg, hr⟩ := hrow i hi
  rw [← hnd] at f0 f1 f2 hr
  clear hnd
  obtain ⟨op, arg, val⟩ := n
  simp only at f0 f1 f2 hr hlen hok
  have OK := hide hok
  have HR := hide hr
  have hiI : (i : Int) < (l.length : Int) := by omega
  obtain ⟨w1, hw1⟩ : ∃ w1, w1 = w.alloc (.cells #[.int .i64 op, .int .i64 arg, .slice (some ⟨g, 0, none⟩) val.length val.length] 54) := ⟨_, rfl⟩
  have B1 : Below w.heap.size w w1 := by rw [hw1]; exact (Below.refl _ _).alloc (Nat.le_refl _) _
  have N1 : Own w1 w.heap.size 54 [.int .i64 op, .int .i64 arg, .slice (some ⟨g, 0, none⟩) val.length val.length] := by rw [hw1]; exact ⟨_, heap_alloc_new _ _, rfl⟩
  have hs1 : w1.heap.size = w.heap.size + 1 := by rw [hw1]; simp
  have c0 : (w.alloc (.cells #[.int .i64 op, .int .i64 arg, .slice (some ⟨g, 0, none⟩) val.length val.length] 54)).cell? ⟨w.heap.size, 0, none⟩ = some (.int .i64 op) := by rw [← hw1]; exact N1.cell 0
  clear hrow hr hok
  by_cases hop : op < 1 ∨ 19 < op
  · have fin := hide (Ic.one_6 (c := ⟨op, arg, val⟩) i l.length rg hop)
    by_cases h1 : op < 1
    · have d1 : decide (op < 1) = true := decide_eq_true h1
      clear hop h1 hs1
      go_enter Tryd.func31, Tryd.ntmps31
      go_wp2_with fail
      rw [← hw1]
      go_ret
      exact ⟨ret_int (unhide fin).symm, B1⟩
    · have d1 : decide (op < 1) = false := decide_eq_false h1
      have d2 : decide (op > 19) = true := decide_eq_true (by omega)
      clear hop h1 hs1
      go_enter Tryd.func31, Tryd.ntmps31
      go_wp2_with fail
      rw [← hw1]
      go_ret
      exact ⟨ret_int (unhide fin).symm, B1⟩
  have d1 : decide (op < 1) = false := decide_eq_false (by omega)
  have d2 : decide (op > 19) = false := decide_eq_false (by omega)
  have HOP := hide hop
  obtain ⟨o, hO⟩ : ∃ o : Nat, op = (o : Int) := ⟨op.toNat, by omega⟩
  subst hO
  have ho20 : o < 20 := by omega
  have ho20I : (o : Int) < 20 := by omega
  obtain ⟨s0, s1, s2, s3, s4, s5⟩ := (hS.below B1).cell o ho20
  rw [hw1] at s0 s1 s2 s3 s4 s5
  obtain ⟨w2, hw2⟩ : ∃ w2, w2 = w1.alloc (.cells #[.string (Ic.word o), .int .i64 (Ic.argK (o : Int)), .bool (Ic.holds (o : Int)), .int .i64 (Ic.takes (o : Int)), .int .i64 (Ic.lays (o : Int)), .bool (Ic.ends (o : Int))] 70) := ⟨_, rfl⟩
  have B2 : Below w.heap.size w w2 := by rw [hw2]; exact B1.alloc B1.size _
  have N2 : Own w2 w.heap.size 54 [.int .i64 (o : Int), .int .i64 arg, .slice (some ⟨g, 0, none⟩) val.length val.length] := by rw [hw2]; exact N1.alloc _
  have S2 : Own w2 (w.heap.size + 1) 70 [.string (Ic.word o), .int .i64 (Ic.argK (o : Int)), .bool (Ic.holds (o : Int)), .int .i64 (Ic.takes (o : Int)), .int .i64 (Ic.lays (o : Int)), .bool (Ic.ends (o : Int))] := by rw [← hs1, hw2]; exact ⟨_, heap_alloc_new _ _, rfl⟩
  have F1 := hide (fun (h1 : (Ic.argK (o : Int) = 0 ∧ arg ≠ 0) ∨ (Ic.holds (o : Int) = false ∧ 0 < val.length)) => Ic.one_1 (c := ⟨(o : Int), arg, val⟩) i l.length rg (unhide HOP) h1)
  have FV := hide (fun (h1 : ¬ ((Ic.argK (o : Int) = 0 ∧ arg ≠ 0) ∨ (Ic.holds (o : Int) = false ∧ 0 < val.length))) (h2 : Ic.holds (o : Int) = true) (h3 : Ic.valF ⟨(o : Int), arg, val⟩ ≠ 0) => Ic.one_v (c := ⟨(o : Int), arg, val⟩) i l.length rg (unhide HOP) h1 h2 h3)
  have F3 := hide (fun (h1 : ¬ ((Ic.argK (o : Int) = 0 ∧ arg ≠ 0) ∨ (Ic.holds (o : Int) = false ∧ 0 < val.length))) (h2 : ¬ (Ic.holds (o : Int) = true ∧ Ic.valF ⟨(o : Int), arg, val⟩ ≠ 0)) (h3 : arg < Ic.low (Ic.argK (o : Int)) i ∨ Ic.top (Ic.argK (o : Int)) l.length rg ≤ arg) => Ic.one_3 (c := ⟨(o : Int), arg, val⟩) i l.length rg (unhide HOP) h1 h2 h3)
  have F0 := hide (fun (h1 : ¬ ((Ic.argK (o : Int) = 0 ∧ arg ≠ 0) ∨ (Ic.holds (o : Int) = false ∧ 0 < val.length))) (h2 : ¬ (Ic.holds (o : Int) = true ∧ Ic.valF ⟨(o : Int), arg, val⟩ ≠ 0)) (h3 : ¬ (arg < Ic.low (Ic.argK (o : Int)) i ∨ Ic.top (Ic.argK (o : Int)) l.length rg ≤ arg)) => Ic.one_0 (c := ⟨(o : Int), arg, val⟩) i l.length rg (unhide HOP) h1 h2 h3)
  have NK := hide (fun (h : M.valueFault val = 0) (h2 : (o : Int) = 9) (h3 : (val.getD 0 M.zero).kind ≠ 4) => Ic.val_kind (c := ⟨(o : Int), arg, val⟩) h h2 h3)
  have NO := hide (fun (h : M.valueFault val = 0) (h2 : ¬ ((o : Int) = 9 ∧ (val.getD 0 M.zero).kind ≠ 4)) => Ic.val_ok (c := ⟨(o : Int), arg, val⟩) h h2)
  have NB := hide (fun (h : M.valueFault val ≠ 0) => Ic.val_bad (c := ⟨(o : Int), arg, val⟩) h)
  have hKb := Ic.argK_bd (o : Int)
  have H39 : Ic.holds (o : Int) = true → (o : Int) = 3 ∨ (o : Int) = 9 := by intro h; unfold Ic.holds at h; simpa using h
  have h39 : Ic.holds (o : Int) = true → Ic.argK (o : Int) = 0 := by
    intro h
    rcases H39 h with h2 | h2 <;> rw [h2] <;> rfl
  have HV := hide (implFault_any val g 0 val.length w2 ((unhide HR).below B2 hg) (Nat.lt_of_lt_of_le hg B2.size) hlen (Nat.le_refl _) (unhide OK))
  have HAB := hide (fun wq => argBounds_any (Ic.argK (o : Int)) i l.length rg wq hKb.1 hKb.2 (by omega) hn)
  have hK0 : Ic.argK (o : Int) = 0 → Ic.low (Ic.argK (o : Int)) i = 0 ∧ Ic.top (Ic.argK (o : Int)) l.length rg = 1 := by intro e; rw [e]; exact ⟨rfl, rfl⟩
  obtain ⟨R, hR⟩ : ∃ R, R = Ic.oneF ⟨(o : Int), arg, val⟩ i l.length rg := ⟨_, rfl⟩
  obtain ⟨V, hV⟩ : ∃ V, V = Ic.valF ⟨(o : Int), arg, val⟩ := ⟨_, rfl⟩
  rw [← hR] at F1 F3 F0 ⊢
  rw [← hV] at FV F3 F0 NK NO NB
  rw [← hR] at FV
  clear hR hV
  generalize Ic.low (Ic.argK (o : Int)) i = lo at *
  generalize Ic.top (Ic.argK (o : Int)) l.length rg = tp at *
  generalize Ic.argK (o : Int) = K at *
  generalize Ic.holds (o : Int) = hold at *
  generalize Ic.takes (o : Int) = tk at *
  generalize Ic.lays (o : Int) = ly at *
  generalize Ic.ends (o : Int) = en at *
  generalize Ic.word o = wd at *
  have c0a : w1.cell? ⟨w.heap.size, 0, none⟩ = some (.int .i64 (o : Int)) := N1.cell 0
  have c0b : w2.cell? ⟨w.heap.size, 0, none⟩ = some (.int .i64 (o : Int)) := N2.cell 0
  have c1b : w2.cell? ⟨w.heap.size, 1, none⟩ = some (.int .i64 arg) := N2.cell 1
  have c2b : w2.cell? ⟨w.heap.size, 2, none⟩ = some (.slice (some ⟨g, 0, none⟩) val.length val.length) := N2.cell 2
  have t1 : w2.cell? ⟨w.heap.size + 1, 1, none⟩ = some (.int .i64 K) := S2.cell 1
  have t2 : w2.cell? ⟨w.heap.size + 1, 2, none⟩ = some (.bool hold) := S2.cell 2
  clear hop HOP hs1
  have c1w := c1b
  rw [hw2, hw1] at c0b c1b c2b t1 t2
  rw [hw1] at c0a
  by_cases hA : K = 0 ∧ arg ≠ 0
  · have ga : (arg != 0) = true := by simpa using hA.2
    have fin := hide ((unhide F1) (.inl hA))
    have hz := hA.1
    clear hA hK0 h39 H39
    subst hz
    go_enter Tryd.func31, Tryd.ntmps31
    go_wp2_with fail
    rw [← hw1, ← hw2]
    clear hw1 hw2
    go_ret
    exact ⟨ret_int (unhide fin).symm, B2⟩
  have hAb : (K = 0 ∧ (arg != 0) = false) ∨ (K == 0) = false := by
    by_cases h : K = 0
    · refine .inl ⟨h, ?_⟩
      by_cases h2 : arg = 0
      · simp [h2]
      · exact absurd ⟨h, h2⟩ hA
    · exact .inr (by simp [h])
  cases hold with
  | true =>
    have hz := h39 rfl
    have ha : arg = 0 := by
      by_cases h2 : arg = 0
      · exact h2
      · exact absurd ⟨hz, h2⟩ hA
    have h3 := H39 rfl
    obtain ⟨l0, l1⟩ := hK0 hz
    have ga : (arg != 0) = false := by simp [ha]
    have x1 : decide (arg < lo) = false := decide_eq_false (by omega)
    have x2 : decide (tp ≤ arg) = false := decide_eq_false (by omega)
    have HA := hide ha
    have H3 := hide h3
    have HZ := hide (show lo = 0 ∧ tp = 1 from ⟨l0, l1⟩)
    clear hAb ha h3 l0 l1 hA hK0 h39 H39
    subst hz
    by_cases hv : M.valueFault val = 0
    · have hl1 := (M.fault_zero hv).1
      have hlI : (0 : Int) < (val.length : Int) := by omega
      rw [hv] at HV
      have HRR := hide (fun w3 (hb3 : Below w2.heap.size w2 w3) => (((unhide HR).below B2 hg).below hb3 (Nat.lt_of_lt_of_le hg B2.size)) 0 (by omega))
      have HVV := hide hv
      go_enter Tryd.func31, Tryd.ntmps31
      go_wp2_with fail
      rw [← hw1, ← hw2]
      clear hw1 hw2
      refine (unhide HV).mono ?_
      rintro e w3 ⟨rfl, hb3⟩
      have N3 := N2.below hb3 N2.lt
      have S3 := S2.below hb3 S2.lt
      have B3 : Below w.heap.size w w3 := B2.trans (hb3.mono B2.size)
      have e0 : w3.cell? ⟨w.heap.size, 0, none⟩ = some (.int .i64 (o : Int)) := N3.cell 0
      have e1 : w3.cell? ⟨w.heap.size, 1, none⟩ = some (.int .i64 arg) := N3.cell 1
      have e2 : w3.cell? ⟨w.heap.size, 2, none⟩ = some (.slice (some ⟨g, 0, none⟩) val.length val.length) := N3.cell 2
      have e3 : w3.cell? ⟨w.heap.size + 1, 1, none⟩ = some (.int .i64 0) := S3.cell 1
      obtain ⟨k0, _⟩ := (unhide HRR) w3 hb3
      simp only [Nat.zero_mul, Nat.add_zero] at k0
      have hzz := unhide HZ
      have haa := unhide HA
      rcases unhide H3 with h3 | h3
      · have g9 : ((o : Int) == 9) = false := by simp [h3]
        have fin := hide ((unhide F0) (by rintro (⟨h1, h2⟩ | ⟨h1, h2⟩) <;> first | exact h2 (unhide HA) | cases h1) (fun h => h.2 ((unhide NO) (unhide HVV) (fun e => by omega))) (by omega))
        clear hb3 h3 hzz haa
        go_wp2_with fail
        refine ((unhide HAB) _).mono ?_
        rintro e w4 ⟨rfl, hw4⟩
        rw [hw4]
        clear hw4
        go_wp2_with fail
        go_ret
        exact ⟨ret_int (unhide fin).symm, B3⟩
      · have g9 : ((o : Int) == 9) = true := by simp [h3]
        by_cases h4 : (val.getD 0 M.zero).kind = 4
        · have fin := hide ((unhide F0) (by rintro (⟨h1, h2⟩ | ⟨h1, h2⟩) <;> first | exact h2 (unhide HA) | cases h1) (fun h => h.2 ((unhide NO) (unhide HVV) (fun e => e.2 h4))) (by omega))
          rw [h4] at k0
          clear hb3 h4 h3 hzz haa
          go_wp2_with fail
          refine ((unhide HAB) _).mono ?_
          rintro e w4 ⟨rfl, hw4⟩
          rw [hw4]
          clear hw4
          go_wp2_with fail
          go_ret
          exact ⟨ret_int (unhide fin).symm, B3⟩
        · have hnk := (unhide NK) (unhide HVV) h3 h4
          have fin := hide (((unhide FV) (by rintro (⟨h1, h2⟩ | ⟨h1, h2⟩) <;> first | exact h2 (unhide HA) | cases h1) (by first | rfl | trivial) (by rw [hnk]; decide)).trans hnk)
          have g4 : ((val.getD 0 M.zero).kind != 4) = true := by simpa using h4
          generalize (val.getD 0 M.zero).kind = kk at *
          clear hb3 h4 h3 hzz haa
          go_wp2_with fail
          go_ret
          exact ⟨ret_int (unhide fin).symm, B3⟩
    · have hvb := (unhide NB) hv
      have fin := hide (((unhide FV) (by rintro (⟨h1, h2⟩ | ⟨h1, h2⟩) <;> first | exact h2 (unhide HA) | cases h1) (by first | rfl | trivial) (by rw [hvb]; exact hv)).trans hvb)
      generalize M.valueFault val = q at *
      have g5 : (q != 0) = true := by simpa using hv
      clear hvb
      go_enter Tryd.func31, Tryd.ntmps31
      go_wp2_with fail
      rw [← hw1, ← hw2]
      clear hw1 hw2
      refine (unhide HV).mono ?_
      rintro e w3 ⟨rfl, hb3⟩
      have B3 : Below w.heap.size w w3 := B2.trans (hb3.mono B2.size)
      go_wp2_with fail
      go_ret
      exact ⟨ret_int (unhide fin).symm, B3⟩
  | false =>
    have HAH := hide hA
    clear hK0 h39 H39 hA
    by_cases hl : 0 < val.length
    · have hlI : (0 : Int) < (val.length : Int) := by omega
      have fin := hide ((unhide F1) (.inr ⟨by first | rfl | trivial, hl⟩))
      clear hl
      rcases hAb with ⟨rfl, ga⟩ | gk
      all_goals
        go_enter Tryd.func31, Tryd.ntmps31
        go_wp2_with fail
        rw [← hw1, ← hw2]
        clear hw1 hw2
        go_ret
        exact ⟨ret_int (unhide fin).symm, B2⟩
    · have hlI : ¬ (0 : Int) < (val.length : Int) := by omega
      by_cases x1 : arg < lo
      · have fin := hide ((unhide F3) (by rintro (⟨h1, h2⟩ | ⟨h1, h2⟩) <;> first | exact (unhide HAH) ⟨h1, h2⟩ | omega) (fun h => by cases h.1) (.inl x1))
        rcases hAb with ⟨rfl, ga⟩ | gk
        all_goals
          go_enter Tryd.func31, Tryd.ntmps31
          go_wp2_with fail
          rw [← hw1, ← hw2]
          clear hw1 hw2
          refine ((unhide HAB) _).mono ?_
          rintro e w4 ⟨rfl, hw4⟩
          rw [hw4]
          clear hw4
          go_wp2_with fail
          go_ret
          exact ⟨ret_int (unhide fin).symm, B2⟩
      · have y1 : decide (arg < lo) = false := decide_eq_false x1
        by_cases x2 : tp ≤ arg
        · have fin := hide ((unhide F3) (by rintro (⟨h1, h2⟩ | ⟨h1, h2⟩) <;> first | exact (unhide HAH) ⟨h1, h2⟩ | omega) (fun h => by cases h.1) (.inr x2))
          clear x1
          rcases hAb with ⟨rfl, ga⟩ | gk
          all_goals
            go_enter Tryd.func31, Tryd.ntmps31
            go_wp2_with fail
            rw [← hw1, ← hw2]
            clear hw1 hw2
            refine ((unhide HAB) _).mono ?_
            rintro e w4 ⟨rfl, hw4⟩
            rw [hw4]
            clear hw4
            go_wp2_with fail
            go_ret
            exact ⟨ret_int (unhide fin).symm, B2⟩
        · have fin := hide ((unhide F0) (by rintro (⟨h1, h2⟩ | ⟨h1, h2⟩) <;> first | exact (unhide HAH) ⟨h1, h2⟩ | omega) (fun h => by cases h.1) (by omega))
          have y2 : decide (tp ≤ arg) = false := decide_eq_false x2
          clear x1 x2
          rcases hAb with ⟨rfl, ga⟩ | gk
          all_goals
            go_enter Tryd.func31, Tryd.ntmps31
            go_wp2_with fail
            rw [← hw1, ← hw2]
            clear hw1 hw2
            refine ((unhide HAB) _).mono ?_
            rintro e w4 ⟨rfl, hw4⟩
            rw [hw4]
            clear hw4
            go_wp2_with fail
            go_ret
            exact ⟨ret_int (unhide fin).symm, B2⟩

end Go.Proofs.YtfmljlhcaimafaaDoor
