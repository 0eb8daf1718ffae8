/-
  impl: the table of what instructions are; the bounds of an Arg; the fault of one instruction.
  impl.placesBehind: where an instruction goes on.
  The heights that are laid at places to come, kept in a map.
  impl.layBehind: what an instruction leaves is laid wherever it goes on.
  impl.heightsAhead: the heights up to the first instruction at which they cannot be told.
  What CodeFault answers: the model's, the program's.
-/
import Derived.Test.YtgjbibkppofjfaaDoorInL
import Derived.Test.YtgjbibkppofjfaaDoorFaultI
import Derived.Test.YtgjbibkppofjfaaDoorKids
import Derived.Test.YtgjbibkppofjfaaDoorInN
import Derived.Test.YtgjbibkppofjfaaDoorChildT
import Derived.Test.YtgjbibkppofjfaaDoorText
import Derived.Test.YtgjbibkppofjfaaDoorInH
import Derived.Maps.Own
import Derived.Maps.OwnSet
import Derived.Maps.Views
namespace Go.Proofs.YtgjbibkppofjfaaDoor
open Go.RowKit
set_option linter.unusedVariables false
set_option linter.unusedSimpArgs false


/-- The words of the instructions. -/
def Ic.words : List ByteArray := [⟨#[]⟩, ⟨#[100, 117, 112]⟩, ⟨#[112, 111, 112]⟩, ⟨#[112, 117, 115, 104]⟩, ⟨#[115, 119, 97, 112]⟩, ⟨#[98, 105, 110]⟩, ⟨#[97, 116]⟩, ⟨#[101, 97, 99, 104]⟩, ⟨#[100, 111]⟩, ⟨#[109, 101, 109, 98, 101, 114]⟩, ⟨#[106, 117, 109, 112]⟩, ⟨#[117, 110, 108, 101, 115, 115]⟩, ⟨#[102, 111, 114, 107]⟩, ⟨#[116, 114, 121]⟩, ⟨#[97, 108, 116]⟩, ⟨#[98, 97, 99, 107]⟩, ⟨#[115, 116, 111, 114, 101]⟩, ⟨#[108, 111, 97, 100]⟩, ⟨#[97, 112, 112, 101, 110, 100]⟩, ⟨#[101, 109, 105, 116]⟩]
def Ic.word (k : Nat) : ByteArray := Ic.words.getD k ByteArray.empty
/-- The program's table of shapes lies as its text lays it. -/
structure Shp (w : World) : Prop where
  lt : 0 < w.heap.size
  cell : ∀ o : Nat, o < 20 → w.cell? ⟨0, o * 6, none⟩ = some (.string (Ic.word o)) ∧ w.cell? ⟨0, o * 6 + 1, none⟩ = some (.int .i64 (Ic.argK (o : Int))) ∧ w.cell? ⟨0, o * 6 + 2, none⟩ = some (.bool (Ic.holds (o : Int))) ∧ w.cell? ⟨0, o * 6 + 3, none⟩ = some (.int .i64 (Ic.takes (o : Int))) ∧ w.cell? ⟨0, o * 6 + 4, none⟩ = some (.int .i64 (Ic.lays (o : Int))) ∧ w.cell? ⟨0, o * 6 + 5, none⟩ = some (.bool (Ic.ends (o : Int)))
theorem Shp.below {w w' : World} (h : Shp w) (hb : Below w.heap.size w w') : Shp w' := by
  refine ⟨Nat.lt_of_lt_of_le h.lt hb.size, fun o ho => ?_⟩
  obtain ⟨h0, h1, h2, h3, h4, h5⟩ := h.cell o ho
  exact ⟨(hb.cell (p := ⟨0, o * 6, none⟩) h.lt).trans h0, (hb.cell (p := ⟨0, o * 6 + 1, none⟩) h.lt).trans h1, (hb.cell (p := ⟨0, o * 6 + 2, none⟩) h.lt).trans h2, (hb.cell (p := ⟨0, o * 6 + 3, none⟩) h.lt).trans h3, (hb.cell (p := ⟨0, o * 6 + 4, none⟩) h.lt).trans h4, (hb.cell (p := ⟨0, o * 6 + 5, none⟩) h.lt).trans h5⟩
theorem Shp.belowB {B : Nat} {w w' : World} (h : Shp w) (hb : Below B w w') (hB : 0 < B) : Shp w' := by
  refine ⟨Nat.lt_of_lt_of_le h.lt hb.size, fun o ho => ?_⟩
  obtain ⟨h0, h1, h2, h3, h4, h5⟩ := h.cell o ho
  exact ⟨(hb.cell (p := ⟨0, o * 6, none⟩) hB).trans h0, (hb.cell (p := ⟨0, o * 6 + 1, none⟩) hB).trans h1, (hb.cell (p := ⟨0, o * 6 + 2, none⟩) hB).trans h2, (hb.cell (p := ⟨0, o * 6 + 3, none⟩) hB).trans h3, (hb.cell (p := ⟨0, o * 6 + 4, none⟩) hB).trans h4, (hb.cell (p := ⟨0, o * 6 + 5, none⟩) hB).trans h5⟩
set_option maxHeartbeats 2000000 in
theorem argBounds_any (k : Int) (i n : Nat) (rg : Int) (w : World) (h0 : 0 ≤ k) (h4 : k ≤ 4) (hi : i ≤ 6000) (hn : n ≤ 6000) :
    Calls Tryd.prog 48 #[.int .i64 k, .int .i64 i, .int .i64 n, .int .i64 rg] w fun e w' => e = .returned (.tuple #[.int .i64 (Ic.low k i), .int .i64 (Ic.top k n rg)]) ∧ w' = w := by
  have wr3 : IntKind.i64.wrap ((i : Int) + 1) = (i : Int) + 1 := IntWalk.i64_in _ ⟨by omega, by omega⟩
  have hc : k = 0 ∨ k = 1 ∨ k = 2 ∨ k = 3 ∨ k = 4 := by omega
  clear h0 h4
  rcases hc with rfl | rfl | rfl | rfl | rfl
  all_goals
    go_enter Tryd.func48, Tryd.ntmps48
    go_wp2_with fail
    go_ret2
    exact ⟨rfl, rfl⟩

set_option maxRecDepth 100000 in
set_option maxHeartbeats 4000000 in
theorem inFault_any (b : Nat) (l : List Ic) (i : Nat) (rg : Int) (n : Ic) (w : World) (hrow : Ic.Row w b l) (hb : b < w.heap.size) (hi : i < l.length) (hn : l.length ≤ 6000) (hr0 : 0 ≤ rg) (hr1 : rg ≤ 1000) (hnd : n = l.getD i Ic.zero) (hlen : n.val.length ≤ 1048576) (hok : ∀ x ∈ n.val, x.ok) (hS : Shp w) :
    Calls Tryd.prog 31 #[.slice (some ⟨b, 0, none⟩) l.length l.length, .int .i64 i, .int .i64 rg] w fun e w' => e = .returned (.int .i64 (Ic.oneF n i l.length rg)) ∧ Below w.heap.size w w' := by
  obtain ⟨f0, f1, g, f2, hg, hr⟩ := hrow i hi
  rw [← hnd] at f0 f1 f2 hr
  clear hnd
  obtain ⟨op, arg, val⟩ := n
  simp only at f0 f1 f2 hr hlen hok
  have OK := hide hok
  have HR := hide hr
  have hiI : (i : Int) < (l.length : Int) := by omega
  obtain ⟨w1, hw1⟩ : ∃ w1, w1 = w.alloc (.cells #[.int .i64 op, .int .i64 arg, .slice (some ⟨g, 0, none⟩) val.length val.length] 41) := ⟨_, rfl⟩
  have B1 : Below w.heap.size w w1 := by rw [hw1]; exact (Below.refl _ _).alloc (Nat.le_refl _) _
  have N1 : Own w1 w.heap.size 41 [.int .i64 op, .int .i64 arg, .slice (some ⟨g, 0, none⟩) val.length val.length] := by rw [hw1]; exact ⟨_, heap_alloc_new _ _, rfl⟩
  have hs1 : w1.heap.size = w.heap.size + 1 := by rw [hw1]; simp
  have c0 : (w.alloc (.cells #[.int .i64 op, .int .i64 arg, .slice (some ⟨g, 0, none⟩) val.length val.length] 41)).cell? ⟨w.heap.size, 0, none⟩ = some (.int .i64 op) := by rw [← hw1]; exact N1.cell 0
  clear hrow hr hok
  by_cases hop : op < 1 ∨ 19 < op
  · have fin := hide (Ic.one_6 (c := ⟨op, arg, val⟩) i l.length rg hop)
    by_cases h1 : op < 1
    · have d1 : decide (op < 1) = true := decide_eq_true h1
      clear hop h1 hs1
      go_enter Tryd.func31, Tryd.ntmps31
      go_wp2_with fail
      rw [← hw1]
      go_ret
      exact ⟨ret_int (unhide fin).symm, B1⟩
    · have d1 : decide (op < 1) = false := decide_eq_false h1
      have d2 : decide (op > 19) = true := decide_eq_true (by omega)
      clear hop h1 hs1
      go_enter Tryd.func31, Tryd.ntmps31
      go_wp2_with fail
      rw [← hw1]
      go_ret
      exact ⟨ret_int (unhide fin).symm, B1⟩
  have d1 : decide (op < 1) = false := decide_eq_false (by omega)
  have d2 : decide (op > 19) = false := decide_eq_false (by omega)
  have HOP := hide hop
  obtain ⟨o, hO⟩ : ∃ o : Nat, op = (o : Int) := ⟨op.toNat, by omega⟩
  subst hO
  have ho20 : o < 20 := by omega
  have ho20I : (o : Int) < 20 := by omega
  obtain ⟨s0, s1, s2, s3, s4, s5⟩ := (hS.below B1).cell o ho20
  rw [hw1] at s0 s1 s2 s3 s4 s5
  obtain ⟨w2, hw2⟩ : ∃ w2, w2 = w1.alloc (.cells #[.string (Ic.word o), .int .i64 (Ic.argK (o : Int)), .bool (Ic.holds (o : Int)), .int .i64 (Ic.takes (o : Int)), .int .i64 (Ic.lays (o : Int)), .bool (Ic.ends (o : Int))] 51) := ⟨_, rfl⟩
  have B2 : Below w.heap.size w w2 := by rw [hw2]; exact B1.alloc B1.size _
  have N2 : Own w2 w.heap.size 41 [.int .i64 (o : Int), .int .i64 arg, .slice (some ⟨g, 0, none⟩) val.length val.length] := by rw [hw2]; exact N1.alloc _
  have S2 : Own w2 (w.heap.size + 1) 51 [.string (Ic.word o), .int .i64 (Ic.argK (o : Int)), .bool (Ic.holds (o : Int)), .int .i64 (Ic.takes (o : Int)), .int .i64 (Ic.lays (o : Int)), .bool (Ic.ends (o : Int))] := by rw [← hs1, hw2]; exact ⟨_, heap_alloc_new _ _, rfl⟩
  have F1 := hide (fun (h1 : (Ic.argK (o : Int) = 0 ∧ arg ≠ 0) ∨ (Ic.holds (o : Int) = false ∧ 0 < val.length)) => Ic.one_1 (c := ⟨(o : Int), arg, val⟩) i l.length rg (unhide HOP) h1)
  have FV := hide (fun (h1 : ¬ ((Ic.argK (o : Int) = 0 ∧ arg ≠ 0) ∨ (Ic.holds (o : Int) = false ∧ 0 < val.length))) (h2 : Ic.holds (o : Int) = true) (h3 : Ic.valF ⟨(o : Int), arg, val⟩ ≠ 0) => Ic.one_v (c := ⟨(o : Int), arg, val⟩) i l.length rg (unhide HOP) h1 h2 h3)
  have F3 := hide (fun (h1 : ¬ ((Ic.argK (o : Int) = 0 ∧ arg ≠ 0) ∨ (Ic.holds (o : Int) = false ∧ 0 < val.length))) (h2 : ¬ (Ic.holds (o : Int) = true ∧ Ic.valF ⟨(o : Int), arg, val⟩ ≠ 0)) (h3 : arg < Ic.low (Ic.argK (o : Int)) i ∨ Ic.top (Ic.argK (o : Int)) l.length rg ≤ arg) => Ic.one_3 (c := ⟨(o : Int), arg, val⟩) i l.length rg (unhide HOP) h1 h2 h3)
  have F0 := hide (fun (h1 : ¬ ((Ic.argK (o : Int) = 0 ∧ arg ≠ 0) ∨ (Ic.holds (o : Int) = false ∧ 0 < val.length))) (h2 : ¬ (Ic.holds (o : Int) = true ∧ Ic.valF ⟨(o : Int), arg, val⟩ ≠ 0)) (h3 : ¬ (arg < Ic.low (Ic.argK (o : Int)) i ∨ Ic.top (Ic.argK (o : Int)) l.length rg ≤ arg)) => Ic.one_0 (c := ⟨(o : Int), arg, val⟩) i l.length rg (unhide HOP) h1 h2 h3)
  have NK := hide (fun (h : M.valueFault val = 0) (h2 : (o : Int) = 9) (h3 : (val.getD 0 M.zero).kind ≠ 4) => Ic.val_kind (c := ⟨(o : Int), arg, val⟩) h h2 h3)
  have NO := hide (fun (h : M.valueFault val = 0) (h2 : ¬ ((o : Int) = 9 ∧ (val.getD 0 M.zero).kind ≠ 4)) => Ic.val_ok (c := ⟨(o : Int), arg, val⟩) h h2)
  have NB := hide (fun (h : M.valueFault val ≠ 0) => Ic.val_bad (c := ⟨(o : Int), arg, val⟩) h)
  have hKb := Ic.argK_bd (o : Int)
  have H39 : Ic.holds (o : Int) = true → (o : Int) = 3 ∨ (o : Int) = 9 := by intro h; unfold Ic.holds at h; simpa using h
  have h39 : Ic.holds (o : Int) = true → Ic.argK (o : Int) = 0 := by
    intro h
    rcases H39 h with h2 | h2 <;> rw [h2] <;> rfl
  have HV := hide (implFault_any val g 0 val.length w2 ((unhide HR).below B2 hg) (Nat.lt_of_lt_of_le hg B2.size) hlen (Nat.le_refl _) (unhide OK))
  have HAB := hide (fun wq => argBounds_any (Ic.argK (o : Int)) i l.length rg wq hKb.1 hKb.2 (by omega) hn)
  have hK0 : Ic.argK (o : Int) = 0 → Ic.low (Ic.argK (o : Int)) i = 0 ∧ Ic.top (Ic.argK (o : Int)) l.length rg = 1 := by intro e; rw [e]; exact ⟨rfl, rfl⟩
  obtain ⟨R, hR⟩ : ∃ R, R = Ic.oneF ⟨(o : Int), arg, val⟩ i l.length rg := ⟨_, rfl⟩
  obtain ⟨V, hV⟩ : ∃ V, V = Ic.valF ⟨(o : Int), arg, val⟩ := ⟨_, rfl⟩
  rw [← hR] at F1 F3 F0 ⊢
  rw [← hV] at FV F3 F0 NK NO NB
  rw [← hR] at FV
  clear hR hV
  generalize Ic.low (Ic.argK (o : Int)) i = lo at *
  generalize Ic.top (Ic.argK (o : Int)) l.length rg = tp at *
  generalize Ic.argK (o : Int) = K at *
  generalize Ic.holds (o : Int) = hold at *
  generalize Ic.takes (o : Int) = tk at *
  generalize Ic.lays (o : Int) = ly at *
  generalize Ic.ends (o : Int) = en at *
  generalize Ic.word o = wd at *
  have c0a : w1.cell? ⟨w.heap.size, 0, none⟩ = some (.int .i64 (o : Int)) := N1.cell 0
  have c0b : w2.cell? ⟨w.heap.size, 0, none⟩ = some (.int .i64 (o : Int)) := N2.cell 0
  have c1b : w2.cell? ⟨w.heap.size, 1, none⟩ = some (.int .i64 arg) := N2.cell 1
  have c2b : w2.cell? ⟨w.heap.size, 2, none⟩ = some (.slice (some ⟨g, 0, none⟩) val.length val.length) := N2.cell 2
  have t1 : w2.cell? ⟨w.heap.size + 1, 1, none⟩ = some (.int .i64 K) := S2.cell 1
  have t2 : w2.cell? ⟨w.heap.size + 1, 2, none⟩ = some (.bool hold) := S2.cell 2
  clear hop HOP hs1
  have c1w := c1b
  rw [hw2, hw1] at c0b c1b c2b t1 t2
  rw [hw1] at c0a
  by_cases hA : K = 0 ∧ arg ≠ 0
  · have ga : (arg != 0) = true := by simpa using hA.2
    have fin := hide ((unhide F1) (.inl hA))
    have hz := hA.1
    clear hA hK0 h39 H39
    subst hz
    go_enter Tryd.func31, Tryd.ntmps31
    go_wp2_with fail
    rw [← hw1, ← hw2]
    clear hw1 hw2
    go_ret
    exact ⟨ret_int (unhide fin).symm, B2⟩
  have hAb : (K = 0 ∧ (arg != 0) = false) ∨ (K == 0) = false := by
    by_cases h : K = 0
    · refine .inl ⟨h, ?_⟩
      by_cases h2 : arg = 0
      · simp [h2]
      · exact absurd ⟨h, h2⟩ hA
    · exact .inr (by simp [h])
  cases hold with
  | true =>
    have hz := h39 rfl
    have ha : arg = 0 := by
      by_cases h2 : arg = 0
      · exact h2
      · exact absurd ⟨hz, h2⟩ hA
    have h3 := H39 rfl
    obtain ⟨l0, l1⟩ := hK0 hz
    have ga : (arg != 0) = false := by simp [ha]
    have x1 : decide (arg < lo) = false := decide_eq_false (by omega)
    have x2 : decide (tp ≤ arg) = false := decide_eq_false (by omega)
    have HA := hide ha
    have H3 := hide h3
    have HZ := hide (show lo = 0 ∧ tp = 1 from ⟨l0, l1⟩)
    clear hAb ha h3 l0 l1 hA hK0 h39 H39
    subst hz
    by_cases hv : M.valueFault val = 0
    · have hl1 := (M.fault_zero hv).1
      have hlI : (0 : Int) < (val.length : Int) := by omega
      rw [hv] at HV
      have HRR := hide (fun w3 (hb3 : Below w2.heap.size w2 w3) => (((unhide HR).below B2 hg).below hb3 (Nat.lt_of_lt_of_le hg B2.size)) 0 (by omega))
      have HVV := hide hv
      go_enter Tryd.func31, Tryd.ntmps31
      go_wp2_with fail
      rw [← hw1, ← hw2]
      clear hw1 hw2
      refine (unhide HV).mono ?_
      rintro e w3 ⟨rfl, hb3⟩
      have N3 := N2.below hb3 N2.lt
      have S3 := S2.below hb3 S2.lt
      have B3 : Below w.heap.size w w3 := B2.trans (hb3.mono B2.size)
      have e0 : w3.cell? ⟨w.heap.size, 0, none⟩ = some (.int .i64 (o : Int)) := N3.cell 0
      have e1 : w3.cell? ⟨w.heap.size, 1, none⟩ = some (.int .i64 arg) := N3.cell 1
      have e2 : w3.cell? ⟨w.heap.size, 2, none⟩ = some (.slice (some ⟨g, 0, none⟩) val.length val.length) := N3.cell 2
      have e3 : w3.cell? ⟨w.heap.size + 1, 1, none⟩ = some (.int .i64 0) := S3.cell 1
      obtain ⟨k0, _⟩ := (unhide HRR) w3 hb3
      simp only [Nat.zero_mul, Nat.add_zero] at k0
      have hzz := unhide HZ
      have haa := unhide HA
      rcases unhide H3 with h3 | h3
      · have g9 : ((o : Int) == 9) = false := by simp [h3]
        have fin := hide ((unhide F0) (by rintro (⟨h1, h2⟩ | ⟨h1, h2⟩) <;> first | exact h2 (unhide HA) | cases h1) (fun h => h.2 ((unhide NO) (unhide HVV) (fun e => by omega))) (by omega))
        clear hb3 h3 hzz haa
        go_wp2_with fail
        refine ((unhide HAB) _).mono ?_
        rintro e w4 ⟨rfl, hw4⟩
        rw [hw4]
        clear hw4
        go_wp2_with fail
        go_ret
        exact ⟨ret_int (unhide fin).symm, B3⟩
      · have g9 : ((o : Int) == 9) = true := by simp [h3]
        by_cases h4 : (val.getD 0 M.zero).kind = 4
        · have fin := hide ((unhide F0) (by rintro (⟨h1, h2⟩ | ⟨h1, h2⟩) <;> first | exact h2 (unhide HA) | cases h1) (fun h => h.2 ((unhide NO) (unhide HVV) (fun e => e.2 h4))) (by omega))
          rw [h4] at k0
          clear hb3 h4 h3 hzz haa
          go_wp2_with fail
          refine ((unhide HAB) _).mono ?_
          rintro e w4 ⟨rfl, hw4⟩
          rw [hw4]
          clear hw4
          go_wp2_with fail
          go_ret
          exact ⟨ret_int (unhide fin).symm, B3⟩
        · have hnk := (unhide NK) (unhide HVV) h3 h4
          have fin := hide (((unhide FV) (by rintro (⟨h1, h2⟩ | ⟨h1, h2⟩) <;> first | exact h2 (unhide HA) | cases h1) (by first | rfl | trivial) (by rw [hnk]; decide)).trans hnk)
          have g4 : ((val.getD 0 M.zero).kind != 4) = true := by simpa using h4
          generalize (val.getD 0 M.zero).kind = kk at *
          clear hb3 h4 h3 hzz haa
          go_wp2_with fail
          go_ret
          exact ⟨ret_int (unhide fin).symm, B3⟩
    · have hvb := (unhide NB) hv
      have fin := hide (((unhide FV) (by rintro (⟨h1, h2⟩ | ⟨h1, h2⟩) <;> first | exact h2 (unhide HA) | cases h1) (by first | rfl | trivial) (by rw [hvb]; exact hv)).trans hvb)
      generalize M.valueFault val = q at *
      have g5 : (q != 0) = true := by simpa using hv
      clear hvb
      go_enter Tryd.func31, Tryd.ntmps31
      go_wp2_with fail
      rw [← hw1, ← hw2]
      clear hw1 hw2
      refine (unhide HV).mono ?_
      rintro e w3 ⟨rfl, hb3⟩
      have B3 : Below w.heap.size w w3 := B2.trans (hb3.mono B2.size)
      go_wp2_with fail
      go_ret
      exact ⟨ret_int (unhide fin).symm, B3⟩
  | false =>
    have HAH := hide hA
    clear hK0 h39 H39 hA
    by_cases hl : 0 < val.length
    · have hlI : (0 : Int) < (val.length : Int) := by omega
      have fin := hide ((unhide F1) (.inr ⟨by first | rfl | trivial, hl⟩))
      clear hl
      rcases hAb with ⟨rfl, ga⟩ | gk
      all_goals
        go_enter Tryd.func31, Tryd.ntmps31
        go_wp2_with fail
        rw [← hw1, ← hw2]
        clear hw1 hw2
        go_ret
        exact ⟨ret_int (unhide fin).symm, B2⟩
    · have hlI : ¬ (0 : Int) < (val.length : Int) := by omega
      by_cases x1 : arg < lo
      · have fin := hide ((unhide F3) (by rintro (⟨h1, h2⟩ | ⟨h1, h2⟩) <;> first | exact (unhide HAH) ⟨h1, h2⟩ | omega) (fun h => by cases h.1) (.inl x1))
        rcases hAb with ⟨rfl, ga⟩ | gk
        all_goals
          go_enter Tryd.func31, Tryd.ntmps31
          go_wp2_with fail
          rw [← hw1, ← hw2]
          clear hw1 hw2
          refine ((unhide HAB) _).mono ?_
          rintro e w4 ⟨rfl, hw4⟩
          rw [hw4]
          clear hw4
          go_wp2_with fail
          go_ret
          exact ⟨ret_int (unhide fin).symm, B2⟩
      · have y1 : decide (arg < lo) = false := decide_eq_false x1
        by_cases x2 : tp ≤ arg
        · have fin := hide ((unhide F3) (by rintro (⟨h1, h2⟩ | ⟨h1, h2⟩) <;> first | exact (unhide HAH) ⟨h1, h2⟩ | omega) (fun h => by cases h.1) (.inr x2))
          clear x1
          rcases hAb with ⟨rfl, ga⟩ | gk
          all_goals
            go_enter Tryd.func31, Tryd.ntmps31
            go_wp2_with fail
            rw [← hw1, ← hw2]
            clear hw1 hw2
            refine ((unhide HAB) _).mono ?_
            rintro e w4 ⟨rfl, hw4⟩
            rw [hw4]
            clear hw4
            go_wp2_with fail
            go_ret
            exact ⟨ret_int (unhide fin).symm, B2⟩
        · have fin := hide ((unhide F0) (by rintro (⟨h1, h2⟩ | ⟨h1, h2⟩) <;> first | exact (unhide HAH) ⟨h1, h2⟩ | omega) (fun h => by cases h.1) (by omega))
          have y2 : decide (tp ≤ arg) = false := decide_eq_false x2
          clear x1 x2
          rcases hAb with ⟨rfl, ga⟩ | gk
          all_goals
            go_enter Tryd.func31, Tryd.ntmps31
            go_wp2_with fail
            rw [← hw1, ← hw2]
            clear hw1 hw2
            refine ((unhide HAB) _).mono ?_
            rintro e w4 ⟨rfl, hw4⟩
            rw [hw4]
            clear hw4
            go_wp2_with fail
            go_ret
            exact ⟨ret_int (unhide fin).symm, B2⟩

end Go.Proofs.YtgjbibkppofjfaaDoor

namespace Go.Proofs.YtgjbibkppofjfaaDoor
open Go.RowKit
set_option linter.unusedVariables false
set_option linter.unusedSimpArgs false


namespace Ic
/-- What placesBehind answers. -/
def PlSaid (w : World) (ps : List Int) (e : Ending) (w' : World) : Prop := ∃ v : Value, e = .returned v ∧ w'.ownsRow w.heap.size 2 1 v ps.length (ps.map (Value.int .i64)) ∧ Below w.heap.size w w'
end Ic
theorem World.cell?_of_heap {w w' : World} {b j : Nat} (h : w'.heap[b]? = w.heap[b]?) : w'.cell? ⟨b, j, none⟩ = w.cell? ⟨b, j, none⟩ := by
  unfold World.cell?
  simp only [h]
theorem Ic.ends_jumps {op : Int} (h : Ic.ends op = true) (hk : Ic.argK op = 3) : op = 10 := by
  have h1 := Ic.K_jump hk
  unfold Ic.ends at h
  unfold Ic.jumps at h1
  simp only [Bool.or_eq_true, beq_iff_eq, Bool.and_eq_true, decide_eq_true_eq] at h h1
  omega
set_option maxRecDepth 100000 in
set_option maxHeartbeats 4000000 in
theorem placesBehind_any (c : Ic) (g i : Nat) (w : World) (h1 : 1 ≤ c.op) (h2 : c.op ≤ 19) (hi : i ≤ 6000) (hS : Shp w) :
    Calls Tryd.prog 59 #[.agg #[.int .i64 c.op, .int .i64 c.arg, .slice (some ⟨g, 0, none⟩) c.val.length c.val.length], .int .i64 i] w (Ic.PlSaid w (Ic.places c i)) := by
  obtain ⟨i0, hi0, hz0, hz1, hz2⟩ := info_parts Tryd.info2
  obtain ⟨op, arg, val⟩ := c
  simp only at h1 h2
  obtain ⟨o, hO⟩ : ∃ o : Nat, op = (o : Int) := ⟨op.toNat, by omega⟩
  subst hO
  have ho20 : o < 20 := by omega
  have ho20I : (o : Int) < 20 := by omega
  have hwk : IntKind.i64.wrap ((i : Int) + 1) = (i : Int) + 1 := IntWalk.i64_in _ ⟨by omega, by omega⟩
  obtain ⟨w1, hw1⟩ : ∃ w1, w1 = (w.alloc (.cells #[.int .i64 (o : Int), .int .i64 arg, .slice (some ⟨g, 0, none⟩) val.length val.length] 41)) := ⟨_, rfl⟩
  have B1 : Below w.heap.size w w1 := by rw [hw1]; exact (Below.refl _ _).alloc (Nat.le_refl _) _
  have N1 : Own w1 w.heap.size 41 [.int .i64 (o : Int), .int .i64 arg, .slice (some ⟨g, 0, none⟩) val.length val.length] := by rw [hw1]; exact ⟨_, heap_alloc_new _ _, rfl⟩
  have hs1 : w1.heap.size = w.heap.size + 1 := by rw [hw1]; simp
  obtain ⟨s0, s1, s2, s3, s4, s5⟩ := (hS.below B1).cell o ho20
  have HEJ : Hid (Ic.ends (o : Int) = true → Ic.argK (o : Int) = 3 → (o : Int) = 10) := fun a b => Ic.ends_jumps a b
  have HKJ : Hid (Ic.jumps (o : Int) = decide (Ic.argK (o : Int) = 3)) := by
    cases hj : Ic.jumps (o : Int) with
    | true => exact (decide_eq_true (Ic.jump_K hj)).symm
    | false => exact (decide_eq_false (fun e => by rw [Ic.K_jump e] at hj; cases hj)).symm
  have HPL0 := hide (show Ic.places ⟨(o : Int), arg, val⟩ i = (if Ic.ends (o : Int) = true then [] else [(i : Int) + 1]) ++ (if Ic.jumps (o : Int) = true then [arg] else []) from rfl)
  rw [unhide HKJ] at HPL0
  generalize Ic.argK (o : Int) = K at *
  generalize Ic.holds (o : Int) = hold at *
  generalize Ic.takes (o : Int) = tk at *
  generalize Ic.lays (o : Int) = ly at *
  generalize Ic.ends (o : Int) = en at *
  generalize Ic.word o = wd at *
  obtain ⟨w2, hw2⟩ : ∃ w2, w2 = w1.alloc (.cells #[.string wd, .int .i64 K, .bool hold, .int .i64 tk, .int .i64 ly, .bool en] 51) := ⟨_, rfl⟩
  have B2 : Below w.heap.size w w2 := by rw [hw2]; exact B1.alloc B1.size _
  have N2 : Own w2 w.heap.size 41 [.int .i64 (o : Int), .int .i64 arg, .slice (some ⟨g, 0, none⟩) val.length val.length] := by rw [hw2]; exact N1.alloc _
  have S2 : Own w2 (w.heap.size + 1) 51 [.string wd, .int .i64 K, .bool hold, .int .i64 tk, .int .i64 ly, .bool en] := by rw [← hs1, hw2]; exact ⟨_, heap_alloc_new _ _, rfl⟩
  have c1w : w2.cell? ⟨w.heap.size, 1, none⟩ = some (.int .i64 arg) := N2.cell 1
  have t1w : w2.cell? ⟨w.heap.size + 1, 1, none⟩ = some (.int .i64 K) := S2.cell 1
  have t5w : w2.cell? ⟨w.heap.size + 1, 5, none⟩ = some (.bool en) := S2.cell 5
  have c0a : w1.cell? ⟨w.heap.size, 0, none⟩ = some (.int .i64 (o : Int)) := N1.cell 0
  have c1b := c1w
  have t1 := t1w
  have t5 := t5w
  rw [hw2, hw1] at c1b t1 t5
  rw [hw1] at c0a s0 s1 s2 s3 s4 s5
  clear hs1 N1 N2 S2 hS HKJ HEJ
  by_cases hK : K = 3
  · subst hK
    cases en with
    | false =>
      have HPL := hide (show Ic.places ⟨(o : Int), arg, val⟩ i = [(i : Int) + 1] ++ [arg] by rw [unhide HPL0]; rfl)
      go_enter Tryd.func59, Tryd.ntmps59
      have hown' := hide (fun ob => World.ownsRow.alloc (World.ownsRow_nil w2 w.heap.size 2 1) ob)
      rw [hw2, hw1] at hown'
      have hone : Hid (∀ (j : Nat) (u : Value), ([Value.int .i64 ((i : Int) + 1)] : List Value)[j]? = some u → (((w.alloc (.cells #[.int .i64 (o : Int), .int .i64 arg, .slice (some ⟨g, 0, none⟩) val.length val.length] 41)).alloc (.cells #[.string wd, .int .i64 3, .bool hold, .int .i64 tk, .int .i64 ly, .bool false] 51)).alloc (.cells #[.int .i64 ((i : Int) + 1)] 2)).cell? ((⟨w.heap.size + 1 + 1, 0, none⟩ : Addr).add j) = some u) := by
        have h9 := one_word ((w.alloc (.cells #[.int .i64 (o : Int), .int .i64 arg, .slice (some ⟨g, 0, none⟩) val.length val.length] 41)).alloc (.cells #[.string wd, .int .i64 3, .bool hold, .int .i64 tk, .int .i64 ly, .bool false] 51)) ((i : Int) + 1)
        rw [World.size_alloc, World.size_alloc] at h9
        exact h9
      have honep := hide (one_plain ((i : Int) + 1))
      have hb63 : 0 + 1 ≤ maxLen := by unfold maxLen; omega
      have hby : (0 + 1) * 8 ≤ 140737488355328 := by omega
      have HG := hide (fun (W : World) ob hg => (B2.alloc B2.size ob).grown (w' := W) (row := (Value.slice none 0 0).ownBlock) hg (by have := B2.size; simp; omega) (fun q hq => by simp [Value.ownBlock] at hq))
      rw [hw2, hw1] at HG
      go_wp2_with (at_builtin; refine wpList_append_own _ rfl (.tmp 14) (.tmp 17) 38 rfl w.heap.size 2 i0 (.int .i64 0) 1 8 Tryd.underlying38 hi0 hz0 hz1 hz2 rfl (by decide) _ 0 _ rfl ((unhide hown') _) ⟨w.heap.size + 1 + 1, 0, none⟩ 1 1 [.int .i64 ((i : Int) + 1)] rfl rfl (unhide hone) (unhide honep) hb63 hby (by simp; omega) ?_)
      intro v7 w7 ho7 hg7 _
      have B7 := (unhide HG) w7 _ hg7
      have hlow7 : ∀ k, k < w.heap.size + 2 → w7.heap[k]? = ((w.alloc (.cells #[.int .i64 (o : Int), .int .i64 arg, .slice (some ⟨g, 0, none⟩) val.length val.length] 41)).alloc (.cells #[.string wd, .int .i64 3, .bool hold, .int .i64 tk, .int .i64 ly, .bool false] 51)).heap[k]? := fun k hk => by
        rw [hg7.block k (by simp; omega) (by simp [Value.ownBlock])]
        exact Below.heap_alloc _ _ _ (by simp; omega)
      clear hg7 HG hown' hone honep hb63 hby
      obtain ⟨ps1, hps1⟩ : ∃ ps1 : List Int, ps1 = [(i : Int) + 1] := ⟨_, rfl⟩
      have R7 := hide (show w7.ownsRow w.heap.size 2 1 v7 ps1.length (ps1.map (Value.int .i64)) by rw [hps1]; exact ho7)
      have hl1 : ps1.length ≤ 1 := by rw [hps1]; simp
      have HPS1 := hide hps1
      clear hps1 ho7
      have hown' := hide (fun ob => World.ownsRow.alloc (unhide R7) ob)
      have hone := hide (one_word w7 (arg))
      have honep := hide (one_plain (arg))
      have hb63 : ps1.length + 1 ≤ maxLen := by unfold maxLen; omega
      have hby : (ps1.length + 1) * 8 ≤ 140737488355328 := by omega
      have hs7 := B7.size
      obtain ⟨a7, c7, rfl⟩ : ∃ (a : Option Addr) (c : Nat), v7 = .slice a ps1.length c := by
        obtain ⟨h0, h1 | ⟨gg, c, cur, h2, hgg, hh, rest⟩⟩ := unhide R7
        · exact ⟨none, 0, by rw [h1.1, h1.2]⟩
        · exact ⟨_, _, h2⟩
      have HBS := hide (show ∀ q, (Value.slice a7 ps1.length c7).ownBlock = some q → w.heap.size ≤ q from fun q hq => by
        obtain ⟨h0, h1 | ⟨gg, c, cur, h2, hgg, hh, rest⟩⟩ := unhide R7
        · rw [h1.1] at hq; simp [Value.ownBlock] at hq
        · rw [h2] at hq; simp only [Value.ownBlock, Option.some.injEq] at hq; omega)
      have HG := hide (fun (W : World) ob hg => (B7.alloc B7.size ob).grown (w' := W) (row := (Value.slice a7 ps1.length c7).ownBlock) hg (by simp; omega) (unhide HBS))
      have x0 : w7.cell? ⟨w.heap.size, 1, none⟩ = some (.int .i64 arg) := by
        have e : w7.cell? ⟨w.heap.size, 1, none⟩ = w2.cell? ⟨w.heap.size, 1, none⟩ := World.cell?_of_heap (by rw [hlow7 _ (by simp), hw2, hw1])
        exact e.trans c1w
      have x1 : w7.cell? ⟨w.heap.size + 1, 1, none⟩ = some (.int .i64 3) := by
        have e : w7.cell? ⟨w.heap.size + 1, 1, none⟩ = w2.cell? ⟨w.heap.size + 1, 1, none⟩ := World.cell?_of_heap (by rw [hlow7 _ (by simp), hw2, hw1])
        exact e.trans t1w
      clear hlow7 hw1 hw2
      go_wp2_with (at_builtin; refine wpList_append_own _ rfl (.tmp 22) (.tmp 25) 38 rfl w.heap.size 2 i0 (.int .i64 0) 1 8 Tryd.underlying38 hi0 hz0 hz1 hz2 rfl (by decide) _ ps1.length _ rfl ((unhide hown') _) ⟨w7.heap.size, 0, none⟩ 1 1 [.int .i64 (arg)] rfl rfl (unhide hone) (unhide honep) hb63 hby (by simp; omega) ?_)
      intro v8 w8 ho8 hg8 _
      have B8 := (unhide HG) w8 _ hg8
      have fin := hide (show Ic.PlSaid w (Ic.places ⟨(o : Int), arg, val⟩ i) (.returned v8) w8 from ⟨_, rfl, by rw [unhide HPL]; rw [unhide HPS1] at ho8; exact ho8, B8⟩)
      clear ho8 hg8 HG hown' hone honep
      go_wp2_with fail
      go_ret
      exact unhide fin
    | true =>
      have HPL := hide (show Ic.places ⟨(o : Int), arg, val⟩ i = [arg] by rw [unhide HPL0]; rfl)
      go_enter Tryd.func59, Tryd.ntmps59
      have hown' := hide (fun ob => World.ownsRow.alloc (World.ownsRow_nil w2 w.heap.size 2 1) ob)
      rw [hw2, hw1] at hown'
      have hone : Hid (∀ (j : Nat) (u : Value), ([Value.int .i64 (arg)] : List Value)[j]? = some u → (((w.alloc (.cells #[.int .i64 (o : Int), .int .i64 arg, .slice (some ⟨g, 0, none⟩) val.length val.length] 41)).alloc (.cells #[.string wd, .int .i64 3, .bool hold, .int .i64 tk, .int .i64 ly, .bool true] 51)).alloc (.cells #[.int .i64 (arg)] 2)).cell? ((⟨w.heap.size + 1 + 1, 0, none⟩ : Addr).add j) = some u) := by
        have h9 := one_word ((w.alloc (.cells #[.int .i64 (o : Int), .int .i64 arg, .slice (some ⟨g, 0, none⟩) val.length val.length] 41)).alloc (.cells #[.string wd, .int .i64 3, .bool hold, .int .i64 tk, .int .i64 ly, .bool true] 51)) (arg)
        rw [World.size_alloc, World.size_alloc] at h9
        exact h9
      have honep := hide (one_plain (arg))
      have hb63 : 0 + 1 ≤ maxLen := by unfold maxLen; omega
      have hby : (0 + 1) * 8 ≤ 140737488355328 := by omega
      have HG := hide (fun (W : World) ob hg => (B2.alloc B2.size ob).grown (w' := W) (row := (Value.slice none 0 0).ownBlock) hg (by have := B2.size; simp; omega) (fun q hq => by simp [Value.ownBlock] at hq))
      rw [hw2, hw1] at HG
      go_wp2_with (at_builtin; refine wpList_append_own _ rfl (.tmp 22) (.tmp 25) 38 rfl w.heap.size 2 i0 (.int .i64 0) 1 8 Tryd.underlying38 hi0 hz0 hz1 hz2 rfl (by decide) _ 0 _ rfl ((unhide hown') _) ⟨w.heap.size + 1 + 1, 0, none⟩ 1 1 [.int .i64 (arg)] rfl rfl (unhide hone) (unhide honep) hb63 hby (by simp; omega) ?_)
      intro v7 w7 ho7 hg7 _
      have B7 := (unhide HG) w7 _ hg7
      have hlow7 : ∀ k, k < w.heap.size + 2 → w7.heap[k]? = ((w.alloc (.cells #[.int .i64 (o : Int), .int .i64 arg, .slice (some ⟨g, 0, none⟩) val.length val.length] 41)).alloc (.cells #[.string wd, .int .i64 3, .bool hold, .int .i64 tk, .int .i64 ly, .bool true] 51)).heap[k]? := fun k hk => by
        rw [hg7.block k (by simp; omega) (by simp [Value.ownBlock])]
        exact Below.heap_alloc _ _ _ (by simp; omega)
      clear hg7 HG hown' hone honep hb63 hby
      have fin := hide (show Ic.PlSaid w (Ic.places ⟨(o : Int), arg, val⟩ i) (.returned v7) w7 from ⟨_, rfl, by rw [unhide HPL]; exact ho7, B7⟩)
      clear ho7 hlow7
      go_wp2_with fail
      go_ret
      exact unhide fin
  · have gK : (K == 3) = false := by simp [hK]
    cases en with
    | false =>
      have HPL := hide (show Ic.places ⟨(o : Int), arg, val⟩ i = [(i : Int) + 1] by rw [unhide HPL0, decide_eq_false hK]; rfl)
      clear hK
      go_enter Tryd.func59, Tryd.ntmps59
      have hown' := hide (fun ob => World.ownsRow.alloc (World.ownsRow_nil w2 w.heap.size 2 1) ob)
      rw [hw2, hw1] at hown'
      have hone : Hid (∀ (j : Nat) (u : Value), ([Value.int .i64 ((i : Int) + 1)] : List Value)[j]? = some u → (((w.alloc (.cells #[.int .i64 (o : Int), .int .i64 arg, .slice (some ⟨g, 0, none⟩) val.length val.length] 41)).alloc (.cells #[.string wd, .int .i64 K, .bool hold, .int .i64 tk, .int .i64 ly, .bool false] 51)).alloc (.cells #[.int .i64 ((i : Int) + 1)] 2)).cell? ((⟨w.heap.size + 1 + 1, 0, none⟩ : Addr).add j) = some u) := by
        have h9 := one_word ((w.alloc (.cells #[.int .i64 (o : Int), .int .i64 arg, .slice (some ⟨g, 0, none⟩) val.length val.length] 41)).alloc (.cells #[.string wd, .int .i64 K, .bool hold, .int .i64 tk, .int .i64 ly, .bool false] 51)) ((i : Int) + 1)
        rw [World.size_alloc, World.size_alloc] at h9
        exact h9
      have honep := hide (one_plain ((i : Int) + 1))
      have hb63 : 0 + 1 ≤ maxLen := by unfold maxLen; omega
      have hby : (0 + 1) * 8 ≤ 140737488355328 := by omega
      have HG := hide (fun (W : World) ob hg => (B2.alloc B2.size ob).grown (w' := W) (row := (Value.slice none 0 0).ownBlock) hg (by have := B2.size; simp; omega) (fun q hq => by simp [Value.ownBlock] at hq))
      rw [hw2, hw1] at HG
      go_wp2_with (at_builtin; refine wpList_append_own _ rfl (.tmp 14) (.tmp 17) 38 rfl w.heap.size 2 i0 (.int .i64 0) 1 8 Tryd.underlying38 hi0 hz0 hz1 hz2 rfl (by decide) _ 0 _ rfl ((unhide hown') _) ⟨w.heap.size + 1 + 1, 0, none⟩ 1 1 [.int .i64 ((i : Int) + 1)] rfl rfl (unhide hone) (unhide honep) hb63 hby (by simp; omega) ?_)
      intro v7 w7 ho7 hg7 _
      have B7 := (unhide HG) w7 _ hg7
      have hlow7 : ∀ k, k < w.heap.size + 2 → w7.heap[k]? = ((w.alloc (.cells #[.int .i64 (o : Int), .int .i64 arg, .slice (some ⟨g, 0, none⟩) val.length val.length] 41)).alloc (.cells #[.string wd, .int .i64 K, .bool hold, .int .i64 tk, .int .i64 ly, .bool false] 51)).heap[k]? := fun k hk => by
        rw [hg7.block k (by simp; omega) (by simp [Value.ownBlock])]
        exact Below.heap_alloc _ _ _ (by simp; omega)
      clear hg7 HG hown' hone honep hb63 hby
      have fin := hide (show Ic.PlSaid w (Ic.places ⟨(o : Int), arg, val⟩ i) (.returned v7) w7 from ⟨_, rfl, by rw [unhide HPL]; exact ho7, B7⟩)
      have x1 : w7.cell? ⟨w.heap.size + 1, 1, none⟩ = some (.int .i64 K) := by
        have e : w7.cell? ⟨w.heap.size + 1, 1, none⟩ = w2.cell? ⟨w.heap.size + 1, 1, none⟩ := World.cell?_of_heap (by rw [hlow7 _ (by simp), hw2, hw1])
        exact e.trans t1w
      clear ho7 hlow7 hw1 hw2
      go_wp2_with fail
      go_ret
      exact unhide fin
    | true =>
      have HPL := hide (show Ic.places ⟨(o : Int), arg, val⟩ i = [] by rw [unhide HPL0, decide_eq_false hK]; rfl)
      have fin := hide (show Ic.PlSaid w (Ic.places ⟨(o : Int), arg, val⟩ i) (.returned (.slice none 0 0)) w2 from ⟨_, rfl, by rw [unhide HPL]; exact World.ownsRow_nil _ _ _ _, B2⟩)
      clear hK
      go_enter Tryd.func59, Tryd.ntmps59
      go_wp2_with fail
      rw [← hw1, ← hw2]
      go_ret
      exact unhide fin

end Go.Proofs.YtgjbibkppofjfaaDoor

namespace Go.Proofs.YtgjbibkppofjfaaDoor
open Go.RowKit
set_option linter.unusedVariables false
set_option linter.unusedSimpArgs false


open Go.Maps Go.ChangeMaps
theorem key_ne {a b : Nat} (h : a ≠ b) : Lit.int .i64 (a : Int) ≠ Lit.int .i64 (b : Int) := by
  intro q
  simp only [Lit.int.injEq, true_and] at q
  omega
theorem Ic.putAll_keep {n k : Nat} {h : Int} : ∀ (ps out o : List Int), (∀ p ∈ ps, (k : Int) + 1 ≤ p) → Ic.putAll n h ps out = some o → o.length = out.length ∧ ∀ j, j ≤ k → o.getD j (-1) = out.getD j (-1) := by
  intro ps
  induction ps with
  | nil => intro out o _ e; rw [Ic.putAll] at e; injection e with e; subst e; exact ⟨rfl, fun j _ => rfl⟩
  | cons p r ih =>
    intro out o hp e
    have hpb := hp p (by simp)
    rw [Ic.putAll] at e
    cases hq : Ic.put n h out p with
    | none => rw [hq] at e; cases e
    | some o1 =>
      rw [hq] at e
      obtain ⟨h1, h2⟩ := ih o1 o (fun x hx => hp x (by simp [hx])) e
      have he : o1 = out.set p.toNat h := by
        unfold Ic.put at hq
        split at hq
        · cases hq
        · injection hq with hq; exact hq.symm
      subst he
      refine ⟨by rw [h1, List.length_set], fun j hj => ?_⟩
      rw [h2 j hj, List.getD_eq_getElem?_getD, List.getElem?_set_ne (by omega), ← List.getD_eq_getElem?_getD]
/-- Of the old blocks none but b turned. -/
structure Km (B b : Nat) (w w' : World) : Prop where
  os : w'.os = w.os
  tape : w'.tape = w.tape
  output : w'.output = w.output
  size : w.heap.size ≤ w'.heap.size
  block : ∀ k, k < B → k ≠ b → w'.heap[k]? = w.heap[k]?
theorem Km.refl (B b : Nat) (w : World) : Km B b w w := ⟨rfl, rfl, rfl, Nat.le_refl _, fun _ _ _ => rfl⟩
theorem Km.trans {B b : Nat} {u v w : World} (h : Km B b u v) (k : Km B b v w) : Km B b u w := ⟨k.os.trans h.os, k.tape.trans h.tape, k.output.trans h.output, Nat.le_trans h.size k.size, fun i hi hn => (k.block i hi hn).trans (h.block i hi hn)⟩
theorem Km.mono {B B' b : Nat} {w w' : World} (h : Km B b w w') (h1 : B' ≤ B) : Km B' b w w' := ⟨h.os, h.tape, h.output, h.size, fun k hk hn => h.block k (by omega) hn⟩
theorem Km.of_below {B b : Nat} {w w' : World} (h : Below B w w') : Km B b w w' := ⟨h.os, h.tape, h.output, h.size, fun k hk _ => h.block k hk⟩
theorem Km.below {B B' b : Nat} {w w' : World} (h : Km B b w w') (h1 : B' ≤ B) (h2 : B' ≤ b) : Below B' w w' := ⟨h.os, h.tape, h.output, h.size, fun k hk => h.block k (by omega) (by omega)⟩
theorem Km.grown {B b : Nat} {w w' : World} (h : w.grownBy w' (some b)) (hB : B ≤ w.heap.size) : Km B b w w' := ⟨h.os, h.tape, h.output, h.size, fun k hk hn => h.block k (by omega) (fun e => hn (by simpa using e))⟩
theorem Km.turned {B b : Nat} {w w' : World} (h : w.mapTurned w' b) : Km B b w w' := by
  obtain ⟨es, cl, es', cl', hb, rfl⟩ := h
  exact ⟨rfl, rfl, rfl, by simp [setBlock], fun k _ hn => heap_setBlock_other hb _ (fun e => hn e)⟩
/-- The map holds just the heights that are laid at places from k on. -/
structure Mp (w : World) (mb k N : Nat) (out : List Int) : Prop where
  ex : ∃ D : DataW Unit, w.ownsMap Tryd.prog 2 (plainElem (H := Unit) Tryd.prog 2) mb N D ∧ IsMap D ∧ (∀ j : Nat, has D (.int .i64 (j : Int)) = decide (k ≤ j ∧ 0 ≤ out.getD j (-1))) ∧ (∀ j : Nat, k ≤ j → 0 ≤ out.getD j (-1) → ∀ z, D.atKey (.int .i64 (j : Int)) z = .lit (.int .i64 (out.getD j (-1))))
theorem Mp.lt {w : World} {mb k N : Nat} {out : List Int} (h : Mp w mb k N out) : mb < w.heap.size := by obtain ⟨D, h1, _⟩ := h; exact h1.lt
theorem Mp.keep {w w' : World} {mb k N : Nat} {out : List Int} (h : Mp w mb k N out) (hk : w'.heap[mb]? = w.heap[mb]?) : Mp w' mb k N out := by
  obtain ⟨D, ⟨es, clock, h1, h2⟩, h3⟩ := h
  exact ⟨D, ⟨es, clock, hk.trans h1, h2⟩, h3⟩
theorem Mp.below {w w' : World} {mb k N : Nat} {out : List Int} (h : Mp w mb k N out) (hb : Below w.heap.size w w') : Mp w' mb k N out := h.keep (hb.block mb h.lt)
theorem mapK : Keyed Tryd.prog 2 := int_keyed Tryd.underlying2
theorem wf64 {x : Int} (h0 : -9223372036854775808 ≤ x) (h1 : x ≤ 9223372036854775807) : (Lit.int .i64 x).wf = true := by
  simp [Lit.wf, IntKind.min, IntKind.max, IntKind.signed, IntKind.bits]
  omega
theorem zero64 (w : World) : (zeroValue 2).run Tryd.prog w = .ok (.int .i64 0) w := by kernel_rfl
/-- What is laid at a place. -/
theorem Mp.look {w : World} {mb k N : Nat} {out : List Int} (h : Mp w mb k N out) (j : Nat) (hj : j ≤ 1000000) : ∃ c : Int, (Instr.lookup 65 (.map (some mb)) (.int .i64 (j : Int)) true).run Tryd.prog w = .ok (.tuple #[.int .i64 c, .bool (decide (k ≤ j ∧ 0 ≤ out.getD j (-1)))]) w ∧ (k ≤ j → 0 ≤ out.getD j (-1) → c = out.getD j (-1)) := by
  obtain ⟨D, h1, h2, h3, h4⟩ := h
  obtain ⟨v, ps, hrun, hv⟩ := h1.look_ok mapK Tryd.underlying65 (zero64 w) (zd := .lit (.int .i64 0)) (zp := []) (plainElem_int Tryd.underlying2 (by decide)) (keyOf_int_mk (a := (j : Int)) Tryd.underlying2 (wf64 (by omega) (by omega)))
  obtain ⟨c, rfl, hc, hwc⟩ := plainElem_int_inv Tryd.underlying2 hv
  rw [h3 j] at hrun
  refine ⟨c, hrun, fun hk h0 => ?_⟩
  simp only [Prod.mk.injEq] at hc
  have := hc.1
  rw [h4 j hk h0] at this
  simp only [DataW.lit.injEq, Lit.int.injEq, true_and] at this
  exact this.symm
/-- What is laid here is done with. -/
theorem Mp.del {w : World} {mb k N : Nat} {out : List Int} (h : Mp w mb k N out) (hk : k ≤ 1000000) (ty : TypeId) : ∃ w', (Builtin.delete_ #[65, 2] ty #[.map (some mb), .int .i64 (k : Int)]).run Tryd.prog w = .ok (.tuple #[]) w' ∧ Mp w' mb (k + 1) N out ∧ Km w.heap.size mb w w' := by
  obtain ⟨D, h1, h2, h3, h4⟩ := h
  obtain ⟨w', hrun, ho, ht⟩ := h1.drop mapK Tryd.underlying65 (keyOf_int_mk (a := (k : Int)) Tryd.underlying2 (wf64 (by omega) (by omega))) ty
  refine ⟨w', hrun, ⟨D.del (.int .i64 (k : Int)), ho, h2.del _, fun j => ?_, fun j hj h0 z => ?_⟩, Km.turned ht⟩
  · by_cases e : j = k
    · subst e
      rw [has_del_same]
      exact (decide_eq_false (by omega)).symm
    · rw [has_del_other (key_ne e), h3 j, decide_eq_decide]
      omega
  · rw [atKey_del_other (key_ne (by omega))]
    exact h4 j (by omega) h0 z
/-- A height laid at a place to come. -/
theorem Mp.put {w : World} {mb k N : Nat} {out : List Int} (h : Mp w mb k N out) (p : Nat) (x : Int) (hk : k ≤ p) (hp : p < out.length) (hpm : p ≤ 1000000) (hN : N ≤ 1000000) (h0 : 0 ≤ x) (h1 : x ≤ 1000000) : ∃ w', (Instr.mapUpdate 65 (.map (some mb)) (.int .i64 (p : Int)) (.int .i64 x)).run Tryd.prog w = .ok () w' ∧ Mp w' mb k (N + 1) (out.set p x) ∧ Km w.heap.size mb w w' := by
  obtain ⟨D, g1, g2, g3, g4⟩ := h
  obtain ⟨w', hrun, ho, ht⟩ := g1.update mapK Tryd.underlying65 (by unfold maxLen; omega) (keyOf_int_mk (a := (p : Int)) Tryd.underlying2 (wf64 (by omega) (by omega))) (plainElem_int Tryd.underlying2 (a := x) (wf64 (by omega) (by omega)))
  have gs : (out.set p x).getD p (-1) = x := by rw [List.getD_eq_getElem?_getD, List.getElem?_set, if_pos rfl, if_pos hp]; rfl
  have go : ∀ j, j ≠ p → (out.set p x).getD j (-1) = out.getD j (-1) := fun j hj => by rw [List.getD_eq_getElem?_getD, List.getElem?_set_ne (fun e => hj e.symm), ← List.getD_eq_getElem?_getD]
  have hkey : WideAt.IsKeyLit (.int .i64 (p : Int)) := by first | trivial | exact rfl | simp [WideAt.IsKeyLit]
  refine ⟨w', hrun, ⟨_, ho, g2.put _ _, fun j => ?_, fun j hj hz z => ?_⟩, Km.grown ht (Nat.le_refl _)⟩
  · by_cases e : j = p
    · subst e
      rw [has_put_same g2 hkey, gs]
      exact (decide_eq_true ⟨hk, h0⟩).symm
    · rw [has_put_other (key_ne e), g3 j, go j e]
  · by_cases e : j = p
    · subst e
      rw [atKey_put_same g2 hkey, gs]
    · rw [atKey_put_other (key_ne e), go j e]
      rw [go j e] at hz
      exact g4 j hj hz z
/-- Where nothing is laid the map is the same behind. -/
theorem Mp.skip {w : World} {mb k N : Nat} {out : List Int} (h : Mp w mb k N out) (hx : out.getD k (-1) < 0) : Mp w mb (k + 1) N out := by
  obtain ⟨D, h1, h2, h3, h4⟩ := h
  refine ⟨D, h1, h2, fun j => ?_, fun j hj => h4 j (by omega)⟩
  rw [h3 j, decide_eq_decide]
  by_cases e : j = k
  · subst e; omega
  · omega
theorem Mp.more {w : World} {mb k N N' : Nat} {out : List Int} (h : Mp w mb k N out) (hN : N ≤ N') : Mp w mb k N' out := by
  obtain ⟨D, h1, h2⟩ := h
  exact ⟨D, h1.mono hN, h2⟩

end Go.Proofs.YtgjbibkppofjfaaDoor

namespace Go.Proofs.YtgjbibkppofjfaaDoor
open Go.RowKit
set_option linter.unusedVariables false
set_option linter.unusedSimpArgs false


namespace Ic
theorem places_len (c : Ic) (i : Nat) : (places c i).length ≤ 2 := by
  unfold places
  rw [List.length_append]
  split <;> split <;> simp
/-- What layBehind answers. -/
def LbSaid (w : World) (mb i N : Nat) (l : List Ic) (out : List Int) (e : Ending) (w' : World) : Prop := ∃ r : Bool, e = .returned (.bool r) ∧ Km w.heap.size mb w w' ∧ (r = true → ∃ o, step l i out = some o ∧ Mp w' mb (i + 1) (N + 2) o) ∧ (r = false → step l i out = none)
/-- What the loop over the places holds. -/
structure Lb (w wr : World) (mb i n N : Nat) (o : List Int) (v : Value) (ps : List Int) : Prop where
  mp : Mp wr mb (i + 1) N o
  fr : Fr n ((i : Int) + 2) o
  km : Km w.heap.size mb w wr
  row : wr.ownsRow (w.heap.size + 1) 2 1 v ps.length (ps.map (Value.int .i64))
  mbl : mb < w.heap.size
theorem Lb.at {w wr : World} {mb i n N : Nat} {o : List Int} {a : Option Addr} {c : Nat} {ps : List Int} (h : Lb w wr mb i n N o (.slice a ps.length c) ps) {j : Nat} (hj : j < ps.length) : ∃ g : Nat, a = some ⟨g, 0, none⟩ ∧ ps.length ≤ c ∧ wr.cell? ⟨g, j, none⟩ = some (.int .i64 (ps.getD j 0)) := by
  obtain ⟨h0, ⟨h1, h2⟩ | ⟨g, c', cur, h2, hg, hh, hc, hc2, hc3, hc4⟩⟩ := h.row
  · omega
  · injection h2 with e1 _ e3
    have O : Own wr g 2 cur.toList := ⟨cur, hh, rfl⟩
    refine ⟨g, e1, by omega, ?_⟩
    have e := O.cell j
    rw [e, show cur.toList[j]? = (cur.toList.take (ps.length * 1))[j]? from (List.getElem?_take_of_lt (by omega)).symm, hc4, List.getElem?_map, List.getElem?_eq_getElem hj, List.getD_eq_getElem?_getD, List.getElem?_eq_getElem hj]
    rfl
theorem Lb.shape {w wr : World} {mb i n N : Nat} {o : List Int} {v : Value} {ps : List Int} (h : Lb w wr mb i n N o v ps) : ∃ (a : Option Addr) (c : Nat), v = .slice a ps.length c := by
  obtain ⟨h0, h1 | ⟨g, c, cur, h2, hg, hh, rest⟩⟩ := h.row
  · exact ⟨none, 0, by rw [h1.1, h1.2]⟩
  · exact ⟨_, _, h2⟩
/-- A height laid. -/
theorem Lb.lay {w wr w2 : World} {mb i n N : Nat} {o : List Int} {v : Value} {ps : List Int} (h : Lb w wr mb i n N o v ps) (q : Nat) (x : Int) (hm : Mp w2 mb (i + 1) (N + 1) (o.set q x)) (hk : Km wr.heap.size mb wr w2) (h0 : -1 ≤ x) (h1 : x ≤ (i : Int) + 2) : Lb w w2 mb i n (N + 1) (o.set q x) v ps := by
  refine ⟨hm, h.fr.set q x h0 h1 (by omega), h.km.trans (hk.mono h.km.size), ?_, h.mbl⟩
  obtain ⟨r0, r1 | ⟨g, c, cur, r2, hg, hh, rest⟩⟩ := h.row
  · exact ⟨r0, .inl r1⟩
  · exact ⟨r0, .inr ⟨g, c, cur, r2, hg, (hk.block g (Array.getElem?_eq_some_iff.1 hh).1 (by have := h.mbl; omega)).trans hh, rest⟩⟩
end Ic
set_option maxRecDepth 100000 in
set_option maxHeartbeats 8000000 in
theorem layBehind_any (mb b : Nat) (l : List Ic) (i N : Nat) (rg : Int) (out : List Int) (w : World) (hrow : Ic.Row w b l) (hb : b < w.heap.size) (hi : i < l.length) (hn : l.length ≤ 6000) (hone : Ic.oneF (l.getD i Ic.zero) i l.length rg = 0) (hS : Shp w) (hM : Mp w mb (i + 1) N out) (hfr : Ic.Fr l.length ((i : Int) + 1) out) (hx : 0 ≤ out.getD i (-1)) (hN : N ≤ 100000) :
    Calls Tryd.prog 49 #[.map (some mb), .slice (some ⟨b, 0, none⟩) l.length l.length, .int .i64 i, .int .i64 (out.getD i (-1))] w (Ic.LbSaid w mb i N l out) := by
  obtain ⟨f0, f1, g, f2, hg, hr⟩ := hrow i hi
  have hiI : (i : Int) < (l.length : Int) := by omega
  have hi0 : (0 : Int) ≤ (i : Int) := by omega
  have hop := (Ic.one_parts hone).1
  have HPB := hide (Ic.places_bd hone)
  have HSF := hide (fun h h1 => Ic.step_few (l := l) (i := i) (out := out) h h1)
  have HSG := hide (fun h h1 => Ic.step_go (l := l) (i := i) (out := out) h h1)
  have hxb := hfr.2 i
  obtain ⟨x, hxe⟩ : ∃ x, x = out.getD i (-1) := ⟨_, rfl⟩
  rw [← hxe] at hx HSF HSG hxb ⊢
  have HM := hide hM
  have HFR := hide hfr
  clear hrow hr hone hxe hM hfr
  have HLT2 := Ic.lays_takes (l.getD i Ic.zero).op
  have HTK := Ic.takes_bd (l.getD i Ic.zero).op
  have HLY := Ic.lays_bd (l.getD i Ic.zero).op
  have HPS0 : ∃ PL, PL = Ic.places (l.getD i Ic.zero) i ∧ PL.length ≤ 2 := ⟨_, rfl, Ic.places_len _ _⟩
  generalize l.getD i Ic.zero = c at *
  obtain ⟨op, arg, val⟩ := c
  simp only at f0 f1 f2 hop HSF HSG HLT2 HTK HLY
  obtain ⟨o, hO⟩ : ∃ o : Nat, op = (o : Int) := ⟨op.toNat, by omega⟩
  subst hO
  have ho20 : o < 20 := by omega
  have ho20I : (o : Int) < 20 := by omega
  have HPC := hide (fun W (hSW : Shp W) => placesBehind_any ⟨(o : Int), arg, val⟩ g i W hop.1 hop.2 (by omega) hSW)
  have HPC := hide (show ∀ W, Shp W → Calls Tryd.prog 59 #[.agg #[.int .i64 (o : Int), .int .i64 arg, .slice (some ⟨g, 0, none⟩) val.length val.length], .int .i64 i] W (Ic.PlSaid W (Ic.places ⟨(o : Int), arg, val⟩ i)) from unhide HPC)
  obtain ⟨s0, s1, s2, s3, s4, s5⟩ := hS.cell o ho20
  obtain ⟨PL, hPL, HLEN⟩ := HPS0
  rw [← hPL] at HSG HPB HPC
  clear hPL
  generalize Ic.argK (o : Int) = K at *
  generalize Ic.holds (o : Int) = hold at *
  generalize Ic.takes (o : Int) = tk at *
  generalize Ic.lays (o : Int) = ly at *
  generalize Ic.ends (o : Int) = en at *
  generalize Ic.word o = wd at *
  obtain ⟨w1, hw1⟩ : ∃ w1, w1 = (w.alloc (.cells #[.string wd, .int .i64 K, .bool hold, .int .i64 tk, .int .i64 ly, .bool en] 51)) := ⟨_, rfl⟩
  have B1 : Below w.heap.size w w1 := by rw [hw1]; exact (Below.refl _ _).alloc (Nat.le_refl _) _
  have hs1 : w1.heap.size = w.heap.size + 1 := by rw [hw1]; simp
  have S1 : Own w1 w.heap.size 51 [.string wd, .int .i64 K, .bool hold, .int .i64 tk, .int .i64 ly, .bool en] := by rw [hw1]; exact ⟨_, heap_alloc_new _ _, rfl⟩
  have t3 : w1.cell? ⟨w.heap.size, 3, none⟩ = some (.int .i64 tk) := S1.cell 3
  have t4 : w1.cell? ⟨w.heap.size, 4, none⟩ = some (.int .i64 ly) := S1.cell 4
  have k0 : w1.cell? ⟨b, i * 3, none⟩ = some (.int .i64 (o : Int)) := (B1.cell hb).trans f0
  have k1 : w1.cell? ⟨b, i * 3 + 1, none⟩ = some (.int .i64 arg) := (B1.cell hb).trans f1
  have k2 : w1.cell? ⟨b, i * 3 + 2, none⟩ = some (.slice (some ⟨g, 0, none⟩) val.length val.length) := (B1.cell hb).trans f2
  rw [hw1] at t3 t4 k0 k1 k2
  have HPW := hide ((unhide HPC) w1 (hS.below B1))
  have HS1 := hide hs1
  clear HPC S1 hs1
  by_cases hfew : x < tk
  · have fin := hide (show Ic.LbSaid w mb i N l out (.returned (.bool false)) w1 from ⟨_, rfl, Km.of_below B1, (fun e => by cases e), fun _ => (unhide HSF) (by omega) hfew⟩)
    go_enter Tryd.func49, Tryd.ntmps49
    go_wp2_with fail
    rw [← hw1]
    go_ret
    exact unhide fin
  have g1 : decide (x < tk) = false := decide_eq_false hfew
  have HGO := hide ((unhide HSG) (by omega) hfew)
  have wr1 : IntKind.i64.wrap (x - tk) = x - tk := IntWalk.i64_in _ ⟨by omega, by omega⟩
  obtain ⟨h, hh⟩ : ∃ h, h = x - tk + ly := ⟨_, rfl⟩
  have wr2 : IntKind.i64.wrap (x - tk + ly) = h := by rw [hh]; exact IntWalk.i64_in _ ⟨by omega, by omega⟩
  have hh0 : 0 ≤ h := by omega
  have hh1 : h ≤ (i : Int) + 2 := by omega
  rw [← hh] at HGO
  clear hh HSF HSG hfew hxb HTK HLY HLT2
  go_enter Tryd.func49, Tryd.ntmps49
  go_wp2_with fail
  rw [← hw1]
  refine (unhide HPW).mono ?_
  rintro e w2 ⟨v, rfl, hr2, hb2⟩
  have hs1 := unhide HS1
  have L0 : Ic.Lb w w2 mb i l.length N out v PL := ⟨((unhide HM).below B1).below hb2, (unhide HFR).mono (by omega), Km.of_below (B1.trans (hb2.mono B1.size)), by rw [← hs1]; exact hr2, (unhide HM).lt⟩
  obtain ⟨av, cv, rfl⟩ := L0.shape
  have HL0 := hide L0
  have HBD : Hid (∀ j, j < PL.length → ∃ q : Nat, PL.getD j 0 = (q : Int) ∧ i + 1 ≤ q ∧ q ≤ l.length) := fun j hj => by
    have hm : PL.getD j 0 ∈ PL := by rw [List.getD_eq_getElem?_getD, List.getElem?_eq_getElem hj]; exact List.getElem_mem hj
    have := (unhide HPB) _ hm
    exact ⟨(PL.getD j 0).toNat, by omega, by omega, by omega⟩
  clear HPW hr2 hb2 L0 hw1 hs1 HPB t3 t4 k0 k1 k2 B1
  go_wp2_with fail
  go_loopg [40] PL.length (fun gh s40 wq => ∃ (j : Nat) (oo : List Int), Hid (gh = PL.length - j) ∧ s40 = .int .i64 (j : Int) ∧ j ≤ PL.length ∧ Hid (Ic.putAll l.length h (PL.drop j) oo = Ic.step l i out) ∧ Hid (Ic.Lb w wq mb i l.length (N + j) oo (.slice av PL.length cv) PL))
  case atStart => exact ⟨0, out, rfl, rfl, by omega, by rw [List.drop_zero]; exact (unhide HGO).symm, unhide HL0⟩
  case round =>
    obtain ⟨j, oo, hgj, rfl, hj, hpj, HN⟩ := hrel
    clear HL0 HGO
    by_cases hjlt : j < PL.length
    · have hjI : (j : Int) < (PL.length : Int) := by omega
      have hj0 : (0 : Int) ≤ (j : Int) := by omega
      obtain ⟨gn, rfl, hcv, fp⟩ := (unhide HN).at hjlt
      obtain ⟨q, hq, hqi, hqn⟩ := (unhide HBD) j hjlt
      rw [hq] at fp
      have hdrop : PL.drop j = (q : Int) :: PL.drop (j + 1) := by
        rw [List.drop_eq_getElem_cons hjlt, ← hq, List.getD_eq_getElem?_getD, List.getElem?_eq_getElem hjlt]; rfl
      have HPJ := hide (show Ic.putAll l.length h ((q : Int) :: PL.drop (j + 1)) oo = Ic.step l i out by rw [← hdrop]; exact hpj.out)
      clear hpj hdrop hq
      obtain ⟨cc, hlk, hcc⟩ := (unhide HN).mp.look q (by omega)
      have hol := (unhide HN).fr.1
      have hyb := (unhide HN).fr.2 q
      have hqt : ((q : Int)).toNat = q := by omega
      obtain ⟨y, hy⟩ : ∃ y, y = oo.getD q (-1) := ⟨_, rfl⟩
      rw [← hy] at hlk hcc hyb
      have hout : l.length ≤ q → y = -1 := fun hh => by rw [hy, List.getD_eq_getElem?_getD, List.getElem?_eq_none (by omega)]; rfl
      have BAD := hide (fun hb : (l.length : Int) ≤ (q : Int) ∨ (0 ≤ y ∧ y ≠ h) => Ic.putAll_bad (r := PL.drop (j + 1)) (Ic.put_bad (n := l.length) (h := h) (out := oo) (p := (q : Int)) (by rw [hqt, ← hy]; exact hb)))
      have OKP := hide (fun hb : ¬ ((l.length : Int) ≤ (q : Int) ∨ (0 ≤ y ∧ y ≠ h)) => Ic.putAll_go (r := PL.drop (j + 1)) ((Ic.put_ok (n := l.length) (h := h) (out := oo) (p := (q : Int)) (by rw [hqt, ← hy]; exact hb)).trans (by rw [hqt])))
      clear hy
      by_cases hy0 : 0 ≤ y
      · have hc := hcc hqi hy0
        subst hc
        rw [decide_eq_true ⟨hqi, hy0⟩] at hlk
        have hqlt : q < l.length := by
          by_cases h9 : l.length ≤ q
          · have := hout h9; omega
          · omega
        have gq : ((q : Int) == (l.length : Int)) = false := beq_eq_false_iff_ne.2 (by omega)
        by_cases hyh : cc = h
        · have g2 : (cc != h) = false := by simp [hyh]
          obtain ⟨w3, hup, hm3, hk3⟩ := (unhide HN).mp.put q h hqi (by omega) (by omega) (by omega) hh0 (by omega)
          have L3 := hide ((unhide HN).lay q h hm3 hk3 (by omega) hh1)
          have HP3 := hide (((unhide OKP) (by rintro (h1 | h1); omega; exact h1.2 hyh)).symm.trans (unhide HPJ))
          clear hyh HN BAD OKP HPJ hm3 hk3 hcc hout
          go_wp2_with fail
          go_roundg (PL.length - (j + 1))
          case rel => exact ⟨j + 1, _, rfl, by go_num, by omega, unhide HP3, unhide L3⟩
          case measure => have := hgj.out; omega
        · have g2 : (cc != h) = true := by simpa using hyh
          have fin := hide (show Ic.LbSaid w mb i N l out (.returned (.bool false)) wr from ⟨_, rfl, (unhide HN).km, (fun e => by cases e), fun _ => (unhide HPJ).symm.trans ((unhide BAD) (.inr ⟨hy0, hyh⟩))⟩)
          clear hyh HN BAD OKP HPJ hcc hout
          go_wp2_with fail
          go_ret
          exact unhide fin
      · rw [decide_eq_false (show ¬ (i + 1 ≤ q ∧ 0 ≤ y) by omega)] at hlk
        by_cases hqe : q = l.length
        · have gq : ((q : Int) == (l.length : Int)) = true := by simp [hqe]
          have fin := hide (show Ic.LbSaid w mb i N l out (.returned (.bool false)) wr from ⟨_, rfl, (unhide HN).km, (fun e => by cases e), fun _ => (unhide HPJ).symm.trans ((unhide BAD) (.inl (by omega)))⟩)
          clear HN BAD OKP HPJ hcc hout hqe
          go_wp2_with fail
          go_ret
          exact unhide fin
        · have gq : ((q : Int) == (l.length : Int)) = false := beq_eq_false_iff_ne.2 (by omega)
          obtain ⟨w3, hup, hm3, hk3⟩ := (unhide HN).mp.put q h hqi (by omega) (by omega) (by omega) hh0 (by omega)
          have L3 := hide ((unhide HN).lay q h hm3 hk3 (by omega) hh1)
          have HP3 := hide (((unhide OKP) (by rintro (h1 | h1); omega; exact hy0 h1.1)).symm.trans (unhide HPJ))
          clear HN BAD OKP HPJ hm3 hk3 hcc hout hqe
          go_wp2_with fail
          go_roundg (PL.length - (j + 1))
          case rel => exact ⟨j + 1, _, rfl, by go_num, by omega, unhide HP3, unhide L3⟩
          case measure => have := hgj.out; omega
    · have hjI : ¬ (j : Int) < (PL.length : Int) := by omega
      have fin := hide (show Ic.LbSaid w mb i N l out (.returned (.bool true)) wr from by
        have e : PL.drop j = [] := List.drop_eq_nil_of_le (by omega)
        have e2 := hpj.out
        rw [e] at e2
        exact ⟨_, rfl, (unhide HN).km, (fun _ => ⟨oo, e2.symm, (unhide HN).mp.more (by omega)⟩), fun e => by cases e⟩)
      clear hjlt HN hpj
      go_wp2_with fail
      go_ret
      exact unhide fin

end Go.Proofs.YtgjbibkppofjfaaDoor

namespace Go.Proofs.YtgjbibkppofjfaaDoor
open Go.RowKit
set_option linter.unusedVariables false
set_option linter.unusedSimpArgs false


open Go.Maps Go.ChangeMaps
namespace Ic
theorem start_get (n j : Nat) (h1 : 1 ≤ n) : (start n).getD j (-1) = if j = 0 then 1 else -1 := by
  unfold start
  rw [List.getD_eq_getElem?_getD, List.getElem?_set]
  by_cases e : j = 0
  · rw [if_pos e.symm, if_pos e, if_pos (by simp; omega)]; rfl
  · rw [if_neg (fun q => e q.symm), if_neg e, List.getElem?_replicate]
    split <;> rfl
/-- The map as it is made. -/
theorem mp_start (n : Nat) (h1 : 1 ≤ n) (w : World) : ∃ w', (Instr.mapUpdate 65 (.map (some w.heap.size)) (.int .i64 0) (.int .i64 1)).run Tryd.prog (w.alloc (.map #[] 0)) = .ok () w' ∧ Mp w' w.heap.size 0 1 (start n) ∧ Below w.heap.size w w' := by
  have h0 := World.ownsMap_made w Tryd.prog 2 (plainElem (H := Unit) Tryd.prog 2)
  obtain ⟨w', hrun, ho, ht⟩ := h0.update mapK Tryd.underlying65 (by unfold maxLen; omega) (keyOf_int_mk (a := 0) Tryd.underlying2 (by decide)) (plainElem_int Tryd.underlying2 (a := 1) (by decide))
  have hkey : WideAt.IsKeyLit (.int .i64 0) := by first | trivial | exact rfl | simp [WideAt.IsKeyLit]
  have h00 : Lit.int .i64 0 = Lit.int .i64 ((0 : Nat) : Int) := rfl
  refine ⟨w', hrun, ⟨_, ho, isMap_empty.put _ _, fun j => ?_, fun j hj hz z => ?_⟩, ((Below.refl _ _).alloc (Nat.le_refl _) _).grown ht (by simp) (fun q hq => by simp only [Option.some.injEq] at hq; omega)⟩
  · rw [start_get n j h1]
    by_cases e : j = 0
    · subst e
      rw [if_pos rfl]
      exact (has_put_same isMap_empty hkey _).trans (by decide)
    · rw [if_neg e, h00, has_put_other (key_ne e)]
      exact (decide_eq_false (by omega)).symm
  · rw [start_get n j h1] at hz ⊢
    by_cases e : j = 0
    · subst e
      rw [if_pos rfl]
      exact atKey_put_same isMap_empty hkey _ _
    · rw [if_neg e] at hz; omega
/-- What heightsAhead answers. -/
def HaSaid (w : World) (l : List Ic) (e : Ending) (w' : World) : Prop := ∃ (v : Value) (hv : List Int), e = .returned v ∧ w'.ownsRow (w.heap.size + 1) 2 1 v hv.length (hv.map (Value.int .i64)) ∧ Below w.heap.size w w' ∧ (htF l l.length = .inl hv ∧ hv.length = l.length ∨ htF l l.length = .inr hv.length ∧ hv.length < l.length)
/-- What the loop holds. -/
structure Ha (w wr : World) (l : List Ic) (k : Nat) (out : List Int) (v : Value) (hv : List Int) : Prop where
  mp : Mp wr w.heap.size k (1 + 2 * k) out
  ht : htF l k = .inl out
  fr : Fr l.length ((k : Int) + 1) out
  bel : Below w.heap.size w wr
  row : wr.ownsRow (w.heap.size + 1) 2 1 v hv.length (hv.map (Value.int .i64))
  len : hv.length = k
  same : ∀ j, j < k → hv.getD j (-1) = out.getD j (-1)
theorem Ha.shape {w wr : World} {l : List Ic} {k : Nat} {out hv : List Int} {v : Value} (h : Ha w wr l k out v hv) : ∃ (a : Option Addr) (c : Nat), v = .slice a hv.length c := by
  obtain ⟨h0, h1 | ⟨g, c, cur, h2, hg, hh, rest⟩⟩ := h.row
  · exact ⟨none, 0, by rw [h1.1, h1.2]⟩
  · exact ⟨_, _, h2⟩
/-- What lies there when a row of numbers has grown. -/
structure Gr (w wr : World) (l : List Ic) (k : Nat) (out : List Int) (v : Value) (hv : List Int) : Prop where
  mp : Mp wr w.heap.size (k + 1) (1 + 2 * (k + 1)) out
  ht : htF l (k + 1) = .inl out
  fr : Fr l.length ((k : Int) + 2) out
  bel : Below w.heap.size w wr
  row : wr.ownsRow (w.heap.size + 1) 2 1 v hv.length (hv.map (Value.int .i64))
  len : hv.length = k
  same : ∀ j, j < k → hv.getD j (-1) = out.getD j (-1)
theorem Gr.put {w wr w3 : World} {l : List Ic} {k : Nat} {out hv : List Int} {v v' : Value} {ob : Obj} {p : Int} (h : Gr w wr l k out v hv) (hp : p = out.getD k (-1)) (hg : (wr.alloc ob).grownBy w3 v.ownBlock) (ho : w3.ownsRow (w.heap.size + 1) 2 1 v' (hv.length + 1) (hv.map (Value.int .i64) ++ [.int .i64 p])) : Ha w w3 l (k + 1) out v' (hv ++ [p]) := by
  have hlt := h.mp.lt
  have hbase : ∀ k, v.ownBlock = some k → w.heap.size + 1 ≤ k := by
    obtain ⟨_, ⟨h1, _⟩ | ⟨g, c, cur, h2, hg, _⟩⟩ := h.row
    · intro k hk; rw [h1] at hk; simp [Value.ownBlock] at hk
    · intro k hk; rw [h2] at hk; simp only [Value.ownBlock, Option.some.injEq] at hk; omega
  have kp : ∀ k, k ≤ w.heap.size → w3.heap[k]? = wr.heap[k]? := fun k hk => by
    rw [hg.block k (by simp; omega) (fun e => by have := hbase k e.symm; omega)]
    exact Below.heap_alloc _ _ _ (by omega)
  refine ⟨h.mp.keep (kp _ (Nat.le_refl _)), h.ht, h.fr.mono (by omega), ⟨hg.os.trans h.bel.os, hg.tape.trans h.bel.tape, hg.output.trans h.bel.output, by have h1 := hg.size; rw [World.size_alloc] at h1; have := h.bel.size; omega, fun k hk => (kp k (by omega)).trans (h.bel.block k hk)⟩, ?_, by simp [h.len], fun j hj => ?_⟩
  · rw [List.map_append, List.length_append]
    exact ho
  · by_cases e : j = k
    · subst e
      rw [hp, List.getD_eq_getElem?_getD, List.getElem?_append_right (by rw [h.len]; exact Nat.le_refl _), h.len, Nat.sub_self]
      rfl
    · rw [List.getD_eq_getElem?_getD, List.getElem?_append_left (by rw [h.len]; omega), ← List.getD_eq_getElem?_getD]
      exact h.same j (by omega)
theorem putAll_fr {n : Nat} {h B : Int} (h0 : -1 ≤ h) (h1 : h ≤ B) (hB : -1 ≤ B) : ∀ (ps out o : List Int), Fr n B out → putAll n h ps out = some o → Fr n B o := by
  intro ps
  induction ps with
  | nil => intro out o hf e; rw [putAll] at e; injection e with e; subst e; exact hf
  | cons p r ih =>
    intro out o hf e
    rw [putAll] at e
    cases hq : put n h out p with
    | none => rw [hq] at e; cases e
    | some o1 =>
      rw [hq] at e
      have he : o1 = out.set p.toNat h := by
        unfold put at hq
        split at hq
        · cases hq
        · injection hq with hq; exact hq.symm
      subst he
      exact ih _ _ (hf.set _ _ h0 h1 hB) e
/-- Where nothing is laid. -/
theorem Ha.skip {w wr : World} {l : List Ic} {k : Nat} {out hv : List Int} {v : Value} (h : Ha w wr l k out v hv) (hx : out.getD k (-1) < 0) : Gr w wr l k out v hv :=
  ⟨(h.mp.skip hx).more (by omega), ht_next h.ht (step_none hx), h.fr.mono (by omega), h.bel, h.row, h.len, h.same⟩
/-- Behind an instruction whose heights could be laid. -/
theorem Ha.step {w wr w2 w3 : World} {l : List Ic} {k : Nat} {out o hv : List Int} {v : Value} {rg : Int} (h : Ha w wr l k out v hv) (hone : oneF (l.getD k zero) k l.length rg = 0) (h0 : 0 ≤ out.getD k (-1)) (hs : step l k out = some o) (hk2 : Km wr.heap.size w.heap.size wr w2) (hk3 : Km w2.heap.size w.heap.size w2 w3) (hm : Mp w3 w.heap.size (k + 1) (1 + 2 * k + 2) o) : Gr w w3 l k o v hv ∧ o.getD k (-1) = out.getD k (-1) := by
  have hkk : Km wr.heap.size w.heap.size wr w3 := hk2.trans (hk3.mono hk2.size)
  have hgo : putAll l.length (out.getD k (-1) - takes (l.getD k zero).op + lays (l.getD k zero).op) (places (l.getD k zero) k) out = some o := by
    by_cases hf : out.getD k (-1) < takes (l.getD k zero).op
    · rw [step_few (by omega) hf] at hs; cases hs
    · rw [step_go (by omega) hf] at hs; exact hs
  have hkeep := putAll_keep (k := k) _ _ _ (fun p hp => by have := places_bd hone p hp; omega) hgo
  have hfr : Fr l.length ((k : Int) + 2) o := by
    have hb1 := h.fr.2 k
    have hlt := lays_takes (l.getD k zero).op
    have hf : ¬ out.getD k (-1) < takes (l.getD k zero).op := fun hf => by rw [step_few (by omega) hf] at hs; cases hs
    have hly := lays_bd (l.getD k zero).op
    exact putAll_fr (by omega) (by omega) (by omega) _ _ _ (h.fr.mono (by omega)) hgo
  refine ⟨⟨hm.more (by omega), ht_next h.ht hs, hfr, h.bel.trans (hkk.below h.bel.size (Nat.le_refl _)), ?_, h.len, fun j hj => (h.same j hj).trans (hkeep.2 j (by omega)).symm⟩, hkeep.2 k (Nat.le_refl _)⟩
  obtain ⟨r0, r1 | ⟨g, c, cur, r2, hg, hh, rest⟩⟩ := h.row
  · exact ⟨r0, .inl r1⟩
  · exact ⟨r0, .inr ⟨g, c, cur, r2, hg, (hkk.block g (Array.getElem?_eq_some_iff.1 hh).1 (by omega)).trans hh, rest⟩⟩
end Ic

set_option maxRecDepth 100000 in
set_option maxHeartbeats 8000000 in
theorem heightsAhead_any (b : Nat) (l : List Ic) (rg : Int) (w : World) (hrow : Ic.Row w b l) (hb : b < w.heap.size) (h1 : 1 ≤ l.length) (hn : l.length ≤ 6000) (hall : ∀ j, j < l.length → Ic.oneF (l.getD j Ic.zero) j l.length rg = 0) (hS : Shp w) :
    Calls Tryd.prog 32 #[.slice (some ⟨b, 0, none⟩) l.length l.length] w (Ic.HaSaid w l) := by
  obtain ⟨i0, hi0, hz0, hz1, hz2⟩ := info_parts Tryd.info2
  obtain ⟨w1, hr1, hm1, hb1⟩ := Ic.mp_start l.length h1 w
  have HR := hide hrow
  have HA := hide hall
  have HS := hide hS
  have H0 := hide (show Ic.Ha w w1 l 0 (Ic.start l.length) (.slice none 0 0) [] from ⟨hm1, rfl, Ic.start_fr _, hb1, World.ownsRow_nil _ _ _ _, rfl, fun j hj => absurd hj (by omega)⟩)
  clear hrow hall hS hm1 hb1
  have hmm := @run_makeMap Tryd.prog
  go_enter Tryd.func32, Tryd.ntmps32
  go_wp2_with fail
  clear hr1 hmm
  go_loopg [3, 12] l.length (fun gh s3 s12 wr => ∃ (k : Nat) (out hv : List Int), Hid (gh = l.length - k) ∧ s12 = .int .i64 (k : Int) ∧ k ≤ l.length ∧ Hid (Ic.Ha w wr l k out s3 hv))
  case atStart => exact ⟨0, _, [], rfl, rfl, by omega, unhide H0⟩
  case round =>
    obtain ⟨k, out, hv, hg, rfl, hk, HL⟩ := hrel
    clear H0
    obtain ⟨av, cv, rfl⟩ := (unhide HL).shape
    have hvl : hv.length ≤ 6000 := by have := (unhide HL).len; omega
    by_cases hlt : k < l.length
    · have hltI : (k : Int) < (l.length : Int) := by omega
      obtain ⟨cc, hlk, hcc⟩ := (unhide HL).mp.look k (by omega)
      have hxb := (unhide HL).fr.2 k
      by_cases hx : 0 ≤ out.getD k (-1)
      · have hc := hcc (Nat.le_refl _) hx
        rw [decide_eq_true ⟨Nat.le_refl _, hx⟩, hc] at hlk
        obtain ⟨w2, hdel, hm2, hk2⟩ := (unhide HL).mp.del (by omega) 0
        have bel2 : Below w.heap.size w w2 := (unhide HL).bel.trans (hk2.below (unhide HL).bel.size (Nat.le_refl _))
        have HB := hide (layBehind_any w.heap.size b l k (1 + 2 * k) rg out w2 ((unhide HR).below bel2 hb) (Nat.lt_of_lt_of_le hb bel2.size) hlt hn ((unhide HA) k hlt) ((unhide HS).below bel2) hm2 (unhide HL).fr hx (by omega))
        have HST := hide (fun w3 o hs hk3 hm => (unhide HL).step (w2 := w2) (w3 := w3) (o := o) ((unhide HA) k hlt) hx hs hk2 hk3 hm)
        have HLX := hide hx
        obtain ⟨x, hxe⟩ : ∃ x, x = out.getD k (-1) := ⟨_, rfl⟩
        rw [← hxe] at hlk HB
        have HXE := hide hxe
        have HBL := hide (fun w3 (hk3 : Km w2.heap.size w.heap.size w2 w3) => bel2.trans (hk3.below bel2.size (Nat.le_refl _)))
        have HRK := hide (fun w3 (hk3 : Km w2.heap.size w.heap.size w2 w3) => show w3.ownsRow (w.heap.size + 1) 2 1 (.slice av hv.length cv) hv.length (hv.map (Value.int .i64)) from by
          have hkk : Km wr.heap.size w.heap.size wr w3 := hk2.trans (hk3.mono hk2.size)
          obtain ⟨r0, r1 | ⟨g, c, cur, r2, hg, hh, rest⟩⟩ := (unhide HL).row
          · exact ⟨r0, .inl r1⟩
          · exact ⟨r0, .inr ⟨g, c, cur, r2, hg, (hkk.block g (Array.getElem?_eq_some_iff.1 hh).1 (by omega)).trans hh, rest⟩⟩)
        have HLE := hide (unhide HL).len
        have HHT := hide (fun hs => Ic.ht_bad (unhide HL).ht hs hlt)
        clear hc hcc hxe hx hxb hm2 hk2 bel2 HL
        go_wp2_with fail
        refine (unhide HB).mono ?_
        rintro e w3 ⟨r, rfl, hk3, hyes, hno⟩
        cases r with
        | false =>
          have fin := hide (show Ic.HaSaid w l (.returned (.slice av hv.length cv)) w3 from ⟨_, hv, rfl, (unhide HRK) w3 hk3, (unhide HBL) w3 hk3, .inr ⟨by rw [unhide HLE]; exact (unhide HHT) (hno rfl), by have := unhide HLE; omega⟩⟩)
          clear hk3 hyes hno HB
          go_wp2_with fail
          go_ret
          exact unhide fin
        | true =>
          obtain ⟨o, hs, hm3⟩ := hyes rfl
          obtain ⟨G3', hke⟩ := (unhide HST) w3 o hs hk3 hm3
          have G3 := hide G3'
          have HKE := hide (show x = o.getD k (-1) by rw [hke]; exact unhide HXE)
          clear hk3 hyes hno HB hs hm3 G3' hke HST HRK HHT
          have hown' := hide (fun ob => World.ownsRow.alloc (unhide G3).row ob)
          have hone9 := hide (one_word w3 (x))
          have honep := hide (one_plain (x))
          have hbase : w.heap.size + 1 ≤ w3.heap.size := by have := (unhide G3).mp.lt; omega
          have HP := hide (fun (W : World) v' ob hg ho => (unhide G3).put (v' := v') (w3 := W) (ob := ob) (p := x) (unhide HKE) hg ho)
          have hb63 : hv.length + 1 ≤ maxLen := by unfold maxLen; omega
          have hby : (hv.length + 1) * 8 ≤ 140737488355328 := by omega
          clear G3
          go_wp2_with (at_builtin; refine wpList_append_own _ rfl (.tmp 34) (.tmp 36) 38 rfl (w.heap.size + 1) 2 i0 (.int .i64 0) 1 8 Tryd.underlying38 hi0 hz0 hz1 hz2 rfl (by decide) _ hv.length _ rfl ((unhide hown') _) ⟨w3.heap.size, 0, none⟩ 1 1 [.int .i64 (x)] rfl rfl (unhide hone9) (unhide honep) hb63 hby (by simp; omega) ?_)
          intro v7 w7 ho7 hg7 _
          have H7 := hide ((unhide HP) w7 v7 _ hg7 ho7)
          clear ho7 hg7 HP hown' hone9 honep
          go_wp2_with fail
          go_roundg (l.length - (k + 1))
          case rel => exact ⟨k + 1, _, _, rfl, by go_num, by omega, unhide H7⟩
          case measure => have := hg.out; omega
      · have hxm : out.getD k (-1) = -1 := by omega
        rw [decide_eq_false (show ¬ (k ≤ k ∧ 0 ≤ out.getD k (-1)) by omega)] at hlk
        have G3 := hide ((unhide HL).skip (by omega))
        have HXM := hide hxm.symm
        clear hxm hx hxb hcc HL
        have hown' := hide (fun ob => World.ownsRow.alloc (unhide G3).row ob)
        have hone9 := hide (one_word wr (-1))
        have honep := hide (one_plain (-1))
        have hbase : w.heap.size + 1 ≤ wr.heap.size := by have := (unhide G3).mp.lt; omega
        have HP := hide (fun (W : World) v' ob hg ho => (unhide G3).put (v' := v') (w3 := W) (ob := ob) (p := -1) (unhide HXM) hg ho)
        have hb63 : hv.length + 1 ≤ maxLen := by unfold maxLen; omega
        have hby : (hv.length + 1) * 8 ≤ 140737488355328 := by omega
        clear G3
        go_wp2_with (at_builtin; refine wpList_append_own _ rfl (.tmp 23) (.tmp 24) 38 rfl (w.heap.size + 1) 2 i0 (.int .i64 0) 1 8 Tryd.underlying38 hi0 hz0 hz1 hz2 rfl (by decide) _ hv.length _ rfl ((unhide hown') _) ⟨wr.heap.size, 0, none⟩ 1 1 [.int .i64 (-1)] rfl rfl (unhide hone9) (unhide honep) hb63 hby (by simp; omega) ?_)
        intro v7 w7 ho7 hg7 _
        have H7 := hide ((unhide HP) w7 v7 _ hg7 ho7)
        clear ho7 hg7 HP hown' hone9 honep
        go_wp2_with fail
        go_roundg (l.length - (k + 1))
        case rel => exact ⟨k + 1, _, _, rfl, by go_num, by omega, unhide H7⟩
        case measure => have := hg.out; omega
    · have hltI : ¬ (k : Int) < (l.length : Int) := by omega
      have hke : k = l.length := by omega
      have fin := hide (show Ic.HaSaid w l (.returned (.slice av hv.length cv)) wr from by
        have hl := (unhide HL).len
        have he : hv = out := by
          refine List.ext_getElem (by rw [hl, (unhide HL).fr.1]; exact hke) fun j h1 h2 => ?_
          have := (unhide HL).same j (by omega)
          rw [List.getD_eq_getElem?_getD, List.getElem?_eq_getElem h1, List.getD_eq_getElem?_getD, List.getElem?_eq_getElem h2] at this
          simpa using this
        refine ⟨_, hv, rfl, (unhide HL).row, (unhide HL).bel, .inl ⟨?_, by omega⟩⟩
        have := (unhide HL).ht
        rw [hke] at this
        rw [he]; exact this)
      clear HL hke
      go_wp2_with fail
      go_ret
      exact unhide fin

end Go.Proofs.YtgjbibkppofjfaaDoor

namespace Go.Proofs.YtgjbibkppofjfaaDoor
open Go.RowKit
set_option linter.unusedVariables false
set_option linter.unusedSimpArgs false


namespace Ic
/-- What CodeFault answers. -/
def CfSaid (w : World) (l : List Ic) (rg : Int) (e : Ending) (w' : World) : Prop := e = .returned (.agg #[.int .i64 (fault l rg).1, .int .i64 (fault l rg).2, .slice none 0 0, .int .i64 0]) ∧ Below w.heap.size w w'
theorem cf_of {w w' : World} {l : List Ic} {rg c a : Int} (h : fault l rg = (c, a)) (hb : Below w.heap.size w w') : CfSaid w l rg (.returned (.agg #[.int .i64 c, .int .i64 a, .slice none 0 0, .int .i64 0])) w' := ⟨by rw [h], hb⟩
theorem sets4 {B : Nat} {w w' : World} (h : Below B w w') (x0 x1 x2 x3 : Value) : Below B w ((((w'.setCell ⟨B, 0, none⟩ x0).setCell ⟨B, 1, none⟩ x1).setCell ⟨B, 2, none⟩ x2).setCell ⟨B, 3, none⟩ x3) := (((h.setCell (Nat.le_refl _) _).setCell (Nat.le_refl _) _).setCell (Nat.le_refl _) _).setCell (Nat.le_refl _) _
theorem mem_at (l : List Ic) (k : Nat) (hk : k < l.length) : l.getD k zero ∈ l := by
  rw [List.getD_eq_getElem?_getD, List.getElem?_eq_getElem hk]; exact List.getElem_mem hk
end Ic

set_option maxRecDepth 100000 in
set_option maxHeartbeats 4000000 in
theorem specCode_any (b : Nat) (l : List Ic) (rg : Int) (w : World) (hrow : Ic.Row w b l) (hb : b < w.heap.size) (hsz : ∀ i, i < l.length → (l.getD i Ic.zero).val.length ≤ 1048576) (hok : ∀ c ∈ l, c.ok) (hn : l.length ≤ 1048576) :
    Calls Tryd.prog 14 #[.slice (some ⟨b, 0, none⟩) l.length l.length, .int .i64 rg] w (Ic.CfSaid w l rg) := by
  obtain ⟨w0, hw0⟩ : ∃ w0, w0 = w.alloc (.cells #[.int .i64 0, .int .i64 0, .slice none 0 0, .int .i64 0] 26) := ⟨_, rfl⟩
  have B0 : Below w.heap.size w w0 := by rw [hw0]; exact (Below.refl _ _).alloc (Nat.le_refl _) _
  have O0 : Own w0 w.heap.size 26 [.int .i64 0, .int .i64 0, .slice none 0 0, .int .i64 0] := by rw [hw0]; exact ⟨_, heap_alloc_new _ _, rfl⟩
  have HR := hide hrow
  have HZ := hide hsz
  have HK := hide hok
  clear hrow hsz hok
  by_cases hrg : rg < 0 ∨ 1000 < rg
  · have fin := hide (Ic.fault_regs (l := l) hrg)
    go_enter Tryd.func14, Tryd.ntmps14
    go_wp2_with fail
    refine (l1In_no _ _ _ _ hrg).mono ?_
    rintro e w2 ⟨rfl, hw2⟩
    rw [hw2]
    clear hw2
    go_wp2_with fail
    refine bodyPost_ret (v := .agg #[.int .i64 3, .int .i64 0, .slice none 0 0, .int .i64 0]) (by simp [results, Tryd.results14, go_sem]; try rfl) rfl (Ic.cf_of (unhide fin) ?_)
    repeat (first | exact Below.refl _ _ | refine Below.setCell ?_ (Nat.le_refl _) _ | refine Below.alloc ?_ (by simp <;> omega) _)
  by_cases hm : l.length < 1 ∨ 6000 < l.length
  · have fin := hide (Ic.fault_many (rg := rg) hrg hm)
    rcases hm with hm | hm
    · have h0 : l.length = 0 := by omega
      rw [h0]
      clear h0 hm
      go_enter Tryd.func14, Tryd.ntmps14
      go_wp2_with fail
      refine (l1In_yes _ _ _ _ (by omega) (by omega)).mono ?_
      rintro e w2 ⟨rfl, hw2⟩
      rw [hw2]
      clear hw2
      go_wp2_with fail
      refine bodyPost_ret (v := .agg #[.int .i64 2, .int .i64 0, .slice none 0 0, .int .i64 0]) (by simp [results, Tryd.results14, go_sem]; try rfl) rfl (Ic.cf_of (unhide fin) ?_)
      repeat (first | exact Below.refl _ _ | refine Below.setCell ?_ (Nat.le_refl _) _ | refine Below.alloc ?_ (by simp <;> omega) _)
    · have e1 : decide ((l.length : Int) < 1) = false := decide_eq_false (by omega)
      have e2 : (l.length : Int) > 6000 := by omega
      clear hm
      go_enter Tryd.func14, Tryd.ntmps14
      go_wp2_with fail
      refine (l1In_yes _ _ _ _ (by omega) (by omega)).mono ?_
      rintro e w2 ⟨rfl, hw2⟩
      rw [hw2]
      clear hw2
      go_wp2_with fail
      refine bodyPost_ret (v := .agg #[.int .i64 2, .int .i64 0, .slice none 0 0, .int .i64 0]) (by simp [results, Tryd.results14, go_sem]; try rfl) rfl (Ic.cf_of (unhide fin) ?_)
      repeat (first | exact Below.refl _ _ | refine Below.setCell ?_ (Nat.le_refl _) _ | refine Below.alloc ?_ (by simp <;> omega) _)
  have e1 : decide ((l.length : Int) < 1) = false := decide_eq_false (by omega)
  have e2 : decide ((l.length : Int) > 6000) = false := decide_eq_false (by omega)
  have h6 : l.length ≤ 6000 := by omega
  have h1 : 1 ≤ l.length := by omega
  have hr0 : 0 ≤ rg := by omega
  have hr1 : rg ≤ 1000 := by omega
  have HRG := hide hrg
  have HM := hide hm
  clear hrg hm
  go_enter Tryd.func14, Tryd.ntmps14
  go_wp2_with fail
  refine (l1In_yes _ _ _ _ (by omega) (by omega)).mono ?_
  rintro e w2 ⟨rfl, hw2⟩
  rw [hw2]
  clear hw2
  go_wp2_with fail
  rw [← hw0]
  clear hw0
  go_loopg [5] l.length (fun gh s5 wr => ∃ k : Nat, Hid (gh = l.length - k) ∧ s5 = .int .i64 (k : Int) ∧ k ≤ l.length ∧ Hid (∀ j, j < k → Ic.oneF (l.getD j Ic.zero) j l.length rg = 0) ∧ Hid (Below w0.heap.size w0 wr))
  case atStart => exact ⟨0, rfl, rfl, by omega, fun j hj => absurd hj (by omega), Below.refl _ _⟩
  case round =>
    obtain ⟨k, hg, rfl, hk, hall, hbel0⟩ := hrel
    have hbw : Below w.heap.size w wr := B0.trans (hbel0.out.mono B0.size)
    have Or := O0.below hbel0.out O0.lt
    by_cases hlt : k < l.length
    · have hltI : (k : Int) < (l.length : Int) := by omega
      have HC := hide (l8One_any b l k rg (l.getD k Ic.zero) wr ((unhide HR).below hbw hb) (Nat.lt_of_lt_of_le hb hbw.size) hlt h6 hr0 hr1 rfl ((unhide HZ) k hlt) ((unhide HK) _ (Ic.mem_at l k hlt)).2.2)
      have hstop := hide (fun h => Ic.fault_one (unhide HRG) (unhide HM) hlt hall.out h)
      have hnext := hide (fun h : Ic.oneF (l.getD k Ic.zero) k l.length rg = 0 => show ∀ j, j < k + 1 → Ic.oneF (l.getD j Ic.zero) j l.length rg = 0 from fun j hj => by
        by_cases e : j = k
        · subst e; exact h
        · exact hall.out j (by omega))
      generalize Ic.oneF (l.getD k Ic.zero) k l.length rg = c at HC hstop hnext
      clear hlt hall
      go_wp2_with fail
      refine (unhide HC).mono ?_
      rintro e w2 ⟨rfl, hb2⟩
      have B2 : Below w0.heap.size w0 w2 := hbel0.out.trans (hb2.mono hbel0.out.size)
      have BW2 : Below w.heap.size w w2 := B0.trans (B2.mono B0.size)
      have O2 := O0.below B2 O0.lt
      clear HC hb2
      by_cases hc : c = 0
      · have hn2 := hide ((unhide hnext) hc)
        have g1 : (c != 0) = false := by simp [hc]
        clear hc hnext hstop Or hbw hbel0
        go_wp2_with fail
        go_roundg (l.length - (k + 1))
        case rel => exact ⟨k + 1, rfl, by go_num, by omega, unhide hn2, B2⟩
        case measure => have := hg.out; omega
      · have fin := hide ((unhide hstop) hc)
        have g1 : (c != 0) = true := by simpa using hc
        have c0 := O2.cell 0
        have z0 := O2.frozen 0
        have c1 := O2.cell 1
        have z1 := O2.frozen 1
        have c2 := O2.cell 2
        have z2 := O2.frozen 2
        have c3 := O2.cell 3
        have z3 := O2.frozen 3
        simp only [List.getElem?_cons_zero, List.getElem?_cons_succ] at c0 c1 c2 c3
        clear hc hnext hstop Or hbw hbel0 O2
        go_wp2_with fail
        refine bodyPost_ret (v := .agg #[.int .i64 c, .int .i64 (k : Int), .slice none 0 0, .int .i64 0]) (by simp [results, Tryd.results14, go_sem, c0, c1, c2, c3]; try rfl) rfl (Ic.cf_of (unhide fin) (Ic.sets4 BW2 _ _ _ _))
    · have hltI : ¬ (k : Int) < (l.length : Int) := by omega
      have hke : k = l.length := by omega
      subst hke
      have HALL := hide hall.out
      have HT := hide (l8Heights_any b l rg wr ((unhide HR).below hbw hb) (Nat.lt_of_lt_of_le hb hbw.size) h1 h6 hall.out)
      clear hall hlt
      go_wp2_with fail
      refine (unhide HT).mono ?_
      rintro e w2 ⟨x, rfl, hb2, hx⟩
      have B2 : Below w0.heap.size w0 w2 := hbel0.out.trans (hb2.mono hbel0.out.size)
      have BW2 : Below w.heap.size w w2 := B0.trans (B2.mono B0.size)
      have O2 := O0.below B2 O0.lt
      have c0 := O2.cell 0
      have z0 := O2.frozen 0
      have c1 := O2.cell 1
      have z1 := O2.frozen 1
      have c2 := O2.cell 2
      have z2 := O2.frozen 2
      have c3 := O2.cell 3
      have z3 := O2.frozen 3
      simp only [List.getElem?_cons_zero, List.getElem?_cons_succ] at c0 c1 c2 c3
      clear HT hb2 Or hbw hbel0 B2 O2
      rcases hx with ⟨o, ho, rfl, _, _⟩ | ⟨q, hq, rfl, _⟩
      · have fin := hide (Ic.fault_ok (unhide HRG) (unhide HM) (unhide HALL) ho)
        clear ho
        go_wp2_with fail
        refine bodyPost_ret (v := .agg #[.int .i64 0, .int .i64 0, .slice none 0 0, .int .i64 0]) (by simp [results, Tryd.results14, go_sem, c0, c1, c2, c3]; try rfl) rfl (Ic.cf_of (unhide fin) (Ic.sets4 BW2 _ _ _ _))
      · have fin := hide (Ic.fault_code (unhide HRG) (unhide HM) (unhide HALL) hq)
        have hq0 : (0 : Int) ≤ (q : Int) := by omega
        clear hq
        go_wp2_with fail
        refine bodyPost_ret (v := .agg #[.int .i64 9, .int .i64 (q : Int), .slice none 0 0, .int .i64 0]) (by simp [results, Tryd.results14, go_sem, c0, c1, c2, c3]; try rfl) rfl (Ic.cf_of (unhide fin) (Ic.sets4 BW2 _ _ _ _))

set_option maxRecDepth 100000 in
set_option maxHeartbeats 4000000 in
theorem implCode_any (b : Nat) (l : List Ic) (rg : Int) (w : World) (hrow : Ic.Row w b l) (hb : b < w.heap.size) (hsz : ∀ i, i < l.length → (l.getD i Ic.zero).val.length ≤ 1048576) (hok : ∀ c ∈ l, c.ok) (hn : l.length ≤ 1048576) (hS : Shp w) :
    Calls Tryd.prog 18 #[.slice (some ⟨b, 0, none⟩) l.length l.length, .int .i64 rg] w (Ic.CfSaid w l rg) := by
  obtain ⟨w0, hw0⟩ : ∃ w0, w0 = w.alloc (.cells #[.int .i64 0, .int .i64 0, .slice none 0 0, .int .i64 0] 26) := ⟨_, rfl⟩
  have B0 : Below w.heap.size w w0 := by rw [hw0]; exact (Below.refl _ _).alloc (Nat.le_refl _) _
  have O0 : Own w0 w.heap.size 26 [.int .i64 0, .int .i64 0, .slice none 0 0, .int .i64 0] := by rw [hw0]; exact ⟨_, heap_alloc_new _ _, rfl⟩
  have HR := hide hrow
  have HZ := hide hsz
  have HK := hide hok
  have HS := hide hS
  clear hrow hsz hok hS
  by_cases hrg : rg < 0 ∨ 1000 < rg
  · have fin := hide (Ic.fault_regs (l := l) hrg)
    by_cases h1 : rg < 0
    · have d1 : decide (rg < 0) = true := decide_eq_true h1
      clear hrg h1
      go_enter Tryd.func18, Tryd.ntmps18
      go_wp2_with fail
      refine bodyPost_ret (v := .agg #[.int .i64 3, .int .i64 0, .slice none 0 0, .int .i64 0]) (by simp [results, Tryd.results18, go_sem]; try rfl) rfl (Ic.cf_of (unhide fin) ?_)
      repeat (first | exact Below.refl _ _ | refine Below.setCell ?_ (Nat.le_refl _) _ | refine Below.alloc ?_ (by simp <;> omega) _)
    · have d1 : decide (rg < 0) = false := decide_eq_false h1
      have d2 : rg > 1000 := by omega
      clear hrg h1
      go_enter Tryd.func18, Tryd.ntmps18
      go_wp2_with fail
      refine bodyPost_ret (v := .agg #[.int .i64 3, .int .i64 0, .slice none 0 0, .int .i64 0]) (by simp [results, Tryd.results18, go_sem]; try rfl) rfl (Ic.cf_of (unhide fin) ?_)
      repeat (first | exact Below.refl _ _ | refine Below.setCell ?_ (Nat.le_refl _) _ | refine Below.alloc ?_ (by simp <;> omega) _)
  have d1 : decide (rg < 0) = false := decide_eq_false (by omega)
  have d2 : decide (rg > 1000) = false := decide_eq_false (by omega)
  by_cases hm : l.length < 1 ∨ 6000 < l.length
  · have fin := hide (Ic.fault_many (rg := rg) hrg hm)
    rcases hm with hm | hm
    · have h0 : l.length = 0 := by omega
      rw [h0]
      clear h0 hm
      go_enter Tryd.func18, Tryd.ntmps18
      go_wp2_with fail
      refine bodyPost_ret (v := .agg #[.int .i64 2, .int .i64 0, .slice none 0 0, .int .i64 0]) (by simp [results, Tryd.results18, go_sem]; try rfl) rfl (Ic.cf_of (unhide fin) ?_)
      repeat (first | exact Below.refl _ _ | refine Below.setCell ?_ (Nat.le_refl _) _ | refine Below.alloc ?_ (by simp <;> omega) _)
    · have e1 : ((l.length : Int) == 0) = false := beq_eq_false_iff_ne.2 (by omega)
      have e2 : (l.length : Int) > 6000 := by omega
      clear hm
      go_enter Tryd.func18, Tryd.ntmps18
      go_wp2_with fail
      refine bodyPost_ret (v := .agg #[.int .i64 2, .int .i64 0, .slice none 0 0, .int .i64 0]) (by simp [results, Tryd.results18, go_sem]; try rfl) rfl (Ic.cf_of (unhide fin) ?_)
      repeat (first | exact Below.refl _ _ | refine Below.setCell ?_ (Nat.le_refl _) _ | refine Below.alloc ?_ (by simp <;> omega) _)
  have e1 : ((l.length : Int) == 0) = false := beq_eq_false_iff_ne.2 (by omega)
  have e2 : decide ((l.length : Int) > 6000) = false := decide_eq_false (by omega)
  have h6 : l.length ≤ 6000 := by omega
  have h1 : 1 ≤ l.length := by omega
  have hr0 : 0 ≤ rg := by omega
  have hr1 : rg ≤ 1000 := by omega
  have HRG := hide hrg
  have HM := hide hm
  clear hrg hm
  go_enter Tryd.func18, Tryd.ntmps18
  go_wp2_with fail
  rw [← hw0]
  clear hw0
  go_loopg [26] l.length (fun gh s26 wr => ∃ k : Nat, Hid (gh = l.length - k) ∧ s26 = .int .i64 (k : Int) ∧ k ≤ l.length ∧ Hid (∀ j, j < k → Ic.oneF (l.getD j Ic.zero) j l.length rg = 0) ∧ Hid (Below w0.heap.size w0 wr))
  case atStart => exact ⟨0, rfl, rfl, by omega, fun j hj => absurd hj (by omega), Below.refl _ _⟩
  case round =>
    obtain ⟨k, hg, rfl, hk, hall, hbel0⟩ := hrel
    have hbw : Below w.heap.size w wr := B0.trans (hbel0.out.mono B0.size)
    have Or := O0.below hbel0.out O0.lt
    by_cases hlt : k < l.length
    · have hltI : (k : Int) < (l.length : Int) := by omega
      have HC := hide (inFault_any b l k rg (l.getD k Ic.zero) wr ((unhide HR).below hbw hb) (Nat.lt_of_lt_of_le hb hbw.size) hlt h6 hr0 hr1 rfl ((unhide HZ) k hlt) ((unhide HK) _ (Ic.mem_at l k hlt)).2.2 ((unhide HS).below hbw))
      have hstop := hide (fun h => Ic.fault_one (unhide HRG) (unhide HM) hlt hall.out h)
      have hnext := hide (fun h : Ic.oneF (l.getD k Ic.zero) k l.length rg = 0 => show ∀ j, j < k + 1 → Ic.oneF (l.getD j Ic.zero) j l.length rg = 0 from fun j hj => by
        by_cases e : j = k
        · subst e; exact h
        · exact hall.out j (by omega))
      generalize Ic.oneF (l.getD k Ic.zero) k l.length rg = c at HC hstop hnext
      clear hlt hall
      go_wp2_with fail
      refine (unhide HC).mono ?_
      rintro e w2 ⟨rfl, hb2⟩
      have B2 : Below w0.heap.size w0 w2 := hbel0.out.trans (hb2.mono hbel0.out.size)
      have BW2 : Below w.heap.size w w2 := B0.trans (B2.mono B0.size)
      have O2 := O0.below B2 O0.lt
      clear HC hb2
      by_cases hc : c = 0
      · have hn2 := hide ((unhide hnext) hc)
        have g1 : (c != 0) = false := by simp [hc]
        clear hc hnext hstop Or hbw hbel0
        go_wp2_with fail
        go_roundg (l.length - (k + 1))
        case rel => exact ⟨k + 1, rfl, by go_num, by omega, unhide hn2, B2⟩
        case measure => have := hg.out; omega
      · have fin := hide ((unhide hstop) hc)
        have g1 : (c != 0) = true := by simpa using hc
        have c0 := O2.cell 0
        have z0 := O2.frozen 0
        have c1 := O2.cell 1
        have z1 := O2.frozen 1
        have c2 := O2.cell 2
        have z2 := O2.frozen 2
        have c3 := O2.cell 3
        have z3 := O2.frozen 3
        simp only [List.getElem?_cons_zero, List.getElem?_cons_succ] at c0 c1 c2 c3
        clear hc hnext hstop Or hbw hbel0 O2
        go_wp2_with fail
        refine bodyPost_ret (v := .agg #[.int .i64 c, .int .i64 (k : Int), .slice none 0 0, .int .i64 0]) (by simp [results, Tryd.results18, go_sem, c0, c1, c2, c3]; try rfl) rfl (Ic.cf_of (unhide fin) (Ic.sets4 BW2 _ _ _ _))
    · have hltI : ¬ (k : Int) < (l.length : Int) := by omega
      have hke : k = l.length := by omega
      subst hke
      have HALL := hide hall.out
      have HT := hide (heightsAhead_any b l rg wr ((unhide HR).below hbw hb) (Nat.lt_of_lt_of_le hb hbw.size) h1 h6 hall.out ((unhide HS).below hbw))
      clear hall hlt
      go_wp2_with fail
      refine (unhide HT).mono ?_
      rintro e w2 ⟨v, hv, rfl, hrw, hb2, hx⟩
      have B2 : Below w0.heap.size w0 w2 := hbel0.out.trans (hb2.mono hbel0.out.size)
      have BW2 : Below w.heap.size w w2 := B0.trans (B2.mono B0.size)
      have O2 := O0.below B2 O0.lt
      have c0 := O2.cell 0
      have z0 := O2.frozen 0
      have c1 := O2.cell 1
      have z1 := O2.frozen 1
      have c2 := O2.cell 2
      have z2 := O2.frozen 2
      have c3 := O2.cell 3
      have z3 := O2.frozen 3
      simp only [List.getElem?_cons_zero, List.getElem?_cons_succ] at c0 c1 c2 c3
      obtain ⟨av, cv, rfl⟩ : ∃ (a : Option Addr) (c : Nat), v = .slice a hv.length c := by
        obtain ⟨h0, h1 | ⟨g, c, cur, h2, hg, hh, rest⟩⟩ := hrw
        · exact ⟨none, 0, by rw [h1.1, h1.2]⟩
        · exact ⟨_, _, h2⟩
      clear HT hb2 Or hbw hbel0 B2 O2 hrw
      rcases hx with ⟨ho, hl⟩ | ⟨hq, hl⟩
      · have fin := hide (Ic.fault_ok (unhide HRG) (unhide HM) (unhide HALL) ho)
        have g1 : ¬ (hv.length : Int) < (l.length : Int) := by omega
        clear ho hl
        go_wp2_with fail
        refine bodyPost_ret (v := .agg #[.int .i64 0, .int .i64 0, .slice none 0 0, .int .i64 0]) (by simp [results, Tryd.results18, go_sem, c0, c1, c2, c3]; try rfl) rfl (Ic.cf_of (unhide fin) (Ic.sets4 BW2 _ _ _ _))
      · have fin := hide (Ic.fault_code (unhide HRG) (unhide HM) (unhide HALL) hq)
        have g1 : (hv.length : Int) < (l.length : Int) := by omega
        clear hq hl
        go_wp2_with fail
        refine bodyPost_ret (v := .agg #[.int .i64 9, .int .i64 (hv.length : Int), .slice none 0 0, .int .i64 0]) (by simp [results, Tryd.results18, go_sem, c0, c1, c2, c3]; try rfl) rfl (Ic.cf_of (unhide fin) (Ic.sets4 BW2 _ _ _ _))

end Go.Proofs.YtgjbibkppofjfaaDoor
