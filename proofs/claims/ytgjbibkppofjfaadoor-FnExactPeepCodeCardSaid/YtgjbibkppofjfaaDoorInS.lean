/-
  spec: what instructions are, take and lay; the fault of one.
-/
import Derived.Test.YtgjbibkppofjfaaDoorInL
import Derived.Test.YtgjbibkppofjfaaDoorFaultI
import Derived.Test.YtgjbibkppofjfaaDoorCellB
import Derived.Test.YtgjbibkppofjfaaDoorKids
namespace Go.Proofs.YtgjbibkppofjfaaDoor
open Go.RowKit
set_option linter.unusedVariables false
set_option linter.unusedSimpArgs false


theorem ne_beq {a b : Int} (h : a ≠ b) : (a == b) = false := beq_eq_false_iff_ne.2 h
theorem ret_three {a b c d : Int} {x y : Bool} (h1 : a = c) (h2 : b = d) (h3 : x = y) : Ending.returned (.tuple #[.int .i64 a, .int .i64 b, .bool x]) = .returned (.tuple #[.int .i64 c, .int .i64 d, .bool y]) := by rw [h1, h2, h3]
theorem ret_two {a b c d : Int} (h1 : a = c) (h2 : b = d) : Ending.returned (.tuple #[.int .i64 a, .int .i64 b]) = .returned (.tuple #[.int .i64 c, .int .i64 d]) := by rw [h1, h2]
set_option maxHeartbeats 2000000 in
theorem l8Jumps_any (op : Int) (w : World) : Calls Tryd.prog 16 #[.int .i64 op] w fun e w' => e = .returned (.bool (Ic.jumps op)) ∧ w' = w := by
  by_cases h : 10 ≤ op ∧ op ≤ 14
  · have hc : op = 10 ∨ op = 11 ∨ op = 12 ∨ op = 13 ∨ op = 14 := by omega
    clear h
    rcases hc with rfl | rfl | rfl | rfl | rfl
    all_goals
      go_enter Tryd.func16, Tryd.ntmps16
      go_wp2_with fail
      go_ret
      exact ⟨rfl, rfl⟩
  · have fin := hide (show Ic.jumps op = false by unfold Ic.jumps; simp; omega)
    have g0 := ne_beq (show op ≠ 10 by omega)
    have g1 := ne_beq (show op ≠ 11 by omega)
    have g2 := ne_beq (show op ≠ 12 by omega)
    have g3 := ne_beq (show op ≠ 13 by omega)
    have g4 := ne_beq (show op ≠ 14 by omega)
    clear h
    go_enter Tryd.func16, Tryd.ntmps16
    go_wp2_with fail
    go_ret
    exact ⟨ret_bool (unhide fin).symm, rfl⟩
set_option maxHeartbeats 2000000 in
theorem l8Holds_any (op : Int) (w : World) : Calls Tryd.prog 43 #[.int .i64 op] w fun e w' => e = .returned (.bool (Ic.holds op)) ∧ w' = w := by
  by_cases h : op = 3 ∨ op = 9
  · rcases h with rfl | rfl
    all_goals
      go_enter Tryd.func43, Tryd.ntmps43
      go_wp2_with fail
      go_ret
      exact ⟨rfl, rfl⟩
  · have fin := hide (show Ic.holds op = false by unfold Ic.holds; simp; omega)
    have g0 := ne_beq (show op ≠ 3 by omega)
    have g1 := ne_beq (show op ≠ 9 by omega)
    clear h
    go_enter Tryd.func43, Tryd.ntmps43
    go_wp2_with fail
    go_ret
    exact ⟨ret_bool (unhide fin).symm, rfl⟩
set_option maxHeartbeats 4000000 in
theorem l8Moves_any (op : Int) (w : World) (h1 : 1 ≤ op) (h2 : op ≤ 19) : Calls Tryd.prog 45 #[.int .i64 op] w fun e w' => e = .returned (.tuple #[.int .i64 (Ic.takes op), .int .i64 (Ic.lays op)]) ∧ w' = w := by
  have hc : op = 1 ∨ op = 2 ∨ op = 3 ∨ op = 4 ∨ op = 5 ∨ op = 6 ∨ op = 7 ∨ op = 8 ∨ op = 9 ∨ op = 10 ∨ op = 11 ∨ op = 12 ∨ op = 13 ∨ op = 14 ∨ op = 15 ∨ op = 16 ∨ op = 17 ∨ op = 18 ∨ op = 19 := by omega
  clear h1 h2
  rcases hc with rfl | rfl | rfl | rfl | rfl | rfl | rfl | rfl | rfl | rfl | rfl | rfl | rfl | rfl | rfl | rfl | rfl | rfl | rfl
  all_goals
    go_enter Tryd.func45, Tryd.ntmps45
    go_wp2_with fail
    go_ret2
    exact ⟨rfl, rfl⟩
/-- What the model tells of an Arg: its bounds, and whether it is named. -/
def Ic.argsP (op : Int) (i n : Nat) (rg : Int) : Int × Int × Bool := (Ic.low (Ic.argK op) i, Ic.top (Ic.argK op) n rg - 1, Ic.argK op != 0)
set_option maxRecDepth 100000 in
set_option maxHeartbeats 4000000 in
theorem l8Args_any (b : Nat) (l : List Ic) (i : Nat) (rg : Int) (w : World) (hrow : Ic.Row w b l) (hi : i < l.length) (hn : l.length ≤ 6000) (hr0 : 0 ≤ rg) (hr1 : rg ≤ 1000) :
    Calls Tryd.prog 42 #[.slice (some ⟨b, 0, none⟩) l.length l.length, .int .i64 i, .int .i64 rg] w fun e w' => e = .returned (.tuple #[.int .i64 (Ic.argsP (l.getD i Ic.zero).op i l.length rg).1, .int .i64 (Ic.argsP (l.getD i Ic.zero).op i l.length rg).2.1, .bool (Ic.argsP (l.getD i Ic.zero).op i l.length rg).2.2]) ∧ w' = w := by
  obtain ⟨f0, f1, g, f2, hg, hr⟩ := hrow i hi
  have hiI : (i : Int) < (l.length : Int) := by omega
  have wr1 : IntKind.i64.wrap (rg - 1) = rg - 1 := IntWalk.i64_in _ ⟨by omega, by omega⟩
  have wr2 : IntKind.i64.wrap ((l.length : Int) - 1) = (l.length : Int) - 1 := IntWalk.i64_in _ ⟨by omega, by omega⟩
  have wr3 : IntKind.i64.wrap ((i : Int) + 1) = (i : Int) + 1 := IntWalk.i64_in _ ⟨by omega, by omega⟩
  clear hrow f1 f2 hr hg
  generalize (l.getD i Ic.zero).op = op at *
  generalize l.length = n at *
  by_cases hA : op = 5
  · subst hA
    clear wr1 wr2 wr3
    go_enter Tryd.func42, Tryd.ntmps42
    go_wp2_with fail
    go_ret3
    exact ⟨rfl, rfl⟩
  by_cases hB : op = 8
  · subst hB
    clear wr1 wr2 wr3
    go_enter Tryd.func42, Tryd.ntmps42
    go_wp2_with fail
    go_ret3
    exact ⟨rfl, rfl⟩
  by_cases hC : 16 ≤ op ∧ op ≤ 18
  · have hc : op = 16 ∨ op = 17 ∨ op = 18 := by omega
    clear hC hA hB
    rcases hc with rfl | rfl | rfl
    all_goals
      go_enter Tryd.func42, Tryd.ntmps42
      go_wp2_with fail
      go_ret3
      exact ⟨rfl, rfl⟩
  by_cases hD : 10 ≤ op ∧ op ≤ 14
  · have hj : Ic.jumps op = true := by unfold Ic.jumps; simpa using hD
    have g5 := ne_beq hA
    have g8 := ne_beq hB
    have g16 := ne_beq (show op ≠ 16 by omega)
    have g17 := ne_beq (show op ≠ 17 by omega)
    have g18 := ne_beq (show op ≠ 18 by omega)
    have HK := hide (Ic.jump_K hj)
    have HJ := hide hj
    clear hj hA hB hC hD
    go_enter Tryd.func42, Tryd.ntmps42
    go_wp2_with fail
    refine (l8Jumps_any _ _).mono ?_
    rintro e w1 ⟨rfl, hw1⟩
    rw [hw1, unhide HJ]
    clear hw1
    go_wp2_with fail
    go_ret3
    exact ⟨by unfold Ic.argsP; rw [unhide HK]; exact ret_three rfl rfl rfl, rfl⟩
  · have hj : Ic.jumps op = false := by unfold Ic.jumps; simp; omega
    have hK : Ic.argK op = 0 := by
      unfold Ic.argK Ic.regs
      rw [if_neg hA, if_neg hB, hj]
      simp
      omega
    have g5 := ne_beq hA
    have g8 := ne_beq hB
    have g16 := ne_beq (show op ≠ 16 by omega)
    have g17 := ne_beq (show op ≠ 17 by omega)
    have g18 := ne_beq (show op ≠ 18 by omega)
    have HK := hide hK
    have HJ := hide hj
    clear hj hA hB hC hD hK
    go_enter Tryd.func42, Tryd.ntmps42
    go_wp2_with fail
    refine (l8Jumps_any _ _).mono ?_
    rintro e w1 ⟨rfl, hw1⟩
    rw [hw1, unhide HJ]
    clear hw1
    go_wp2_with fail
    go_ret3
    exact ⟨by unfold Ic.argsP; rw [unhide HK]; exact ret_three rfl rfl rfl, rfl⟩

set_option maxRecDepth 100000 in
set_option maxHeartbeats 4000000 in
theorem l8One_any (b : Nat) (l : List Ic) (i : Nat) (rg : Int) (n : Ic) (w : World) (hrow : Ic.Row w b l) (hb : b < w.heap.size) (hi : i < l.length) (hn : l.length ≤ 6000) (hr0 : 0 ≤ rg) (hr1 : rg ≤ 1000) (hnd : n = l.getD i Ic.zero) (hlen : n.val.length ≤ 1048576) (hok : ∀ x ∈ n.val, x.ok) :
    Calls Tryd.prog 28 #[.slice (some ⟨b, 0, none⟩) l.length l.length, .int .i64 i, .int .i64 rg] w fun e w' => e = .returned (.int .i64 (Ic.oneF n i l.length rg)) ∧ Below w.heap.size w w' := by
  obtain ⟨f0, f1, g, f2, hg, hr⟩ := hrow i hi
  rw [← hnd] at f0 f1 f2 hr
  have HRW := hide hrow
  have OK := hide hok
  have HR := hide hr
  have hiI : (i : Int) < (l.length : Int) := by omega
  obtain ⟨w1, hw1⟩ : ∃ w1, w1 = w.alloc (.cells #[.int .i64 n.op, .int .i64 n.arg, .slice (some ⟨g, 0, none⟩) n.val.length n.val.length] 41) := ⟨_, rfl⟩
  have B1 : Below w.heap.size w w1 := by rw [hw1]; exact (Below.refl _ _).alloc (Nat.le_refl _) _
  have N1 : Own w1 w.heap.size 41 [.int .i64 n.op, .int .i64 n.arg, .slice (some ⟨g, 0, none⟩) n.val.length n.val.length] := by rw [hw1]; exact ⟨_, heap_alloc_new _ _, rfl⟩
  have HA := hide (l8Args_any b l i rg w1 (hrow.below B1 hb) hi hn hr0 hr1)
  rw [← hnd] at HA
  have c0 : (w.alloc (.cells #[.int .i64 n.op, .int .i64 n.arg, .slice (some ⟨g, 0, none⟩) n.val.length n.val.length] 41)).cell? ⟨w.heap.size, 0, none⟩ = some (.int .i64 n.op) := by rw [← hw1]; exact N1.cell 0
  have c1 : w1.cell? ⟨w.heap.size, 1, none⟩ = some (.int .i64 n.arg) := N1.cell 1
  have c2 : w1.cell? ⟨w.heap.size, 2, none⟩ = some (.slice (some ⟨g, 0, none⟩) n.val.length n.val.length) := N1.cell 2
  have c0' : w1.cell? ⟨w.heap.size, 0, none⟩ = some (.int .i64 n.op) := N1.cell 0
  clear hrow hr hok hnd
  by_cases hop : n.op < 1 ∨ 19 < n.op
  · have fin := hide (Ic.one_6 i l.length rg hop)
    go_enter Tryd.func28, Tryd.ntmps28
    go_wp2_with fail
    rw [← hw1]
    clear hw1
    refine (l1In_no _ _ _ _ hop).mono ?_
    rintro e w2 ⟨rfl, hw2⟩
    rw [hw2]
    clear hw2
    go_wp2_with fail
    go_ret
    exact ⟨ret_int (unhide fin).symm, B1⟩
  have HOP := hide hop
  have HAP := hide (show Ic.argsP n.op i l.length rg = (Ic.low (Ic.argK n.op) i, Ic.top (Ic.argK n.op) l.length rg - 1, Ic.argK n.op != 0) from rfl)
  rw [unhide HAP] at HA
  have HA := hide (show Calls Tryd.prog 42 #[.slice (some ⟨b, 0, none⟩) l.length l.length, .int .i64 i, .int .i64 rg] w1 fun e w' => e = .returned (.tuple #[.int .i64 (Ic.low (Ic.argK n.op) i), .int .i64 (Ic.top (Ic.argK n.op) l.length rg - 1), .bool (Ic.argK n.op != 0)]) ∧ w' = w1 from unhide HA)
  have hI := hide (l1In_yes n.op 1 19 w1 (by omega) (by omega))
  have hop1 : 1 ≤ n.op ∧ n.op ≤ 19 := by omega
  have HHO := hide (l8Holds_any n.op w1)
  have HV := hide (specFault_any n.val g 0 n.val.length w1 ((unhide HR).below B1 hg) (Nat.lt_of_lt_of_le hg B1.size) hlen (Nat.le_refl _) (unhide OK))
  have hKb := Ic.argK_bd n.op
  obtain ⟨K, hK⟩ : ∃ K, K = Ic.argK n.op := ⟨_, rfl⟩
  obtain ⟨lo, hlo⟩ : ∃ lo, lo = Ic.low K i := ⟨_, rfl⟩
  obtain ⟨hi2, hhi⟩ : ∃ t, t = Ic.top K l.length rg - 1 := ⟨_, rfl⟩
  have F1 := hide (fun h1 => Ic.one_1 i l.length rg (unhide HOP) h1)
  have FV := hide (fun h1 h2 h3 => Ic.one_v i l.length rg (unhide HOP) h1 h2 h3)
  have F3 := hide (fun h1 h2 h3 => Ic.one_3 i l.length rg (unhide HOP) h1 h2 h3)
  have F0 := hide (fun h1 h2 h3 => Ic.one_0 i l.length rg (unhide HOP) h1 h2 h3)
  have HTOP : Ic.top K l.length rg = hi2 + 1 := by omega
  rw [← hK] at HA F1 FV F3 F0 hKb
  rw [← hlo, ← hhi] at HA
  rw [← hlo, HTOP] at F3 F0
  have h39 : Ic.holds n.op = true → K = 0 := by
    intro h
    have h2 : n.op = 3 ∨ n.op = 9 := by unfold Ic.holds at h; simpa using h
    rw [hK]
    rcases h2 with h2 | h2 <;> rw [h2] <;> rfl
  have H39 : Ic.holds n.op = true → n.op = 3 ∨ n.op = 9 := by intro h; unfold Ic.holds at h; simpa using h
  have hK0 : K = 0 → lo = 0 ∧ hi2 = 0 := by intro e; rw [hlo, hhi, e]; exact ⟨rfl, rfl⟩
  obtain ⟨ho, hho⟩ : ∃ ho, ho = Ic.holds n.op := ⟨_, rfl⟩
  rw [← hho] at HHO F1 FV F3 F0 h39 H39
  clear HAP hop HOP hhi hlo hK hho HTOP
  go_enter Tryd.func28, Tryd.ntmps28
  go_wp2_with fail
  rw [← hw1]
  clear hw1 c0
  refine (unhide hI).mono ?_
  rintro e w2 ⟨rfl, hw2⟩
  rw [hw2]
  clear hw2
  go_wp2_with fail
  refine (unhide HA).mono ?_
  rintro e w2 ⟨rfl, hw2⟩
  rw [hw2]
  clear hw2
  by_cases hz : K = 0
  · obtain ⟨l0, l1⟩ := hK0 hz
    have gz : (K != 0) = false := by simp [hz]
    by_cases ha : n.arg = 0
    · rw [ha] at c1
      cases ho with
      | true =>
        have h3 := H39 rfl
        by_cases hv : M.valueFault n.val = 0
        · have hl1 := (M.fault_zero hv).1
          have hlI : (0 : Int) < (n.val.length : Int) := by omega
          rw [hv] at HV
          have HRR := hide (fun w3 (hb3 : Below w1.heap.size w1 w3) => (((unhide HR).below B1 hg).below hb3 (Nat.lt_of_lt_of_le hg B1.size)) 0 (by omega))
          have NK := hide (fun h => Ic.val_kind (c := n) hv h)
          have NO := hide (fun h => Ic.val_ok (c := n) hv h)
          go_wp2_with fail
          refine (unhide HHO).mono ?_
          rintro e w2 ⟨rfl, hw2⟩
          rw [hw2]
          clear hw2
          go_wp2_with fail
          refine (unhide HHO).mono ?_
          rintro e w2 ⟨rfl, hw2⟩
          rw [hw2]
          clear hw2
          go_wp2_with fail
          refine (unhide HV).mono ?_
          rintro e w3 ⟨rfl, hb3⟩
          have N3 := N1.below hb3 N1.lt
          have B3 : Below w.heap.size w w3 := B1.trans (hb3.mono B1.size)
          have d0 : w3.cell? ⟨w.heap.size, 0, none⟩ = some (.int .i64 n.op) := N3.cell 0
          have d1 : w3.cell? ⟨w.heap.size, 1, none⟩ = some (.int .i64 n.arg) := N3.cell 1
          have d2 : w3.cell? ⟨w.heap.size, 2, none⟩ = some (.slice (some ⟨g, 0, none⟩) n.val.length n.val.length) := N3.cell 2
          obtain ⟨k0, _⟩ := (unhide HRR) w3 hb3
          simp only [Nat.zero_mul, Nat.add_zero] at k0
          rw [ha] at d1
          rcases h3 with h3 | h3
          · have g9 : (n.op == 9) = false := by simp [h3]
            have fin := hide ((unhide F0) (by rintro (⟨h1, h2⟩ | ⟨h1, h2⟩); exact h2 ha; cases h1) (fun h => h.2 ((unhide NO) (fun e => by omega))) (by omega))
            clear hb3
            go_wp2_with fail
            go_ret
            exact ⟨ret_int (unhide fin).symm, B3⟩
          · have g9 : (n.op == 9) = true := by simp [h3]
            by_cases h4 : (n.val.getD 0 M.zero).kind = 4
            · have fin := hide ((unhide F0) (by rintro (⟨h1, h2⟩ | ⟨h1, h2⟩); exact h2 ha; cases h1) (fun h => h.2 ((unhide NO) (fun e => e.2 h4))) (by omega))
              rw [h4] at k0
              clear hb3 h4
              go_wp2_with fail
              go_ret
              exact ⟨ret_int (unhide fin).symm, B3⟩
            · have fin := hide (((unhide FV) (by rintro (⟨h1, h2⟩ | ⟨h1, h2⟩); exact h2 ha; cases h1) (by first | rfl | trivial) (by rw [(unhide NK) h3 h4]; decide)).trans ((unhide NK) h3 h4))
              have g4 : ((n.val.getD 0 M.zero).kind != 4) = true := by simpa using h4
              generalize (n.val.getD 0 M.zero).kind = kk at *
              clear hb3 h4
              go_wp2_with fail
              go_ret
              exact ⟨ret_int (unhide fin).symm, B3⟩
        · have hvb := Ic.val_bad hv
          have fin := hide (((unhide FV) (by rintro (⟨h1, h2⟩ | ⟨h1, h2⟩); exact h2 ha; cases h1) (by first | rfl | trivial) (by rw [hvb]; exact hv)).trans hvb)
          generalize M.valueFault n.val = q at *
          have g5 : (q != 0) = true := by simpa using hv
          clear hvb
          go_wp2_with fail
          refine (unhide HHO).mono ?_
          rintro e w2 ⟨rfl, hw2⟩
          rw [hw2]
          clear hw2
          go_wp2_with fail
          refine (unhide HHO).mono ?_
          rintro e w2 ⟨rfl, hw2⟩
          rw [hw2]
          clear hw2
          go_wp2_with fail
          refine (unhide HV).mono ?_
          rintro e w3 ⟨rfl, hb3⟩
          have B3 : Below w.heap.size w w3 := B1.trans (hb3.mono B1.size)
          go_wp2_with fail
          go_ret
          exact ⟨ret_int (unhide fin).symm, B3⟩
      | false =>
        by_cases hl : 0 < n.val.length
        · have hlI : (0 : Int) < (n.val.length : Int) := by omega
          have fin := hide ((unhide F1) (.inr ⟨rfl, hl⟩))
          clear hl
          go_wp2_with fail
          refine (unhide HHO).mono ?_
          rintro e w2 ⟨rfl, hw2⟩
          rw [hw2]
          clear hw2
          go_wp2_with fail
          go_ret
          exact ⟨ret_int (unhide fin).symm, B1⟩
        · have hlI : ¬ (0 : Int) < (n.val.length : Int) := by omega
          go_wp2_with fail
          refine (unhide HHO).mono ?_
          rintro e w2 ⟨rfl, hw2⟩
          rw [hw2]
          clear hw2
          go_wp2_with fail
          refine (unhide HHO).mono ?_
          rintro e w2 ⟨rfl, hw2⟩
          rw [hw2]
          clear hw2
          go_wp2_with fail
          have fin := hide ((unhide F0) (by rintro (⟨h1, h2⟩ | ⟨h1, h2⟩) <;> first | exact h2 ha | omega) (fun h => by cases h.1) (by omega))
          go_ret
          exact ⟨ret_int (unhide fin).symm, B1⟩
    · have g1 : (n.arg != 0) = true := by simpa using ha
      have fin := hide ((unhide F1) (.inl ⟨hz, ha⟩))
      go_wp2_with fail
      go_ret
      exact ⟨ret_int (unhide fin).symm, B1⟩
  · have gz : (K != 0) = true := by simpa using hz
    have hf : ho = false := by cases ho with
      | false => rfl
      | true => exact absurd (h39 rfl) hz
    subst hf
    by_cases hl : 0 < n.val.length
    · have hlI : (0 : Int) < (n.val.length : Int) := by omega
      have fin := hide ((unhide F1) (.inr ⟨rfl, hl⟩))
      clear hl
      go_wp2_with fail
      refine (unhide HHO).mono ?_
      rintro e w2 ⟨rfl, hw2⟩
      rw [hw2]
      clear hw2
      go_wp2_with fail
      go_ret
      exact ⟨ret_int (unhide fin).symm, B1⟩
    · have hlI : ¬ (0 : Int) < (n.val.length : Int) := by omega
      go_wp2_with fail
      refine (unhide HHO).mono ?_
      rintro e w2 ⟨rfl, hw2⟩
      rw [hw2]
      clear hw2
      go_wp2_with fail
      refine (unhide HHO).mono ?_
      rintro e w2 ⟨rfl, hw2⟩
      rw [hw2]
      clear hw2
      go_wp2_with fail
      by_cases hin : lo ≤ n.arg ∧ n.arg ≤ hi2
      · have fin := hide ((unhide F0) (by rintro (⟨h1, h2⟩ | ⟨h1, h2⟩) <;> first | exact hz h1 | omega) (fun h => by cases h.1) (by omega))
        refine (l1In_yes _ _ _ _ hin.1 hin.2).mono ?_
        rintro e w2 ⟨rfl, hw2⟩
        rw [hw2]
        clear hw2
        go_wp2_with fail
        go_ret
        exact ⟨ret_int (unhide fin).symm, B1⟩
      · have hno : n.arg < lo ∨ hi2 < n.arg := by omega
        have fin := hide ((unhide F3) (by rintro (⟨h1, h2⟩ | ⟨h1, h2⟩) <;> first | exact hz h1 | omega) (fun h => by cases h.1) (by omega))
        refine (l1In_no _ _ _ _ hno).mono ?_
        rintro e w2 ⟨rfl, hw2⟩
        rw [hw2]
        clear hw2
        go_wp2_with fail
        go_ret
        exact ⟨ret_int (unhide fin).symm, B1⟩

end Go.Proofs.YtgjbibkppofjfaaDoor
