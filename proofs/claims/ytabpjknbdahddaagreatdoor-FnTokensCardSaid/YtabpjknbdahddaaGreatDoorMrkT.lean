/-
  The marks: impl.markNumbers (a map) and what a look-up in it tells; spec.l4Marks.
-/
import Derived.Test.YtabpjknbdahddaaGreatDoorWrdT
import Derived.Maps.Own
import Derived.Maps.Views
namespace Go.Proofs.YtabpjknbdahddaaGreatDoor
open Go.RowKit Go.WideMaps Go.WideElems Go.Maps
set_option linter.unusedVariables false
set_option linter.unusedSimpArgs false

def theMarks : List ByteArray := [⟨#[46, 46]⟩, ⟨#[47, 47]⟩, ⟨#[61, 61]⟩, ⟨#[33, 61]⟩, ⟨#[60, 61]⟩, ⟨#[62, 61]⟩, ⟨#[46]⟩, ⟨#[91]⟩, ⟨#[93]⟩, ⟨#[123]⟩, ⟨#[125]⟩, ⟨#[40]⟩, ⟨#[41]⟩, ⟨#[124]⟩, ⟨#[44]⟩, ⟨#[58]⟩, ⟨#[59]⟩, ⟨#[43]⟩, ⟨#[45]⟩, ⟨#[42]⟩, ⟨#[47]⟩, ⟨#[37]⟩, ⟨#[60]⟩, ⟨#[62]⟩, ⟨#[63]⟩]
def mkL (j : Nat) : List UInt8 := (theMarks.getD j ByteArray.empty).data.toList
theorem mkL_inj : ∀ i, i < 25 → ∀ j, j < 25 → mkL i = mkL j → i = j := by decide
/-- What the map holds behind k of its entries. -/
def mapD : Nat → DataW Unit
  | 0 => .map []
  | k + 1 => (mapD k).put (.string (mkL k)) (.lit (.int .i64 ((k : Int) + 1)))
theorem mapD_map : ∀ k, IsMap (mapD k)
  | 0 => by first | exact ⟨_, rfl⟩ | exact .inl ⟨_, rfl⟩ | trivial | simp [mapD, IsMap]
  | k + 1 => (mapD_map k).put _ _
theorem mapD_none (l : List UInt8) (z : DataW Unit) : ∀ k, (∀ j, j < k → l ≠ mkL j) → (mapD k).atKey (.string l) z = z
  | 0, _ => rfl
  | k + 1, h => by
    rw [mapD, atKey_put_other (fun e => h k (by omega) (by injection e))]
    exact mapD_none l z k (fun j hj => h j (by omega))
theorem mapD_hit (z : DataW Unit) : ∀ k, k ≤ 25 → ∀ j, j < k → (mapD k).atKey (.string (mkL j)) z = .lit (.int .i64 ((j : Int) + 1))
  | 0, _, j, hj => by omega
  | k + 1, hk, j, hj => by
    rw [mapD]
    by_cases e : j = k
    · subst e
      exact atKey_put_same (mapD_map j) (by first | trivial | exact rfl | simp [WideAt.IsKeyLit]) _ _
    · rw [atKey_put_other (fun q => e (mkL_inj j (by omega) k (by omega) (by injection q)))]
      exact mapD_hit z k (by omega) j (by omega)

set_option maxRecDepth 100000 in
set_option maxHeartbeats 8000000 in
theorem markNumbers_any (w : World) : Calls Tryz.prog 20 #[] w fun e w' => e = .returned (.map (some w.heap.size)) ∧ w'.ownsMap Tryz.prog 9 (plainElem (H := Unit) Tryz.prog 2) w.heap.size 25 (mapD 25) ∧ Below w.heap.size w w' := by
  have K := string_keyed (P := Tryz.prog) Tryz.underlying9
  have h0 := World.ownsMap_made w Tryz.prog 9 (plainElem (H := Unit) Tryz.prog 2)
  have B0 : Below w.heap.size w (w.alloc (.map #[] 0)) := (Below.refl _ _).alloc (Nat.le_refl _) _
  have s0 : w.heap.size ≤ (w.alloc (.map #[] 0)).heap.size := by simp
  obtain ⟨w1, r1, h1, g1⟩ := h0.update K Tryz.underlying49 (by unfold maxLen; omega) (keyOf_string_mk (s := ⟨#[46, 46]⟩) Tryz.underlying9 (by decide)) (plainElem_int Tryz.underlying2 (a := 1) (by decide))
  have B1 := B0.grown g1 s0 (fun q hq => by simp only [Option.some.injEq] at hq; omega)
  have s1 := Nat.le_trans s0 g1.size
  clear h0 B0 s0 g1
  obtain ⟨w2, r2, h2, g2⟩ := h1.update K Tryz.underlying49 (by unfold maxLen; omega) (keyOf_string_mk (s := ⟨#[47, 47]⟩) Tryz.underlying9 (by decide)) (plainElem_int Tryz.underlying2 (a := 2) (by decide))
  have B2 := B1.grown g2 s1 (fun q hq => by simp only [Option.some.injEq] at hq; omega)
  have s2 := Nat.le_trans s1 g2.size
  clear h1 B1 s1 g2
  obtain ⟨w3, r3, h3, g3⟩ := h2.update K Tryz.underlying49 (by unfold maxLen; omega) (keyOf_string_mk (s := ⟨#[61, 61]⟩) Tryz.underlying9 (by decide)) (plainElem_int Tryz.underlying2 (a := 3) (by decide))
  have B3 := B2.grown g3 s2 (fun q hq => by simp only [Option.some.injEq] at hq; omega)
  have s3 := Nat.le_trans s2 g3.size
  clear h2 B2 s2 g3
  obtain ⟨w4, r4, h4, g4⟩ := h3.update K Tryz.underlying49 (by unfold maxLen; omega) (keyOf_string_mk (s := ⟨#[33, 61]⟩) Tryz.underlying9 (by decide)) (plainElem_int Tryz.underlying2 (a := 4) (by decide))
  have B4 := B3.grown g4 s3 (fun q hq => by simp only [Option.some.injEq] at hq; omega)
  have s4 := Nat.le_trans s3 g4.size
  clear h3 B3 s3 g4
  obtain ⟨w5, r5, h5, g5⟩ := h4.update K Tryz.underlying49 (by unfold maxLen; omega) (keyOf_string_mk (s := ⟨#[60, 61]⟩) Tryz.underlying9 (by decide)) (plainElem_int Tryz.underlying2 (a := 5) (by decide))
  have B5 := B4.grown g5 s4 (fun q hq => by simp only [Option.some.injEq] at hq; omega)
  have s5 := Nat.le_trans s4 g5.size
  clear h4 B4 s4 g5
  obtain ⟨w6, r6, h6, g6⟩ := h5.update K Tryz.underlying49 (by unfold maxLen; omega) (keyOf_string_mk (s := ⟨#[62, 61]⟩) Tryz.underlying9 (by decide)) (plainElem_int Tryz.underlying2 (a := 6) (by decide))
  have B6 := B5.grown g6 s5 (fun q hq => by simp only [Option.some.injEq] at hq; omega)
  have s6 := Nat.le_trans s5 g6.size
  clear h5 B5 s5 g6
  obtain ⟨w7, r7, h7, g7⟩ := h6.update K Tryz.underlying49 (by unfold maxLen; omega) (keyOf_string_mk (s := ⟨#[46]⟩) Tryz.underlying9 (by decide)) (plainElem_int Tryz.underlying2 (a := 7) (by decide))
  have B7 := B6.grown g7 s6 (fun q hq => by simp only [Option.some.injEq] at hq; omega)
  have s7 := Nat.le_trans s6 g7.size
  clear h6 B6 s6 g7
  obtain ⟨w8, r8, h8, g8⟩ := h7.update K Tryz.underlying49 (by unfold maxLen; omega) (keyOf_string_mk (s := ⟨#[91]⟩) Tryz.underlying9 (by decide)) (plainElem_int Tryz.underlying2 (a := 8) (by decide))
  have B8 := B7.grown g8 s7 (fun q hq => by simp only [Option.some.injEq] at hq; omega)
  have s8 := Nat.le_trans s7 g8.size
  clear h7 B7 s7 g8
  obtain ⟨w9, r9, h9, g9⟩ := h8.update K Tryz.underlying49 (by unfold maxLen; omega) (keyOf_string_mk (s := ⟨#[93]⟩) Tryz.underlying9 (by decide)) (plainElem_int Tryz.underlying2 (a := 9) (by decide))
  have B9 := B8.grown g9 s8 (fun q hq => by simp only [Option.some.injEq] at hq; omega)
  have s9 := Nat.le_trans s8 g9.size
  clear h8 B8 s8 g9
  obtain ⟨w10, r10, h10, g10⟩ := h9.update K Tryz.underlying49 (by unfold maxLen; omega) (keyOf_string_mk (s := ⟨#[123]⟩) Tryz.underlying9 (by decide)) (plainElem_int Tryz.underlying2 (a := 10) (by decide))
  have B10 := B9.grown g10 s9 (fun q hq => by simp only [Option.some.injEq] at hq; omega)
  have s10 := Nat.le_trans s9 g10.size
  clear h9 B9 s9 g10
  obtain ⟨w11, r11, h11, g11⟩ := h10.update K Tryz.underlying49 (by unfold maxLen; omega) (keyOf_string_mk (s := ⟨#[125]⟩) Tryz.underlying9 (by decide)) (plainElem_int Tryz.underlying2 (a := 11) (by decide))
  have B11 := B10.grown g11 s10 (fun q hq => by simp only [Option.some.injEq] at hq; omega)
  have s11 := Nat.le_trans s10 g11.size
  clear h10 B10 s10 g11
  obtain ⟨w12, r12, h12, g12⟩ := h11.update K Tryz.underlying49 (by unfold maxLen; omega) (keyOf_string_mk (s := ⟨#[40]⟩) Tryz.underlying9 (by decide)) (plainElem_int Tryz.underlying2 (a := 12) (by decide))
  have B12 := B11.grown g12 s11 (fun q hq => by simp only [Option.some.injEq] at hq; omega)
  have s12 := Nat.le_trans s11 g12.size
  clear h11 B11 s11 g12
  obtain ⟨w13, r13, h13, g13⟩ := h12.update K Tryz.underlying49 (by unfold maxLen; omega) (keyOf_string_mk (s := ⟨#[41]⟩) Tryz.underlying9 (by decide)) (plainElem_int Tryz.underlying2 (a := 13) (by decide))
  have B13 := B12.grown g13 s12 (fun q hq => by simp only [Option.some.injEq] at hq; omega)
  have s13 := Nat.le_trans s12 g13.size
  clear h12 B12 s12 g13
  obtain ⟨w14, r14, h14, g14⟩ := h13.update K Tryz.underlying49 (by unfold maxLen; omega) (keyOf_string_mk (s := ⟨#[124]⟩) Tryz.underlying9 (by decide)) (plainElem_int Tryz.underlying2 (a := 14) (by decide))
  have B14 := B13.grown g14 s13 (fun q hq => by simp only [Option.some.injEq] at hq; omega)
  have s14 := Nat.le_trans s13 g14.size
  clear h13 B13 s13 g14
  obtain ⟨w15, r15, h15, g15⟩ := h14.update K Tryz.underlying49 (by unfold maxLen; omega) (keyOf_string_mk (s := ⟨#[44]⟩) Tryz.underlying9 (by decide)) (plainElem_int Tryz.underlying2 (a := 15) (by decide))
  have B15 := B14.grown g15 s14 (fun q hq => by simp only [Option.some.injEq] at hq; omega)
  have s15 := Nat.le_trans s14 g15.size
  clear h14 B14 s14 g15
  obtain ⟨w16, r16, h16, g16⟩ := h15.update K Tryz.underlying49 (by unfold maxLen; omega) (keyOf_string_mk (s := ⟨#[58]⟩) Tryz.underlying9 (by decide)) (plainElem_int Tryz.underlying2 (a := 16) (by decide))
  have B16 := B15.grown g16 s15 (fun q hq => by simp only [Option.some.injEq] at hq; omega)
  have s16 := Nat.le_trans s15 g16.size
  clear h15 B15 s15 g16
  obtain ⟨w17, r17, h17, g17⟩ := h16.update K Tryz.underlying49 (by unfold maxLen; omega) (keyOf_string_mk (s := ⟨#[59]⟩) Tryz.underlying9 (by decide)) (plainElem_int Tryz.underlying2 (a := 17) (by decide))
  have B17 := B16.grown g17 s16 (fun q hq => by simp only [Option.some.injEq] at hq; omega)
  have s17 := Nat.le_trans s16 g17.size
  clear h16 B16 s16 g17
  obtain ⟨w18, r18, h18, g18⟩ := h17.update K Tryz.underlying49 (by unfold maxLen; omega) (keyOf_string_mk (s := ⟨#[43]⟩) Tryz.underlying9 (by decide)) (plainElem_int Tryz.underlying2 (a := 18) (by decide))
  have B18 := B17.grown g18 s17 (fun q hq => by simp only [Option.some.injEq] at hq; omega)
  have s18 := Nat.le_trans s17 g18.size
  clear h17 B17 s17 g18
  obtain ⟨w19, r19, h19, g19⟩ := h18.update K Tryz.underlying49 (by unfold maxLen; omega) (keyOf_string_mk (s := ⟨#[45]⟩) Tryz.underlying9 (by decide)) (plainElem_int Tryz.underlying2 (a := 19) (by decide))
  have B19 := B18.grown g19 s18 (fun q hq => by simp only [Option.some.injEq] at hq; omega)
  have s19 := Nat.le_trans s18 g19.size
  clear h18 B18 s18 g19
  obtain ⟨w20, r20, h20, g20⟩ := h19.update K Tryz.underlying49 (by unfold maxLen; omega) (keyOf_string_mk (s := ⟨#[42]⟩) Tryz.underlying9 (by decide)) (plainElem_int Tryz.underlying2 (a := 20) (by decide))
  have B20 := B19.grown g20 s19 (fun q hq => by simp only [Option.some.injEq] at hq; omega)
  have s20 := Nat.le_trans s19 g20.size
  clear h19 B19 s19 g20
  obtain ⟨w21, r21, h21, g21⟩ := h20.update K Tryz.underlying49 (by unfold maxLen; omega) (keyOf_string_mk (s := ⟨#[47]⟩) Tryz.underlying9 (by decide)) (plainElem_int Tryz.underlying2 (a := 21) (by decide))
  have B21 := B20.grown g21 s20 (fun q hq => by simp only [Option.some.injEq] at hq; omega)
  have s21 := Nat.le_trans s20 g21.size
  clear h20 B20 s20 g21
  obtain ⟨w22, r22, h22, g22⟩ := h21.update K Tryz.underlying49 (by unfold maxLen; omega) (keyOf_string_mk (s := ⟨#[37]⟩) Tryz.underlying9 (by decide)) (plainElem_int Tryz.underlying2 (a := 22) (by decide))
  have B22 := B21.grown g22 s21 (fun q hq => by simp only [Option.some.injEq] at hq; omega)
  have s22 := Nat.le_trans s21 g22.size
  clear h21 B21 s21 g22
  obtain ⟨w23, r23, h23, g23⟩ := h22.update K Tryz.underlying49 (by unfold maxLen; omega) (keyOf_string_mk (s := ⟨#[60]⟩) Tryz.underlying9 (by decide)) (plainElem_int Tryz.underlying2 (a := 23) (by decide))
  have B23 := B22.grown g23 s22 (fun q hq => by simp only [Option.some.injEq] at hq; omega)
  have s23 := Nat.le_trans s22 g23.size
  clear h22 B22 s22 g23
  obtain ⟨w24, r24, h24, g24⟩ := h23.update K Tryz.underlying49 (by unfold maxLen; omega) (keyOf_string_mk (s := ⟨#[62]⟩) Tryz.underlying9 (by decide)) (plainElem_int Tryz.underlying2 (a := 24) (by decide))
  have B24 := B23.grown g24 s23 (fun q hq => by simp only [Option.some.injEq] at hq; omega)
  have s24 := Nat.le_trans s23 g24.size
  clear h23 B23 s23 g24
  obtain ⟨w25, r25, h25, g25⟩ := h24.update K Tryz.underlying49 (by unfold maxLen; omega) (keyOf_string_mk (s := ⟨#[63]⟩) Tryz.underlying9 (by decide)) (plainElem_int Tryz.underlying2 (a := 25) (by decide))
  have B25 := B24.grown g25 s24 (fun q hq => by simp only [Option.some.injEq] at hq; omega)
  have s25 := Nat.le_trans s24 g25.size
  clear h24 B24 s24 g25
  have hmm := @run_makeMap Tryz.prog
  have HH := hide h25
  have HB := hide B25
  clear h25 B25 s25 K
  go_enter Tryz.func20, Tryz.ntmps20
  go_wp2_with fail
  go_ret
  exact ⟨rfl, unhide HH, unhide HB⟩

theorem lit_int {a b : Int} (h : (DataW.lit (.int .i64 a) : DataW Unit) = .lit (.int .i64 b)) : b = a := by cases h; rfl
/-- What the map tells of a text. -/
theorem mark_look (s : ByteArray) (hs : s.size ≤ maxLen) (b : Nat) (w : World) (h : w.ownsMap Tryz.prog 9 (plainElem (H := Unit) Tryz.prog 2) b 25 (mapD 25)) :
    ∃ c : Int, (Instr.lookup 49 (.map (some b)) (.string s) false).run Tryz.prog w = .ok (.int .i64 c) w ∧ (c != 0) = oneOf theMarks s := by
  obtain ⟨c, hrun, hat, _⟩ := h.lookup_int (string_keyed Tryz.underlying9) Tryz.underlying49 Tryz.underlying2 (by kernel_rfl) (keyOf_string_mk (s := s) Tryz.underlying9 hs)
  refine ⟨c, hrun, ?_⟩
  by_cases hit : ∃ j, j < 25 ∧ s.data.toList = mkL j
  · obtain ⟨j, hj, e⟩ := hit
    have hc := lit_int ((mapD_hit _ 25 (Nat.le_refl _) j hj).symm.trans ((congrArg (fun l => (mapD 25).atKey (.string l) _) e.symm).trans hat))
    clear hat h hrun
    rw [oneOf_hit (ss := theMarks) (s := s) (k := j) hj (by
      rw [ByteArray.toList_eq, ByteArray.toList_eq, e]; exact beq_self_eq_true _)]
    simp; omega
  · have hc := lit_int ((mapD_none _ _ 25 (fun j hj e => hit ⟨j, hj, e⟩)).symm.trans hat)
    clear hat h hrun
    rw [oneOf_none (ss := theMarks) (s := s) (fun k hk => by
      rw [ByteArray.toList_eq, ByteArray.toList_eq]
      exact beq_eq_false_iff_ne.2 (fun e => hit ⟨k, hk, e.symm⟩))]
    subst hc
    rfl

set_option maxHeartbeats 1000000 in
theorem l4Marks_any (w : World) : Calls Tryz.prog 81 #[] w fun e w' => e = .returned (.slice (some ⟨w.heap.size, 0, none⟩) 25 25) ∧ w' = w.alloc (.cells (theMarks.map Value.string).toArray 9) := by
  go_enter Tryz.func81, Tryz.ntmps81
  go_wp2_with fail
  go_ret
  exact ⟨rfl, rfl⟩

end Go.Proofs.YtabpjknbdahddaaGreatDoor
