/-
  spec.EncodeAll and impl.EncodeAll answer encAll.
-/
import Derived.Test.YtejibmfenlcbiaaDoorEncW
import Derived.Test.YtejibmfenlcbiaaDoorArrI
import Derived.Lib.BufferRead
namespace Go.Proofs.YtejibmfenlcbiaaDoor
open Go.RowKit
set_option linter.unusedVariables false
set_option linter.unusedSimpArgs false

/-- The texts of the first k values, a line each. -/
def linesK (ps : List (List M.Cl)) : Nat → List UInt8
  | 0 => []
  | k + 1 => linesK ps k ++ (J.encL 200 (ps.getD k []) ++ [10])
def encAll (ps : List (List M.Cl)) : Int × ByteArray := if 200 < ps.length then (2, ByteArray.empty) else if firstBad ps = 0 then (0, J.bytes (linesK ps ps.length)) else (firstBad ps, ByteArray.empty)
theorem encAll_many {ps : List (List M.Cl)} (h : 200 < ps.length) : encAll ps = (2, ByteArray.empty) := if_pos h
theorem encAll_bad {ps : List (List M.Cl)} (h : ¬ 200 < ps.length) (hz : firstBad ps ≠ 0) : encAll ps = (firstBad ps, ByteArray.empty) := by unfold encAll; rw [if_neg h, if_neg hz]
theorem encAll_ok {ps : List (List M.Cl)} (h : ¬ 200 < ps.length) (hz : firstBad ps = 0) : encAll ps = (0, J.bytes (linesK ps ps.length)) := by unfold encAll; rw [if_neg h, if_pos hz]
theorem enc_len {p : List M.Cl} (hv : M.valueFault p = 0) : (J.encL 200 p).length ≤ 80000 := by
  have hl := (M.fault_zero hv).1
  have hpl : (part p 0).length ≤ 200 := by have := part_len hv (show 0 < p.length by omega); have := (end_gt hv (show 0 < p.length by omega)).2; have := (M.fault_zero hv).2.1; omega
  rw [← J.encL_whole 199 hv (by omega)]
  exact J.enc_bd 200 hv (by omega) hpl
theorem lines_len (ps : List (List M.Cl)) (k : Nat) (h : ∀ j, j < k → M.valueFault (ps.getD j []) = 0) : (linesK ps k).length ≤ 80001 * k := by
  induction k with
  | zero => simp [linesK]
  | succ k ih =>
    have h1 := ih (fun j hj => h j (by omega))
    have h2 := enc_len (h k (by omega))
    rw [linesK, List.length_append, List.length_append, Nat.mul_add]
    show _ + (_ + 1) ≤ _
    omega
theorem room_all {L : Nat} (h : L ≤ 20000000) : L + 100000 * 200 ≤ 100000000000 := Nat.le_trans (Nat.add_le_add_right h _) (by decide)
theorem lines_room (ps : List (List M.Cl)) (k : Nat) (hk : k ≤ 200) (h : ∀ j, j < k → M.valueFault (ps.getD j []) = 0) : (linesK ps k).length ≤ 20000000 := by
  have h1 := lines_len ps k h
  have h2 : 80001 * k ≤ 80001 * 200 := Nat.mul_le_mul_left _ hk
  exact Nat.le_trans h1 (Nat.le_trans h2 (by decide))
theorem lines_ne (ps : List (List M.Cl)) (k : Nat) (hk : 0 < k) : linesK ps k ≠ [] := by
  cases k with
  | zero => omega
  | succ k => rw [linesK]; simp

set_option maxRecDepth 100000 in
set_option maxHeartbeats 2000000 in
theorem specEncodeAll_any (g : Nat) (ps : List (List M.Cl)) (w : World) (hL : LR w g ps) (hn : ps.length ≤ 1048576) (hln : tot ps ps.length ≤ 1048576) (hok : OkS ps) :
    Calls Tryd.prog 5 #[.slice (some ⟨g, 0, none⟩) ps.length ps.length] w fun e w' => e = .returned (.agg #[.int .i64 (encAll ps).1, .string (encAll ps).2]) ∧ Below w.heap.size w w' := by
  by_cases hmany : 200 < ps.length
  · have fin := hide (encAll_many hmany)
    have hmI : (200 : Int) < (ps.length : Int) := by omega
    go_enter Tryd.func5, Tryd.ntmps5
    go_wp2_with fail
    refine bodyPost_ret (v := .agg #[.int .i64 2, .string ByteArray.empty]) (by simp [results, Tryd.results5, go_sem]; try rfl) rfl ⟨by rw [unhide fin], ?_⟩
    exact (Below.refl _ _).alloc (Nat.le_refl _) _
  have hmI : ¬ (200 : Int) < (ps.length : Int) := by omega
  have hn200 : ps.length ≤ 200 := by omega
  have HM := hide hmany
  have HL := hide hL
  have OK := hide hok
  have HN := hide hln
  clear hL hok hln hmany
  obtain ⟨w0, hw0⟩ : ∃ w0, w0 = w.alloc (.cells #[.int .i64 0, .string ByteArray.empty] 25) := ⟨_, rfl⟩
  have B0 : Below w.heap.size w w0 := by rw [hw0]; exact (Below.refl _ _).alloc (Nat.le_refl _) _
  have hX0 : Own w0 w.heap.size 25 [.int .i64 0, .string ByteArray.empty] := by rw [hw0]; exact ⟨_, heap_alloc_new _ _, rfl⟩
  go_enter Tryd.func5, Tryd.ntmps5
  go_wp2_with fail
  try (rw [show (w.alloc (.cells #[.int .i64 0, .string { data := #[] }] 25)) = w0 from hw0.symm])
  clear hw0
  go_loopg [3, 4] ps.length (fun gh s3 s4 wr => ∃ (k : Nat) (o : ByteArray), Hid (gh = ps.length - k) ∧ s3 = .string o ∧ s4 = .int .i64 k ∧ k ≤ ps.length ∧ Hid (o = J.bytes (linesK ps k)) ∧ Hid (∀ j, j < k → M.valueFault (ps.getD j []) = 0) ∧ Below w0.heap.size w0 wr)
  case atStart => exact ⟨0, _, rfl, rfl, rfl, by omega, rfl, fun j hj => absurd hj (by omega), Below.refl _ _⟩
  case round =>
    obtain ⟨k, o, hg, rfl, rfl, hk, ho, hall, hbel⟩ := hrel
    have BW : Below w.heap.size w wr := B0.trans (hbel.mono B0.size)
    have hX := hX0.below hbel hX0.lt
    have hosz : o.size ≤ 20000000 := by rw [ho.out, J.bytes_size]; exact lines_room ps k (by omega) hall.out
    by_cases hlt : k < ps.length
    · have hltI : (k : Int) < (ps.length : Int) := by omega
      obtain ⟨b, f0, hb, hr⟩ := ((unhide HL).below BW).2 k hlt
      have hq := Nat.le_trans (len_le ps k hlt) (unhide HN)
      have hok := hide ((unhide OK) k hlt)
      have hhit := hide (fun hz => firstBad_hit ps k hall.out hlt hz)
      have hnext := hide (fun (h0 : M.valueFault (ps.getD k []) = 0) j (hj : j < k + 1) => show M.valueFault (ps.getD j []) = 0 by
        by_cases e : j = k
        · subst e; exact h0
        · exact hall.out j (by omega))
      have hline : Hid (J.bytes (linesK ps (k + 1)) = o ++ J.bytes (J.encL 200 (ps.getD k [])) ++ { data := #[10] }) := by
        show _ = _
        rw [ho.out, linesK, bytes_two, bytes_two, ByteArray.append_assoc]
        rfl
      generalize ps.getD k [] = p at *
      go_wp2_with fail
      refine (specFault_any p b 0 p.length _ hr hb hq (Nat.le_refl _) (unhide hok)).mono ?_
      rintro e1 w1 ⟨rfl, hb1⟩
      have B1 : Below w0.heap.size w0 w1 := hbel.trans (hb1.mono hbel.size)
      have hX1 := hX.below hb1 hX.lt
      have f1 : w1.cell? ⟨g, k, none⟩ = some (.slice (some ⟨b, 0, none⟩) p.length p.length) := (hb1.cell (p := ⟨g, k, none⟩) ((unhide HL).below BW).1).trans f0
      have HRW := hide (hr.below hb1 hb)
      have hb' := Nat.lt_of_lt_of_le hb hb1.size
      clear f0 hr hX hb1 hb
      by_cases hz : M.valueFault p = 0
      · have hn2 := hide ((unhide hnext) hz)
        have HE := hide (l2Encode_all 200 p b 0 p.length w1 hz (M.fault_zero hz).2.1 (unhide HRW) hb' (Nat.le_refl _) (unhide hok))
        have hes : (J.bytes (J.encL 200 p)).size ≤ 80000 := by rw [J.bytes_size]; exact enc_len hz
        rw [hz]
        clear hhit hnext hz
        generalize J.bytes (J.encL 200 p) = E at *
        have hs2 : (o ++ E).size ≤ 20080000 := by rw [ByteArray.size_append]; omega
        go_wp2_with fail
        refine (unhide HE).mono ?_
        rintro e w2 ⟨rfl, hb2⟩
        have B2 : Below w0.heap.size w0 w2 := B1.trans (hb2.mono B1.size)
        clear hb2 HE f1
        go_wp2_with fail
        go_roundg (ps.length - (k + 1))
        case rel => exact ⟨k + 1, _, rfl, rfl, by go_num, by omega, by (show _ = _; rw [hline.out]), unhide hn2, B2⟩
        case measure => have := hg.out; omega
      · have hbad := (unhide hhit) hz
        have hz' : (M.valueFault p == 0) = false := by simp [hz]
        have fin := hide ((encAll_bad (unhide HM) (by rw [hbad]; exact hz)).trans (by rw [hbad]))
        have B1w : Below w.heap.size w w1 := B0.trans (B1.mono B0.size)
        clear hhit hnext hbad hz f1
        generalize M.valueFault p = q at *
        have r0 := hX1.cell 0
        have r1 := hX1.cell 1
        have z0 := hX1.frozen 0
        have z1 := hX1.frozen 1
        simp only [List.getElem?_cons_zero, List.getElem?_cons_succ] at r0 r1
        go_wp2_with fail
        refine bodyPost_ret (v := .agg #[.int .i64 q, .string ByteArray.empty]) (by simp [results, Tryd.results5, go_sem, r0, r1]; try rfl) rfl ⟨by rw [unhide fin], ?_⟩
        exact (B1w.setCell (Nat.le_refl _) _).setCell (Nat.le_refl _) _
    · have hge : ¬ (k : Int) < (ps.length : Int) := by omega
      have hke : k = ps.length := by omega
      have fin := hide (encAll_ok (unhide HM) (firstBad_none ps (by rw [← hke]; exact hall.out)))
      have hq : Hid (J.bytes (linesK ps ps.length) = o) := by show _ = _; rw [ho.out, hke]
      rw [hq.out] at fin
      clear hke
      have r0 := hX.cell 0
      have r1 := hX.cell 1
      have z0 := hX.frozen 0
      have z1 := hX.frozen 1
      simp only [List.getElem?_cons_zero, List.getElem?_cons_succ] at r0 r1
      go_wp2_with fail
      refine bodyPost_ret (v := .agg #[.int .i64 0, .string o]) (by simp [results, Tryd.results5, go_sem, r0, r1]) rfl ⟨by rw [unhide fin], ?_⟩
      exact (BW.setCell (Nat.le_refl _) _).setCell (Nat.le_refl _) _

set_option maxRecDepth 100000 in
set_option maxHeartbeats 2000000 in
theorem linesText_any (g : Nat) (ps : List (List M.Cl)) (w1 : World) (hL : LR w1 g ps) (hn200 : ps.length ≤ 200) (hall : ∀ j, j < ps.length → M.valueFault (ps.getD j []) = 0) (htab : Lib.TabBelow Tryd.prog w1.heap.size w1 "internal/strconv.uint64pow10" .u64 Lib.pow10Tab) :
    Calls Tryd.prog 15 #[.slice (some ⟨g, 0, none⟩) ps.length ps.length] w1 fun e w' => e = .returned (.string (J.bytes (linesK ps ps.length))) ∧ Below w1.heap.size w1 w' := by
  have HL := hide hL
  have HT := hide htab
  have HALL := hide hall
  obtain ⟨i0, hi, hz0, hz1, hz2⟩ := info_parts Tryd.info5
  clear hL htab hall
  obtain ⟨base, hbe⟩ : ∃ base, base = w1.heap.size := ⟨_, rfl⟩
  have hbase0 : base ≤ w1.heap.size := by omega
  have HBE := hide hbe
  clear hbe
  go_enter Tryd.func15, Tryd.ntmps15
  go_wp2_with fail
  go_loopg [3, 8] ps.length (fun gh s3 s8 wr => ∃ k : Nat, Hid (gh = ps.length - k) ∧ s8 = .int .i64 k ∧ k ≤ ps.length ∧ wr.ownsRow base 5 1 s3 (linesK ps k).length (J.bv (linesK ps k)) ∧ Bk base w1 wr)
  case atStart => exact ⟨0, rfl, rfl, by omega, World.ownsRow_nil _ _ _ _, Bk.refl _ _⟩
  case round =>
    obtain ⟨k, hg, rfl, hk, hown, hbel⟩ := hrel
    have hll := lines_room ps k (by omega) (fun j hj => (unhide HALL) j (by omega))
    have BW : Below w1.heap.size w1 wr := by rw [← unhide HBE]; exact hbel.1
    obtain ⟨L, hL⟩ : ∃ L, L = linesK ps k := ⟨_, rfl⟩
    rw [← hL] at hown hll
    have HLL := hide hL
    clear hL
    obtain ⟨xa, xn, xc, rfl⟩ := owns_shape hown
    by_cases hlt : k < ps.length
    · have hltI : (k : Int) < (ps.length : Int) := by omega
      obtain ⟨b, f0, hb, hr⟩ := (unhide HL).2 k hlt
      have f1 : wr.cell? ⟨g, k, none⟩ = some (.slice (some ⟨b, 0, none⟩) (ps.getD k []).length (ps.getD k []).length) := (hbel.1.cell (p := ⟨g, k, none⟩) (by rw [unhide HBE]; exact (unhide HL).1)).trans f0
      have hv := (unhide HALL) k hlt
      have hl1 := (M.fault_zero hv).1
      have hline := hide (show linesK ps (k + 1) = linesK ps k ++ (J.encL 200 (ps.getD k []) ++ [10]) from rfl)
      have hb2 : b < base := by rw [unhide HBE]; exact hb
      generalize ps.getD k [] = p at *
      have hpl : (part p 0).length ≤ 200 := by have := part_len hv (show 0 < p.length by omega); have := (end_gt hv (show 0 < p.length by omega)).2; have := (M.fault_zero hv).2.1; omega
      have hel := enc_len hv
      have HC := hide (appendText_any 200 p 0 b 0 p.length base (.slice xa xn xc) L wr hv (by omega) hpl (hr.below hbel.1 hb2) hb2 (Nat.le_refl _) (by have := hbel.size; omega) (room_all hll) hown (fun w' hb' => (unhide HT) w' (by rw [← unhide HBE]; exact hbel.1.trans hb')))
      rw [J.encL_whole 199 hv (by omega)] at HC
      have hb0 : Bk base wr wr := Bk.refl _ _
      have hbw : base ≤ wr.heap.size := by have := hbel.size; omega
      clear hv hpl hr f0 hl1 hown
      go_wp2_with fail
      refine (unhide HC).mono ?_
      rintro e w2 ⟨v2, rfl, w2o0, w2b⟩
      obtain ⟨Lw2, ew2⟩ : ∃ L', L' = L ++ J.encL 200 p := ⟨_, rfl⟩
      have w2o : w2.ownsRow base 5 1 v2 Lw2.length (J.bv Lw2) := by rw [ew2]; exact w2o0
      have lw2 : Lw2.length ≤ 20080000 := by rw [ew2, List.length_append]; omega
      have Ew2 := hide ew2
      clear ew2 w2o0 HC hb0
      obtain ⟨xa2, xn2, xc2, rfl⟩ := owns_shape w2o
      have hown1 := hide (fun o => (w2o).alloc o)
      have hone := hide (J.one_word w2 10)
      have honep := hide (J.one_plain 10)
      have hb63 : (Lw2).length + 1 ≤ maxLen := by unfold maxLen; omega
      have hby : ((Lw2).length + 1) * 1 ≤ 140737488355328 := by omega
      have hbase : base ≤ w2.heap.size + 1 := by have := (w2b).size; omega
      have hbse := hide (J.owns_base w2o)
      have hbsr := hide (fun o => J.owns_row ((w2o).alloc o))
      clear w2o
      go_wp2_with (at_builtin; refine wpList_append_own _ rfl (.tmp 14) (.tmp 15) 54 rfl base 5 i0 (.int .u8 0) 1 1 Tryd.underlying54 hi hz0 hz1 hz2 rfl (by decide) _ (Lw2).length _ rfl ((unhide hown1) _) ⟨w2.heap.size, 0, none⟩ 1 1 [.int .u8 10] rfl rfl (unhide hone) (unhide honep) hb63 hby (by simpa using hbase) ?_)
      intro vw3 w3 w3h hgw3 _
      have w3b : Bk base wr w3 := ((w2b).alloc (by have := (w2b).size; omega) _).grown hgw3 (by simpa using hbase) (unhide hbse) ((unhide hbsr) _)
      obtain ⟨Lw3, ew3⟩ : ∃ L', L' = Lw2 ++ [10] := ⟨_, rfl⟩
      have w3o : w3.ownsRow base 5 1 vw3 Lw3.length (J.bv Lw3) := by rw [ew3, List.length_append, ← J.bv_snoc]; exact w3h
      have lw3 : Lw3.length ≤ (Lw2).length + 1 := by rw [ew3, List.length_append]; exact Nat.le_refl _
      have Ew3 := hide ew3
      clear hgw3 w3h ew3 hown1 hone honep hb63 hby hbase hbse hbsr
      obtain ⟨xaw3, xnw3, xcw3, rfl⟩ := owns_shape w3o
      have w3n := hide (show w3.ownsRow base 5 1 (.slice xaw3 xnw3 xcw3) (linesK ps (k + 1)).length (J.bv (linesK ps (k + 1))) by
        have e : Lw3 = linesK ps (k + 1) := by
          rw [unhide Ew3, unhide Ew2, unhide hline, unhide HLL, List.append_assoc]
        rw [← e]; exact w3o)
      clear w3o
      go_wp2_with fail
      go_roundg (ps.length - (k + 1))
      case rel => exact ⟨k + 1, rfl, by go_num, by omega, unhide w3n, hbel.trans w3b⟩
      case measure => have := hg.out; omega
    · have hge : ¬ (k : Int) < (ps.length : Int) := by omega
      have hke : k = ps.length := by omega
      have fin := hide (show L = linesK ps ps.length by rw [unhide HLL, hke])
      rcases hown.2 with ⟨hnil, h0⟩ | ⟨g2, cap2, cur, hsome, hgb, _⟩
      · cases hnil
        have hL0 : L = [] := List.length_eq_zero_iff.1 h0
        rw [hL0] at fin
        have hcv : (convert 54 9 (.slice none 0 0)).run Tryd.prog wr = .ok (.string ByteArray.empty) wr := Lib.run_convert_nil_bytes wr 54 9 5 0 Tryd.underlying54 Tryd.underlying5 Tryd.underlying9
        clear hL0 h0 HLL hke hll hown
        go_wp2_with fail
        go_ret
        exact ⟨by rw [← unhide fin]; rfl, BW⟩
      · obtain ⟨rfl, rfl, rfl⟩ : xa = some ⟨g2, 0, none⟩ ∧ xn = L.length ∧ xc = cap2 := by injection hsome with e1 e2 e3; exact ⟨e1, e2, e3⟩
        have hcv := show (convert 54 9 (.slice (some ⟨g2, 0, none⟩) L.length xc)).run Tryd.prog wr = .ok (.string (J.bytes L)) wr from
          run_convert_bytes_back _ _ _ 5 _ xc _ Tryd.underlying54 Tryd.underlying5 Tryd.underlying9 (J.owns_cells hown)
        have fin2 := hide (congrArg J.bytes (unhide fin))
        clear hown HLL hke hll fin
        generalize L.length = n at *
        generalize J.bytes L = q at *
        go_wp2_with fail
        go_ret
        exact ⟨congrArg (fun x => Ending.returned (.string x)) (unhide fin2), BW⟩

set_option maxRecDepth 100000 in
set_option maxHeartbeats 2000000 in
theorem implEncodeAll_any (g : Nat) (ps : List (List M.Cl)) (w : World) (hL : LR w g ps) (hn : ps.length ≤ 1048576) (hln : tot ps ps.length ≤ 1048576) (hok : OkS ps) (htab : Lib.TabBelow Tryd.prog w.heap.size w "internal/strconv.uint64pow10" .u64 Lib.pow10Tab) :
    Calls Tryd.prog 7 #[.slice (some ⟨g, 0, none⟩) ps.length ps.length] w fun e w' => e = .returned (.agg #[.int .i64 (encAll ps).1, .string (encAll ps).2]) ∧ Below w.heap.size w w' := by
  by_cases hmany : 200 < ps.length
  · have fin := hide (encAll_many hmany)
    have hmI : (200 : Int) < (ps.length : Int) := by omega
    go_enter Tryd.func7, Tryd.ntmps7
    go_wp2_with fail
    refine bodyPost_ret (v := .agg #[.int .i64 2, .string ByteArray.empty]) (by simp [results, Tryd.results7, go_sem]; try rfl) rfl ⟨by rw [unhide fin], ?_⟩
    exact (Below.refl _ _).alloc (Nat.le_refl _) _
  have hmI : ¬ (200 : Int) < (ps.length : Int) := by omega
  have hn200 : ps.length ≤ 200 := by omega
  have HFF := hide (fun wq (hq : Below w.heap.size w wq) => firstFault_any g ps wq (hL.below hq) hn hln hok)
  have HLT := hide (fun wq (hq : Below w.heap.size w wq) (ha : ∀ j, j < ps.length → M.valueFault (ps.getD j []) = 0) => linesText_any g ps wq (hL.below hq) hn200 ha (fun w' hb' => htab w' (hq.trans (hb'.mono hq.size))))
  clear hL htab hln hok
  obtain ⟨w0, hw0⟩ : ∃ w0, w0 = w.alloc (.cells #[.int .i64 0, .string ByteArray.empty] 25) := ⟨_, rfl⟩
  have B0 : Below w.heap.size w w0 := by rw [hw0]; exact (Below.refl _ _).alloc (Nat.le_refl _) _
  have hX0 : Own w0 w.heap.size 25 [.int .i64 0, .string ByteArray.empty] := by rw [hw0]; exact ⟨_, heap_alloc_new _ _, rfl⟩
  go_enter Tryd.func7, Tryd.ntmps7
  go_wp2_with fail
  try (rw [show (w.alloc (.cells #[.int .i64 0, .string { data := #[] }] 25)) = w0 from hw0.symm])
  refine ((unhide HFF) _ B0).mono ?_
  rintro e w1 ⟨rfl, hb1⟩
  have B1 : Below w.heap.size w w1 := B0.trans (hb1.mono B0.size)
  have hX1 := hX0.below hb1 hX0.lt
  clear hb1 B0 hX0 hw0 HFF
  by_cases hbad : firstBad ps = 0
  · have HC := hide ((unhide HLT) w1 B1 (firstBad_all ps hbad))
    have fin := hide (encAll_ok hmany hbad)
    rw [hbad]
    clear hbad hmany HLT
    generalize J.bytes (linesK ps ps.length) = T at *
    go_wp2_with fail
    refine (unhide HC).mono ?_
    rintro e w2 ⟨rfl, hb2⟩
    have BW := B1.trans (hb2.mono B1.size)
    have hX := hX1.below hb2 hX1.lt
    clear hX1 hb2 HC
    have r0 := hX.cell 0
    have r1 := hX.cell 1
    have z0 := hX.frozen 0
    have z1 := hX.frozen 1
    simp only [List.getElem?_cons_zero, List.getElem?_cons_succ] at r0 r1
    go_wp2_with fail
    refine bodyPost_ret (v := .agg #[.int .i64 0, .string T]) (by simp [results, Tryd.results7, go_sem, r0, r1]) rfl ⟨by rw [unhide fin], ?_⟩
    exact (BW.setCell (Nat.le_refl _) _).setCell (Nat.le_refl _) _
  · have fin := hide (encAll_bad hmany hbad)
    have hz' : (firstBad ps == 0) = false := by simp [hbad]
    clear hbad
    generalize firstBad ps = q at *
    have r0 := hX1.cell 0
    have r1 := hX1.cell 1
    have z0 := hX1.frozen 0
    have z1 := hX1.frozen 1
    simp only [List.getElem?_cons_zero, List.getElem?_cons_succ] at r0 r1
    go_wp2_with fail
    refine bodyPost_ret (v := .agg #[.int .i64 q, .string ByteArray.empty]) (by simp [results, Tryd.results7, go_sem, r0, r1]; try rfl) rfl ⟨by rw [unhide fin], ?_⟩
    exact (B1.setCell (Nat.le_refl _) _).setCell (Nat.le_refl _) _

end Go.Proofs.YtejibmfenlcbiaaDoor
