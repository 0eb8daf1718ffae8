/-
  The text of a core, plainly; impl.CoreText.
  spec.CoreText.
-/
import Derived.Test.YtcolohilnmikiaaDoorCorF
import Derived.Test.YtcolohilnmikiaaDoorEncW
import Derived.Test.YtcolohilnmikiaaDoorCorG
import Derived.Lib.ItoaLen
import Derived.Lib.BufferRead
namespace Go.Proofs.YtcolohilnmikiaaDoor
open Go.RowKit
set_option linter.unusedVariables false
set_option linter.unusedSimpArgs false


namespace Co
theorem enc_len {p : List M.Cl} (hv : M.valueFault p = 0) : (J.encL 200 p).length ≤ 80000 := by
  have hl := (M.fault_zero hv).1
  have hpl : (part p 0).length ≤ 200 := by have := part_len hv (show 0 < p.length by omega); have := (end_gt hv (show 0 < p.length by omega)).2; have := (M.fault_zero hv).2.1; omega
  rw [← J.encL_whole 199 hv (by omega)]
  exact J.enc_bd 200 hv (by omega) hpl
def six (i : Nat) (c : Co) : List Int := [(i : Int), c.op, c.a, c.b, c.c, c.num]
/-- The first k numbers of a line, each with a blank. -/
def numsT (xs : List Int) : Nat → List UInt8
  | 0 => []
  | k + 1 => numsT xs k ++ (Lib.itoa (xs.getD k 0) ++ [32])
def lineT (i : Nat) (c : Co) : List UInt8 := numsT (six i c) 6 ++ ((if hasVal c.op = true then J.encL 200 c.val else [45]) ++ [10])
def linesT (l : List Co) : Nat → List UInt8
  | 0 => []
  | k + 1 => linesT l k ++ lineT k (l.getD k zero)
def textOut (l : List Co) : Int × ByteArray := if fault l ≠ 0 then (fault l, ByteArray.empty) else (0, J.bytes (linesT l l.length))
theorem nums_len (xs : List Int) (k : Nat) (h : ∀ j, j < k → 0 ≤ xs.getD j 0 ∧ xs.getD j 0 ≤ 1000000) : (numsT xs k).length ≤ 22 * k := by
  induction k with
  | zero => simp [numsT]
  | succ k ih =>
    have h1 := ih (fun j hj => h j (by omega))
    have h2 := Lib.itoa_length_le (xs.getD k 0) (by have := h k (by omega); omega) (by have := h k (by omega); omega)
    rw [numsT, List.length_append, List.length_append]
    simp only [List.length_cons, List.length_nil]
    omega
/-- What is known of the numbers of a node without a fault. -/
theorem six_bd {l : List Co} (h : nf l l.length = 0) (h900 : l.length ≤ 900) {i : Nat} (hi : i < l.length) : ∀ j, j < 6 → 0 ≤ (six i (l.getD i zero)).getD j 0 ∧ (six i (l.getD i zero)).getD j 0 ≤ 1000000 := by
  have hp := node_parts (nf_all h i hi)
  have hl := (form_parts hp.2.1).1
  have hnb : 0 ≤ (l.getD i zero).num ∧ (l.getD i zero).num ≤ 59 := by
    have h1 : 0 ≤ low (l.getD i zero).op := by unfold low; split <;> omega
    have h2 : high (l.getD i zero).op ≤ 59 := by unfold high; split <;> (try split) <;> (try split) <;> omega
    have := hp.2.2.2
    omega
  have key : ∀ (p : Bool) (x : Int), Tr.one p x i = true → 0 ≤ x ∧ x ≤ 1000 := fun p x hx => by
    cases p with
    | true => have := Tr.one_named hx rfl; omega
    | false => have := Tr.one_not hx rfl; omega
  unfold Tr.linksOk at hl
  rw [Bool.and_eq_true, Bool.and_eq_true] at hl
  have ha := key _ _ hl.1
  have hb := key _ _ hl.2.1
  have hc := key _ _ hl.2.2
  intro j hj
  have hop := hp.1
  generalize l.getD i zero = c at *
  have hh : j = 0 ∨ j = 1 ∨ j = 2 ∨ j = 3 ∨ j = 4 ∨ j = 5 := by omega
  rcases hh with rfl | rfl | rfl | rfl | rfl | rfl
  · show 0 ≤ (i : Int) ∧ (i : Int) ≤ 1000000; omega
  · show 0 ≤ c.op ∧ c.op ≤ 1000000; omega
  · show 0 ≤ c.a ∧ c.a ≤ 1000000; omega
  · show 0 ≤ c.b ∧ c.b ≤ 1000000; omega
  · show 0 ≤ c.c ∧ c.c ≤ 1000000; omega
  · show 0 ≤ c.num ∧ c.num ≤ 1000000; omega
/-- A node that holds a value holds one without a fault; the others hold none. -/
theorem val_ok {l : List Co} (h : nf l l.length = 0) {i : Nat} (hi : i < l.length) : (hasVal (l.getD i zero).op = true → M.valueFault (l.getD i zero).val = 0) ∧ (hasVal (l.getD i zero).op = false → (l.getD i zero).val.length = 0) := by
  have hp := (node_parts (nf_all h i hi)).2.2.1
  unfold valF at hp
  constructor
  · intro hv
    rw [if_pos hv] at hp
    by_cases hz : M.valueFault (l.getD i zero).val = 0
    · exact hz
    · rw [if_pos hz] at hp; exact absurd hp hz
  · intro hv
    rw [if_neg (by rw [hv]; decide)] at hp
    by_cases hz : 0 < (l.getD i zero).val.length
    · rw [if_pos hz] at hp; cases hp
    · omega
theorem line_len {l : List Co} (h : nf l l.length = 0) (h900 : l.length ≤ 900) {i : Nat} (hi : i < l.length) : (lineT i (l.getD i zero)).length ≤ 80140 := by
  have h1 := nums_len (six i (l.getD i zero)) 6 (six_bd h h900 hi)
  have h2 := val_ok h hi
  unfold lineT
  rw [List.length_append, List.length_append]
  simp only [List.length_cons, List.length_nil]
  cases hv : hasVal (l.getD i zero).op with
  | true =>
    rw [if_pos rfl]
    have := enc_len (h2.1 hv)
    omega
  | false => rw [if_neg (by decide)]; simp only [List.length_cons, List.length_nil]; omega
theorem lines_len {l : List Co} (h : nf l l.length = 0) (h900 : l.length ≤ 900) (k : Nat) (hk : k ≤ l.length) : (linesT l k).length ≤ 80140 * k := by
  induction k with
  | zero => simp [linesT]
  | succ k ih =>
    have h1 := ih (by omega)
    have h2 := line_len h h900 (i := k) (by omega)
    rw [linesT, List.length_append]
    omega
theorem lines_room {l : List Co} (h : nf l l.length = 0) (h900 : l.length ≤ 900) (k : Nat) (hk : k ≤ l.length) : (linesT l k).length ≤ 72200000 := by
  have := lines_len h h900 k hk
  have : 80140 * k ≤ 80140 * 900 := Nat.mul_le_mul_left _ (by omega)
  omega
theorem fault_two {l : List Co} (h : fault l = 0) : l.length ≤ 900 ∧ nf l l.length = 0 := by
  unfold fault at h
  split at h
  · cases h
  split at h
  · rename_i h2; exact absurd h h2
  · rename_i h1 h2; exact ⟨by omega, by simpa using h2⟩
theorem digits_itoa (u : Nat) : (⟨(Lib.decDigits u).toArray⟩ : ByteArray) = J.bytes (Lib.itoa u) := by
  unfold Lib.itoa; rw [if_neg (by omega), Int.toNat_natCast]; rfl
end Co

theorem six_index (k : Nat) (n : Co) (j : Nat) (hj : j < 6) (w : World) : (Instr.index 63 (.agg #[.int .i64 k, .int .i64 n.op, .int .i64 n.a, .int .i64 n.b, .int .i64 n.c, .int .i64 n.num]) (.int .i64 (j : Int))).run Tryd.prog w = .ok (.int .i64 ((Co.six k n).getD j 0)) w := by
  have hh : j = 0 ∨ j = 1 ∨ j = 2 ∨ j = 3 ∨ j = 4 ∨ j = 5 := by omega
  rcases hh with rfl | rfl | rfl | rfl | rfl | rfl
  all_goals simp [Instr.index, run_underlying Tryd.underlying63, asIntOf, part, go_sem, Co.six]

set_option maxRecDepth 100000 in
set_option maxHeartbeats 8000000 in
theorem implCoreText_any (b : Nat) (l : List Co) (w : World) (hrow : Co.Row w b l) (hb : b < w.heap.size) (hn : l.length ≤ 1048576) (hsz : ∀ i, i < l.length → (l.getD i Co.zero).val.length ≤ 1048576) (hok : ∀ c ∈ l, c.ok) (htab : Lib.TabBelow Tryd.prog w.heap.size w "internal/strconv.uint64pow10" .u64 Lib.pow10Tab) :
    Calls Tryd.prog 14 #[.slice (some ⟨b, 0, none⟩) l.length l.length] w fun e w' => e = .returned (.agg #[.int .i64 (Co.textOut l).1, .string (Co.textOut l).2]) ∧ Below w.heap.size w w' := by
  have HR := hide hrow
  have HK := hide hok
  have HT := hide htab
  obtain ⟨i0, hi, hz0, hz1, hz2⟩ := info_parts Tryd.info5
  obtain ⟨w0, hw0⟩ : ∃ w0, w0 = w.alloc (.cells #[.int .i64 0, .string ByteArray.empty] 25) := ⟨_, rfl⟩
  have B0 : Below w.heap.size w w0 := by rw [hw0]; exact (Below.refl _ _).alloc (Nat.le_refl _) _
  have hX0 : Own w0 w.heap.size 25 [.int .i64 0, .string ByteArray.empty] := by rw [hw0]; exact ⟨_, heap_alloc_new _ _, rfl⟩
  have HC := hide (implCoreFault_any b l w0 (hrow.below B0 hb) (Nat.lt_of_lt_of_le hb B0.size) hn hsz hok)
  clear hrow hok htab
  go_enter Tryd.func14, Tryd.ntmps14
  go_wp2_with fail
  try (rw [show (w.alloc (.cells #[.int .i64 0, .string { data := #[] }] 25)) = w0 from hw0.symm])
  clear hw0
  refine (unhide HC).mono ?_
  rintro e w1 ⟨rfl, hb1⟩
  have B1 : Below w.heap.size w w1 := B0.trans (hb1.mono B0.size)
  have hX1 := hX0.below hb1 hX0.lt
  clear HC hb1 hX0 B0
  by_cases hf : Co.fault l = 0
  case neg =>
    have fin := hide (show Co.textOut l = (Co.fault l, ByteArray.empty) by unfold Co.textOut; rw [if_pos hf])
    generalize Co.fault l = q at *
    have g1 : (q != 0) = true := by simpa using hf
    have r0 := hX1.cell 0
    have r1 := hX1.cell 1
    have z0 := hX1.frozen 0
    have z1 := hX1.frozen 1
    simp only [List.getElem?_cons_zero, List.getElem?_cons_succ] at r0 r1
    go_wp2_with fail
    refine bodyPost_ret (v := .agg #[.int .i64 q, .string ByteArray.empty]) (by simp [results, Tryd.results14, go_sem, r0, r1]; try rfl) rfl ⟨by rw [unhide fin], ?_⟩
    exact (B1.setCell (Nat.le_refl _) _).setCell (Nat.le_refl _) _
  case pos =>
  obtain ⟨h900, hnf⟩ := Co.fault_two hf
  have fin := hide (show Co.textOut l = (0, J.bytes (Co.linesT l l.length)) by unfold Co.textOut; rw [if_neg (by simpa using hf)])
  have HNF := hide hnf
  rw [hf]
  clear hf hnf
  obtain ⟨base, hbe⟩ : ∃ base, base = w1.heap.size := ⟨_, rfl⟩
  have hbase0 : base ≤ w1.heap.size := by omega
  have hbase1 : w.heap.size ≤ base := by have := B1.size; omega
  have HBE := hide hbe
  have hbb : b < base := by have := B1.size; omega
  clear hbe
  go_wp2_with fail
  go_loopg [4, 17] l.length (fun gh s4 s17 wr => ∃ k : Nat, Hid (gh = l.length - k) ∧ s17 = .int .i64 k ∧ k ≤ l.length ∧ wr.ownsRow base 5 1 s4 (Co.linesT l k).length (J.bv (Co.linesT l k)) ∧ Bk base w1 wr)
  case atStart => exact ⟨0, rfl, rfl, by omega, World.ownsRow_nil _ _ _ _, Bk.refl _ _⟩
  case round =>
    obtain ⟨k, hg, rfl, hk, hown, hbel⟩ := hrel
    have hll := Co.lines_room (unhide HNF) h900 k hk
    have BW : Below w.heap.size w wr := B1.trans (hbel.1.mono hbase1)
    have hX := hX1.below hbel.1 (by rw [unhide HBE]; exact hX1.lt)
    obtain ⟨L, hL⟩ : ∃ L, L = Co.linesT l k := ⟨_, rfl⟩
    rw [← hL] at hown hll
    have HLL := hide hL
    clear hL
    obtain ⟨xa, xn, xc, rfl⟩ := owns_shape hown
    by_cases hlt : k < l.length
    · have hltI : (k : Int) < (l.length : Int) := by omega
      obtain ⟨f0, f1, f2, f3, f4, vg, f5, hvg, hvr⟩ := ((unhide HR).below B1 hb) k hlt
      have hvb : vg < base := by rw [unhide HBE]; exact hvg
      have hbd := hide (Co.six_bd (unhide HNF) h900 hlt)
      have hvo := hide (Co.val_ok (unhide HNF) hlt)
      have hline := hide (show Co.linesT l (k + 1) = Co.linesT l k ++ (Co.numsT (Co.six k (l.getD k Co.zero)) 6 ++ ((if Co.hasVal (l.getD k Co.zero).op = true then J.encL 200 (l.getD k Co.zero).val else [45]) ++ [10])) from rfl)
      have HVR := hide (hvr.below hbel.1 hvb)
      have e0 := (hbel.1.cell (by exact hbb)).trans f0
      have e1 := (hbel.1.cell (by exact hbb)).trans f1
      have e2 := (hbel.1.cell (by exact hbb)).trans f2
      have e3 := (hbel.1.cell (by exact hbb)).trans f3
      have e4 := (hbel.1.cell (by exact hbb)).trans f4
      have e5 := (hbel.1.cell (by exact hbb)).trans f5
      have HIX := hide (fun j hj wq => six_index k (l.getD k Co.zero) j hj wq)
      clear hlt hvr f0 f1 f2 f3 f4 f5
      generalize l.getD k Co.zero = n at *
      obtain ⟨XS, hXS⟩ : ∃ XS, XS = Co.six k n := ⟨_, rfl⟩
      rw [← hXS] at hbd hline HIX
      clear hXS
      obtain ⟨w2, hw2⟩ : ∃ w2, w2 = wr.alloc (.cells #[.int .i64 n.op, .int .i64 n.a, .int .i64 n.b, .int .i64 n.c, .int .i64 n.num, .slice (some ⟨vg, 0, none⟩) n.val.length n.val.length] 56) := ⟨_, rfl⟩
      have hbw : base ≤ wr.heap.size := by have := hbel.size; omega
      have K2 : Bk base wr w2 := by rw [hw2]; exact (Bk.refl _ _).alloc hbw _
      have N2 : Own w2 wr.heap.size 56 [.int .i64 n.op, .int .i64 n.a, .int .i64 n.b, .int .i64 n.c, .int .i64 n.num, .slice (some ⟨vg, 0, none⟩) n.val.length n.val.length] := by rw [hw2]; exact ⟨_, heap_alloc_new _ _, rfl⟩
      have hown2 : w2.ownsRow base 5 1 (.slice xa xn xc) L.length (J.bv L) := by rw [hw2]; exact hown.alloc _
      have c0 := N2.cell 0
      have c1 := N2.cell 1
      have c2 := N2.cell 2
      have c3 := N2.cell 3
      have c4 := N2.cell 4
      simp only [List.getElem?_cons_zero, List.getElem?_cons_succ] at c0 c1 c2 c3 c4
      rw [hw2] at c0 c1 c2 c3 c4
      clear hown
      go_wp2_with fail
      try rw [← hw2]
      clear hw2 c0 c1 c2 c3 c4 e0 e1 e2 e3 e4 e5
      go_loopg [4, 34] 6 (fun gh s4 s34 w3 => ∃ (j : Nat) (P : List UInt8), Hid (gh = 6 - j) ∧ s34 = .int .i64 j ∧ j ≤ 6 ∧ Hid (P = L ++ Co.numsT XS j) ∧ P.length ≤ 72300000 ∧ w3.ownsRow base 5 1 s4 P.length (J.bv P) ∧ Bk base w2 w3)
      case atStart => exact ⟨0, L, rfl, rfl, by omega, by (show _ = _; simp [Co.numsT]), by omega, hown2, Bk.refl _ _⟩
      case round =>
        clear hown2
        obtain ⟨j, P, hgj, rfl, hj, hP, hPl, hown3, hbel3⟩ := hrel
        obtain ⟨ya, yn, yc, rfl⟩ := owns_shape hown3
        have KW : Bk base w2 wr := hbel3
        by_cases hjl : j < 6
        · have hjI : (j : Int) < 6 := by omega
          have hb6 := (unhide hbd) j hjl
          have hix := fun wq => (unhide HIX) j hjl wq
          have hil := Lib.itoa_length_le (XS.getD j 0) (by omega) (by omega)
          have hnl := Co.nums_len XS (j + 1) (fun i hi => (unhide hbd) i (by omega))
          have hns := hide (show Co.numsT XS (j + 1) = Co.numsT XS j ++ (Lib.itoa (XS.getD j 0) ++ [32]) from rfl)
          generalize XS.getD j 0 = u at *
          have HI := hide (Tryd.strconv_AppendInt_10 base P.length u (by omega) (by omega) (.slice ya yn yc) (J.bv P) wr hown3 (by have := hbel3.size; have := K2.size; omega) (by omega) (fun w' hb' => (unhide HT) w' (BW.trans (((K2.1.trans hbel3.1).trans hb').mono hbase1))))
          have hwrb : base ≤ wr.heap.size := by have := hbel3.size; have := K2.size; omega
          clear hown3 hjl hb6
          go_wp2_with fail
          refine (unhide HI).mono ?_
          rintro e w4 ⟨v4, rfl, ho4, hb4, hk4⟩
          obtain ⟨P4, hP4⟩ : ∃ P4, P4 = P ++ Lib.itoa u := ⟨_, rfl⟩
          have w4o : w4.ownsRow base 5 1 v4 P4.length (J.bv P4) := by rw [hP4, List.length_append, ← bv_app]; exact ho4
          have w4b : Bk base wr w4 := ⟨hb4, hk4⟩
          have l4 : P4.length ≤ P.length + 21 := by rw [hP4, List.length_append]; omega
          have EP4 := hide hP4
          clear ho4 hP4 HI hb4 hk4
          obtain ⟨za, zn, zc, rfl⟩ := owns_shape w4o
          clear hix
          have hownw5 := hide (fun o => (w4o).alloc o)
          have honew5 := hide (J.one_word w4 32)
          have honepw5 := hide (J.one_plain 32)
          have hb63w5 : (P4).length + 1 ≤ maxLen := by unfold maxLen; omega
          have hbyw5 : ((P4).length + 1) * 1 ≤ 140737488355328 := by omega
          have hbasw5 : base ≤ w4.heap.size + 1 := by have := (w4b).size; omega
          have hbsew5 := hide (J.owns_base w4o)
          have hbsrw5 := hide (fun o => J.owns_row ((w4o).alloc o))
          clear w4o
          go_wp2_with (at_builtin; refine wpList_append_own _ rfl (.tmp 39) (.tmp 40) 62 rfl base 5 i0 (.int .u8 0) 1 1 Tryd.underlying62 hi hz0 hz1 hz2 rfl (by decide) _ (P4).length _ rfl ((unhide hownw5) _) ⟨w4.heap.size, 0, none⟩ 1 1 [.int .u8 32] rfl rfl (unhide honew5) (unhide honepw5) hb63w5 hbyw5 (by simpa using hbasw5) ?_)
          intro vw5 w5 w5h hgw5 _
          have w5b : Bk base wr w5 := ((w4b).alloc (by have := (w4b).size; omega) _).grown hgw5 (by simpa using hbasw5) (unhide hbsew5) ((unhide hbsrw5) _)
          obtain ⟨P5, ew5⟩ : ∃ L', L' = P4 ++ [32] := ⟨_, rfl⟩
          have w5o : w5.ownsRow base 5 1 vw5 P5.length (J.bv P5) := by rw [ew5, List.length_append, ← J.bv_snoc]; exact w5h
          have lw5 : P5.length ≤ (P4).length + 1 := by rw [ew5, List.length_append]; exact Nat.le_refl _
          have Ew5 := hide ew5
          clear hgw5 w5h ew5 hownw5 honew5 honepw5 hb63w5 hbyw5 hbasw5 hbsew5 hbsrw5
          obtain ⟨xaw5, xnw5, xcw5, rfl⟩ := owns_shape w5o
          have hP5 := hide (show P5 = L ++ Co.numsT XS (j + 1) by rw [unhide Ew5, unhide EP4, hP.out, unhide hns, List.append_assoc, List.append_assoc])
          have hl5 : P5.length ≤ 72300000 := by rw [unhide hP5, List.length_append]; omega
          have W5O := hide w5o
          clear w5o
          go_wp2_with fail
          go_roundg (6 - (j + 1))
          case rel => exact ⟨j + 1, P5, rfl, by go_num, by omega, unhide hP5, hl5, unhide W5O, KW.trans w5b⟩
          case measure => have := hgj.out; omega
        · have hje : j = 6 := by omega
          subst hje
          have N3 := hbel3.own N2 (by decide)
          have c5 := N3.cell 5
          simp only [List.getElem?_cons_zero, List.getElem?_cons_succ] at c5
          have K3 := K2.trans hbel3
          have hwrb : base ≤ wr.heap.size := by have := K3.size; omega
          have kr : Bk base wr wr := Bk.refl _ _
          cases hv : Co.hasVal n.op with
          | true =>
            have hz := (unhide hvo).1 hv
            have hl1 := (M.fault_zero hz).1
            have g1 : ((n.val.length : Int) == 0) = false := beq_eq_false_iff_ne.2 (by omega)
            have hpl : (part n.val 0).length ≤ 200 := by have := part_len hz (show 0 < n.val.length by omega); have := (end_gt hz (show 0 < n.val.length by omega)).2; have := (M.fault_zero hz).2.1; omega
            have hel := Co.enc_len hz
            have HC2 := hide (appendText_any 200 n.val 0 vg 0 n.val.length base (.slice ya yn yc) P wr hz (by omega) hpl ((unhide HVR).below K3.1 hvb) hvb (Nat.le_refl _) hwrb (by omega) hown3 (fun w' hb' => (unhide HT) w' (BW.trans ((K3.1.trans hb').mono hbase1))))
            rw [J.encL_whole 199 hz (by omega)] at HC2
            have hn2 := hide (show Co.linesT l (k + 1) = (P ++ J.encL 200 n.val) ++ [10] by rw [unhide hline, hv, if_pos rfl, hP.out, unhide HLL, List.append_assoc, List.append_assoc])
            clear hz hvo hline hpl hown3 hl1
            go_wp2_with fail
            refine (unhide HC2).mono ?_
            rintro e w4 ⟨v4, rfl, ho4, w4b⟩
            obtain ⟨P4, hP4⟩ : ∃ P4, P4 = P ++ J.encL 200 n.val := ⟨_, rfl⟩
            have w4o : w4.ownsRow base 5 1 v4 P4.length (J.bv P4) := by rw [hP4]; exact ho4
            have l4 : P4.length ≤ 72400000 := by rw [hP4, List.length_append]; omega
            rw [← hP4] at hn2
            clear ho4 hP4 HC2
            obtain ⟨za, zn, zc, rfl⟩ := owns_shape w4o
            have hownw5 := hide (fun o => (w4o).alloc o)
            have honew5 := hide (J.one_word w4 10)
            have honepw5 := hide (J.one_plain 10)
            have hb63w5 : (P4).length + 1 ≤ maxLen := by unfold maxLen; omega
            have hbyw5 : ((P4).length + 1) * 1 ≤ 140737488355328 := by omega
            have hbasw5 : base ≤ w4.heap.size + 1 := by have := (w4b).size; omega
            have hbsew5 := hide (J.owns_base w4o)
            have hbsrw5 := hide (fun o => J.owns_row ((w4o).alloc o))
            clear w4o
            go_wp2_with (at_builtin; refine wpList_append_own _ rfl (.tmp 54) (.tmp 55) 62 rfl base 5 i0 (.int .u8 0) 1 1 Tryd.underlying62 hi hz0 hz1 hz2 rfl (by decide) _ (P4).length _ rfl ((unhide hownw5) _) ⟨w4.heap.size, 0, none⟩ 1 1 [.int .u8 10] rfl rfl (unhide honew5) (unhide honepw5) hb63w5 hbyw5 (by simpa using hbasw5) ?_)
            intro vw5 w5 w5h hgw5 _
            have w5b : Bk base wr w5 := ((w4b).alloc (by have := (w4b).size; omega) _).grown hgw5 (by simpa using hbasw5) (unhide hbsew5) ((unhide hbsrw5) _)
            obtain ⟨P5, ew5⟩ : ∃ L', L' = P4 ++ [10] := ⟨_, rfl⟩
            have w5o : w5.ownsRow base 5 1 vw5 P5.length (J.bv P5) := by rw [ew5, List.length_append, ← J.bv_snoc]; exact w5h
            have lw5 : P5.length ≤ (P4).length + 1 := by rw [ew5, List.length_append]; exact Nat.le_refl _
            have Ew5 := hide ew5
            clear hgw5 w5h ew5 hownw5 honew5 honepw5 hb63w5 hbyw5 hbasw5 hbsew5 hbsrw5
            obtain ⟨xaw5, xnw5, xcw5, rfl⟩ := owns_shape w5o
            have W5O := hide (show w5.ownsRow base 5 1 (.slice xaw5 xnw5 xcw5) (Co.linesT l (k + 1)).length (J.bv (Co.linesT l (k + 1))) by
              have e : P5 = Co.linesT l (k + 1) := by rw [unhide Ew5, unhide hn2]
              rw [← e]; exact w5o)
            clear w5o
            go_wp2_with fail
            go_roundg (l.length - (k + 1))
            case rel => exact ⟨k + 1, rfl, by go_num, by omega, unhide W5O, (hbel.trans K3).trans w5b⟩
            case measure => have := hg.out; omega
          | false =>
            have hl0 := (unhide hvo).2 hv
            have hn2 := hide (show Co.linesT l (k + 1) = (P ++ [45]) ++ [10] by rw [unhide hline, hv, if_neg (by decide), hP.out, unhide HLL, List.append_assoc, List.append_assoc])
            have g1 : ((n.val.length : Int) == 0) = true := by rw [hl0]; rfl
            have w3o := hown3
            clear hvo hline hown3 hl0
            have hownw4 := hide (fun o => (w3o).alloc o)
            have honew4 := hide (J.one_word wr 45)
            have honepw4 := hide (J.one_plain 45)
            have hb63w4 : (P).length + 1 ≤ maxLen := by unfold maxLen; omega
            have hbyw4 : ((P).length + 1) * 1 ≤ 140737488355328 := by omega
            have hbasw4 : base ≤ wr.heap.size + 1 := by have := (kr).size; omega
            have hbsew4 := hide (J.owns_base w3o)
            have hbsrw4 := hide (fun o => J.owns_row ((w3o).alloc o))
            clear w3o
            go_wp2_with (at_builtin; refine wpList_append_own _ rfl (.tmp 47) (.tmp 48) 62 rfl base 5 i0 (.int .u8 0) 1 1 Tryd.underlying62 hi hz0 hz1 hz2 rfl (by decide) _ (P).length _ rfl ((unhide hownw4) _) ⟨wr.heap.size, 0, none⟩ 1 1 [.int .u8 45] rfl rfl (unhide honew4) (unhide honepw4) hb63w4 hbyw4 (by simpa using hbasw4) ?_)
            intro vw4 w4 w4h hgw4 _
            have w4b : Bk base wr w4 := ((kr).alloc (by have := (kr).size; omega) _).grown hgw4 (by simpa using hbasw4) (unhide hbsew4) ((unhide hbsrw4) _)
            obtain ⟨P4, ew4⟩ : ∃ L', L' = P ++ [45] := ⟨_, rfl⟩
            have w4o : w4.ownsRow base 5 1 vw4 P4.length (J.bv P4) := by rw [ew4, List.length_append, ← J.bv_snoc]; exact w4h
            have lw4 : P4.length ≤ (P).length + 1 := by rw [ew4, List.length_append]; exact Nat.le_refl _
            have Ew4 := hide ew4
            clear hgw4 w4h ew4 hownw4 honew4 honepw4 hb63w4 hbyw4 hbasw4 hbsew4 hbsrw4
            obtain ⟨xaw4, xnw4, xcw4, rfl⟩ := owns_shape w4o
            have hownw5 := hide (fun o => (w4o).alloc o)
            have honew5 := hide (J.one_word w4 10)
            have honepw5 := hide (J.one_plain 10)
            have hb63w5 : (P4).length + 1 ≤ maxLen := by unfold maxLen; omega
            have hbyw5 : ((P4).length + 1) * 1 ≤ 140737488355328 := by omega
            have hbasw5 : base ≤ w4.heap.size + 1 := by have := (w4b).size; omega
            have hbsew5 := hide (J.owns_base w4o)
            have hbsrw5 := hide (fun o => J.owns_row ((w4o).alloc o))
            clear w4o
            go_wp2_with (at_builtin; refine wpList_append_own _ rfl (.tmp 54) (.tmp 55) 62 rfl base 5 i0 (.int .u8 0) 1 1 Tryd.underlying62 hi hz0 hz1 hz2 rfl (by decide) _ (P4).length _ rfl ((unhide hownw5) _) ⟨w4.heap.size, 0, none⟩ 1 1 [.int .u8 10] rfl rfl (unhide honew5) (unhide honepw5) hb63w5 hbyw5 (by simpa using hbasw5) ?_)
            intro vw5 w5 w5h hgw5 _
            have w5b : Bk base wr w5 := ((w4b).alloc (by have := (w4b).size; omega) _).grown hgw5 (by simpa using hbasw5) (unhide hbsew5) ((unhide hbsrw5) _)
            obtain ⟨P5, ew5⟩ : ∃ L', L' = P4 ++ [10] := ⟨_, rfl⟩
            have w5o : w5.ownsRow base 5 1 vw5 P5.length (J.bv P5) := by rw [ew5, List.length_append, ← J.bv_snoc]; exact w5h
            have lw5 : P5.length ≤ (P4).length + 1 := by rw [ew5, List.length_append]; exact Nat.le_refl _
            have Ew5 := hide ew5
            clear hgw5 w5h ew5 hownw5 honew5 honepw5 hb63w5 hbyw5 hbasw5 hbsew5 hbsrw5
            obtain ⟨xaw5, xnw5, xcw5, rfl⟩ := owns_shape w5o
            have W5O := hide (show w5.ownsRow base 5 1 (.slice xaw5 xnw5 xcw5) (Co.linesT l (k + 1)).length (J.bv (Co.linesT l (k + 1))) by
              have e : P5 = Co.linesT l (k + 1) := by rw [unhide Ew5, unhide Ew4, unhide hn2]
              rw [← e]; exact w5o)
            clear w5o
            go_wp2_with fail
            go_roundg (l.length - (k + 1))
            case rel => exact ⟨k + 1, rfl, by go_num, by omega, unhide W5O, (hbel.trans K3).trans w5b⟩
            case measure => have := hg.out; omega
    · have hge : ¬ (k : Int) < (l.length : Int) := by omega
      have hke : k = l.length := by omega
      have hLe : L = Co.linesT l l.length := by rw [unhide HLL, hke]
      rw [← hLe] at fin
      have r0 := hX.cell 0
      have r1 := hX.cell 1
      have z0 := hX.frozen 0
      have z1 := hX.frozen 1
      simp only [List.getElem?_cons_zero, List.getElem?_cons_succ] at r0 r1
      rcases hown.2 with ⟨hnil, h0⟩ | ⟨g2, cap2, cur, hsome, hgb, _⟩
      · cases hnil
        have hL0 : L = [] := List.length_eq_zero_iff.1 h0
        rw [hL0] at fin
        have hcv : (convert 62 9 (.slice none 0 0)).run Tryd.prog wr = .ok (.string ByteArray.empty) wr := Lib.run_convert_nil_bytes wr 62 9 5 0 Tryd.underlying62 Tryd.underlying5 Tryd.underlying9
        clear hLe hL0 h0 HLL hke hll hown
        go_wp2_with fail
        refine bodyPost_ret (v := .agg #[.int .i64 0, .string ByteArray.empty]) (by simp [results, Tryd.results14, go_sem, r0, r1]; try rfl) rfl ⟨by rw [unhide fin]; rfl, ?_⟩
        exact (BW.setCell (Nat.le_refl _) _).setCell (Nat.le_refl _) _
      · obtain ⟨rfl, rfl, rfl⟩ : xa = some ⟨g2, 0, none⟩ ∧ xn = L.length ∧ xc = cap2 := by injection hsome with e1 e2 e3; exact ⟨e1, e2, e3⟩
        have hcv := show (convert 62 9 (.slice (some ⟨g2, 0, none⟩) L.length xc)).run Tryd.prog wr = .ok (.string (J.bytes L)) wr from
          run_convert_bytes_back _ _ _ 5 _ xc _ Tryd.underlying62 Tryd.underlying5 Tryd.underlying9 (J.owns_cells hown)
        clear hown hLe HLL hke hll
        generalize L.length = n at *
        generalize J.bytes L = q at *
        go_wp2_with fail
        refine bodyPost_ret (v := .agg #[.int .i64 0, .string q]) (by simp [results, Tryd.results14, go_sem, r0, r1]) rfl ⟨by rw [unhide fin], ?_⟩
        exact (BW.setCell (Nat.le_refl _) _).setCell (Nat.le_refl _) _

end Go.Proofs.YtcolohilnmikiaaDoor

namespace Go.Proofs.YtcolohilnmikiaaDoor
open Go.RowKit
set_option linter.unusedVariables false
set_option linter.unusedSimpArgs false


set_option maxRecDepth 100000 in
set_option maxHeartbeats 4000000 in
theorem specCoreText_any (b : Nat) (l : List Co) (w : World) (hrow : Co.Row w b l) (hb : b < w.heap.size) (hn : l.length ≤ 1048576) (hsz : ∀ i, i < l.length → (l.getD i Co.zero).val.length ≤ 1048576) (hok : ∀ c ∈ l, c.ok) :
    Calls Tryd.prog 12 #[.slice (some ⟨b, 0, none⟩) l.length l.length] w fun e w' => e = .returned (.agg #[.int .i64 (Co.textOut l).1, .string (Co.textOut l).2]) ∧ Below w.heap.size w w' := by
  have HR := hide hrow
  have HK := hide hok
  obtain ⟨w0, hw0⟩ : ∃ w0, w0 = w.alloc (.cells #[.int .i64 0, .string ByteArray.empty] 25) := ⟨_, rfl⟩
  have B0 : Below w.heap.size w w0 := by rw [hw0]; exact (Below.refl _ _).alloc (Nat.le_refl _) _
  have hX0 : Own w0 w.heap.size 25 [.int .i64 0, .string ByteArray.empty] := by rw [hw0]; exact ⟨_, heap_alloc_new _ _, rfl⟩
  have HC := hide (specCoreFault_any b l w0 (hrow.below B0 hb) (Nat.lt_of_lt_of_le hb B0.size) hn hsz hok)
  clear hrow hok
  go_enter Tryd.func12, Tryd.ntmps12
  go_wp2_with fail
  try (rw [show (w.alloc (.cells #[.int .i64 0, .string { data := #[] }] 25)) = w0 from hw0.symm])
  clear hw0
  refine (unhide HC).mono ?_
  rintro e w1 ⟨rfl, hb1⟩
  have B1 : Below w.heap.size w w1 := B0.trans (hb1.mono B0.size)
  have hX1 := hX0.below hb1 hX0.lt
  clear HC hb1 hX0 B0
  by_cases hf : Co.fault l = 0
  case neg =>
    have fin := hide (show Co.textOut l = (Co.fault l, ByteArray.empty) by unfold Co.textOut; rw [if_pos hf])
    generalize Co.fault l = q at *
    have g1 : (q != 0) = true := by simpa using hf
    have r0 := hX1.cell 0
    have r1 := hX1.cell 1
    have z0 := hX1.frozen 0
    have z1 := hX1.frozen 1
    simp only [List.getElem?_cons_zero, List.getElem?_cons_succ] at r0 r1
    go_wp2_with fail
    refine bodyPost_ret (v := .agg #[.int .i64 q, .string ByteArray.empty]) (by simp [results, Tryd.results12, go_sem, r0, r1]; try rfl) rfl ⟨by rw [unhide fin], ?_⟩
    exact (B1.setCell (Nat.le_refl _) _).setCell (Nat.le_refl _) _
  case pos =>
  obtain ⟨h900, hnf⟩ := Co.fault_two hf
  have fin := hide (show Co.textOut l = (0, J.bytes (Co.linesT l l.length)) by unfold Co.textOut; rw [if_neg (by simpa using hf)])
  have HNF := hide hnf
  rw [hf]
  clear hf hnf
  go_wp2_with fail
  go_loopg [4, 5, 7, 8] l.length (fun gh s4 s5 s7 s8 wr => ∃ (k : Nat) (o : ByteArray), Hid (gh = l.length - k) ∧ s4 = .string o ∧ s5 = .int .i64 k ∧ k ≤ l.length ∧ Hid (o = J.bytes (Co.linesT l k)) ∧ Below w1.heap.size w1 wr)
  case atStart => exact ⟨0, _, rfl, rfl, rfl, by omega, rfl, Below.refl _ _⟩
  case round =>
    obtain ⟨k, o, hg, rfl, rfl, hk, ho, hbel⟩ := hrel
    have BW : Below w.heap.size w wr := B1.trans (hbel.mono B1.size)
    have hX := hX1.below hbel hX1.lt
    have hosz : o.size ≤ 72200000 := by rw [ho.out, J.bytes_size]; exact Co.lines_room (unhide HNF) h900 k hk
    by_cases hlt : k < l.length
    · have hltI : (k : Int) < (l.length : Int) := by omega
      obtain ⟨f0, f1, f2, f3, f4, vg, f5, hvg, hvr⟩ := ((unhide HR).below BW hb) k hlt
      have hbd := hide (Co.six_bd (unhide HNF) h900 hlt)
      have hvo := hide (Co.val_ok (unhide HNF) hlt)
      have hokv := hide ((unhide HK) _ (co_mem l k hlt)).2.2.2.2.2
      have hline := hide (show Co.linesT l (k + 1) = Co.linesT l k ++ (Co.numsT (Co.six k (l.getD k Co.zero)) 6 ++ ((if Co.hasVal (l.getD k Co.zero).op = true then J.encL 200 (l.getD k Co.zero).val else [45]) ++ [10])) from rfl)
      have HVR := hide hvr
      clear hlt hvr
      generalize l.getD k Co.zero = n at *
      obtain ⟨XS, hXS⟩ : ∃ XS, XS = Co.six k n := ⟨_, rfl⟩
      have HXS := hide hXS
      rw [← hXS] at hbd hline
      clear hXS
      obtain ⟨w2, hw2⟩ : ∃ w2, w2 = (wr.alloc (.cells #[.int .i64 n.op, .int .i64 n.a, .int .i64 n.b, .int .i64 n.c, .int .i64 n.num, .slice (some ⟨vg, 0, none⟩) n.val.length n.val.length] 56)).alloc (.cells #[.int .i64 k, .int .i64 n.op, .int .i64 n.a, .int .i64 n.b, .int .i64 n.c, .int .i64 n.num] 2) := ⟨_, rfl⟩
      have B2 : Below wr.heap.size wr w2 := by rw [hw2]; exact ((Below.refl _ _).alloc (Nat.le_refl _) _).alloc (by simp) _
      have N2 : Own w2 wr.heap.size 56 [.int .i64 n.op, .int .i64 n.a, .int .i64 n.b, .int .i64 n.c, .int .i64 n.num, .slice (some ⟨vg, 0, none⟩) n.val.length n.val.length] := by rw [hw2]; exact Own.alloc ⟨_, heap_alloc_new _ _, rfl⟩ _
      have L2 : Own w2 (wr.heap.size + 1) 2 (XS.map (Value.int .i64)) := by
        rw [hw2, unhide HXS]
        exact ⟨_, by simpa using heap_alloc_new (wr.alloc (.cells #[.int .i64 n.op, .int .i64 n.a, .int .i64 n.b, .int .i64 n.c, .int .i64 n.num, .slice (some ⟨vg, 0, none⟩) n.val.length n.val.length] 56)) (.cells #[.int .i64 k, .int .i64 n.op, .int .i64 n.a, .int .i64 n.b, .int .i64 n.c, .int .i64 n.num] 2), rfl⟩
      have hxl : XS.length = 6 := by rw [unhide HXS]; rfl
      go_wp2_with fail
      try rw [← hw2]
      clear hw2 f0 f1 f2 f3 f4 f5
      go_loopg [4, 8] 6 (fun gh s4 s8 w3 => ∃ (j : Nat) (p : ByteArray), Hid (gh = 6 - j) ∧ s4 = .string p ∧ s8 = .int .i64 j ∧ j ≤ 6 ∧ Hid (p = o ++ J.bytes (Co.numsT XS j)) ∧ p.size ≤ 72300000 ∧ Below w2.heap.size w2 w3)
      case atStart => exact ⟨0, o, rfl, rfl, rfl, by omega, by (show o = _; rw [show J.bytes (Co.numsT XS 0) = ByteArray.empty from rfl, ByteArray.append_empty]), by omega, Below.refl _ _⟩
      case round =>
        obtain ⟨j, p, hgj, rfl, rfl, hj, hp, hps, hbel3⟩ := hrel
        by_cases hjl : j < 6
        · have hjI : (j : Int) < 6 := by omega
          have hb6 := (unhide hbd) j hjl
          have L3 := L2.below hbel3 L2.lt
          have cj : wr.cell? ⟨wr.heap.size, 0, none⟩ = wr.cell? ⟨wr.heap.size, 0, none⟩ := rfl
          have m0 := (L3.cell j).trans (show (XS.map (Value.int .i64))[j]? = some (.int .i64 (XS.getD j 0)) by rw [List.getElem?_map, List.getElem?_eq_getElem (by omega), List.getD_eq_getElem?_getD, List.getElem?_eq_getElem (by omega)]; rfl)
          obtain ⟨u, hu⟩ : ∃ u : Nat, XS.getD j 0 = (u : Int) := ⟨(XS.getD j 0).toNat, by omega⟩
          have HD := hide (l2Digits_any u (by omega))
          have hil := Lib.itoa_length_le (u : Int) (by omega) (by omega)
          have hdz : (⟨(Lib.decDigits u).toArray⟩ : ByteArray).size ≤ 21 := by rw [Co.digits_itoa, J.bytes_size]; exact hil
          have hnx : Hid (o ++ J.bytes (Co.numsT XS (j + 1)) = (p ++ ⟨(Lib.decDigits u).toArray⟩) ++ { data := #[32] }) := by
            show _ = _
            rw [hp.out, Co.numsT, hu, Co.digits_itoa, bytes_two, bytes_two, ByteArray.append_assoc, ByteArray.append_assoc]
            rfl
          have hnl := Co.nums_len XS (j + 1) (fun i hi => (unhide hbd) i (by omega))
          have hpz : ((p ++ ⟨(Lib.decDigits u).toArray⟩) ++ { data := #[32] } : ByteArray).size ≤ 72300000 := by
            rw [← hnx.out, ByteArray.size_append, J.bytes_size]; omega
          rw [hu] at m0
          clear hjl hu hb6 cj hil hnl
          generalize (⟨(Lib.decDigits u).toArray⟩ : ByteArray) = D at *
          go_wp2_with fail
          refine ((unhide HD) _).mono ?_
          rintro e w4 ⟨rfl, hb4⟩
          have B4 : Below w2.heap.size w2 w4 := hbel3.trans (hb4.mono hbel3.size)
          clear HD hb4 m0
          go_wp2_with fail
          go_roundg (6 - (j + 1))
          case rel => exact ⟨j + 1, _, rfl, rfl, by go_num, by omega, by (show _ = _; rw [hnx.out]), hpz, B4⟩
          case measure => have := hgj.out; omega
        · have hje : j = 6 := by omega
          subst hje
          have N3 := N2.below hbel3 N2.lt
          have c0 := N3.cell 0
          have c5 := N3.cell 5
          simp only [List.getElem?_cons_zero, List.getElem?_cons_succ] at c0 c5
          have B3 := B2.trans (hbel3.mono B2.size)
          have BB := hbel.trans (B3.mono hbel.size)
          go_wp2_with fail
          refine (l6HasVal_any n.op _).mono ?_
          rintro e w4 ⟨rfl, hw4⟩
          subst w4
          cases hv : Co.hasVal n.op with
          | true =>
            have hz := (unhide hvo).1 hv
            have HE := hide (l2Encode_all 200 n.val vg 0 n.val.length _ hz (M.fault_zero hz).2.1 ((unhide HVR).below B3 hvg) (Nat.lt_of_lt_of_le hvg B3.size) (Nat.le_refl _) (unhide hokv))
            have hes : (J.bytes (J.encL 200 n.val)).size ≤ 80000 := by rw [J.bytes_size]; exact Co.enc_len hz
            have hn2 : Hid (J.bytes (Co.linesT l (k + 1)) = (p ++ J.bytes (J.encL 200 n.val)) ++ { data := #[10] }) := by
              show _ = _
              rw [unhide hline, hv, if_pos rfl, hp.out, ho.out, bytes_two, bytes_two, bytes_two, ByteArray.append_assoc, ByteArray.append_assoc]
              rfl
            clear hz hvo hline
            generalize J.bytes (J.encL 200 n.val) = E at *
            have hs2 : (p ++ E).size ≤ 72400000 := by rw [ByteArray.size_append]; omega
            go_wp2_with fail
            refine (unhide HE).mono ?_
            rintro e w5 ⟨rfl, hb5⟩
            have B5 : Below w1.heap.size w1 w5 := BB.trans (hb5.mono BB.size)
            clear HE hb5
            go_wp2_with fail
            go_roundg (l.length - (k + 1))
            case rel => exact ⟨k + 1, _, rfl, rfl, by go_num, by omega, by (show _ = _; rw [hn2.out]), B5⟩
            case measure => have := hg.out; omega
          | false =>
            have hn2 : Hid (J.bytes (Co.linesT l (k + 1)) = p ++ { data := #[45, 10] }) := by
              show _ = _
              rw [unhide hline, hv, if_neg (by decide), hp.out, ho.out, bytes_two, bytes_two, ByteArray.append_assoc]
              rfl
            clear hvo hline
            go_wp2_with fail
            go_roundg (l.length - (k + 1))
            case rel => exact ⟨k + 1, _, rfl, rfl, by go_num, by omega, by (show _ = _; rw [hn2.out]), BB⟩
            case measure => have := hg.out; omega
    · have hge : ¬ (k : Int) < (l.length : Int) := by omega
      have hke : k = l.length := by omega
      have hq : Hid (J.bytes (Co.linesT l l.length) = o) := by show _ = _; rw [ho.out, hke]
      rw [hq.out] at fin
      clear hke
      have r0 := hX.cell 0
      have r1 := hX.cell 1
      have z0 := hX.frozen 0
      have z1 := hX.frozen 1
      simp only [List.getElem?_cons_zero, List.getElem?_cons_succ] at r0 r1
      go_wp2_with fail
      refine bodyPost_ret (v := .agg #[.int .i64 0, .string o]) (by simp [results, Tryd.results12, go_sem, r0, r1]) rfl ⟨by rw [unhide fin], ?_⟩
      exact (BW.setCell (Nat.le_refl _) _).setCell (Nat.le_refl _) _

end Go.Proofs.YtcolohilnmikiaaDoor
