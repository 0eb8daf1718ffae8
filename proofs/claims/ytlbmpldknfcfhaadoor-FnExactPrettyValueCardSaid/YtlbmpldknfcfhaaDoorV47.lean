/-
  impl.printedOn; SizeText and PrettyValue on both sides.
-/
import Derived.Test.YtlbmpldknfcfhaaDoorV11
import Derived.Test.YtlbmpldknfcfhaaDoorV45
import Derived.Test.YtlbmpldknfcfhaaDoorV46
import Derived.Laws.MakeOwn
namespace Go.Proofs.YtlbmpldknfcfhaaDoor
open Go.RowKit
set_option linter.unusedVariables false
set_option linter.unusedSimpArgs false
namespace Pr
theorem lay_any {base0 base SB I N : Nat} {mode : Option (Nat × Nat)} (f : Nat) : LaySays base0 base SB I N mode f := by
  induction f with
  | zero =>
    intro v a b off cap dp T Ln lv rv w hp h
    have := hp.hf
    have := part_len hp.hv hp.ha
    have := (end_gt hp.hv hp.ha).1
    omega
  | succ f ih =>
    intro v a b off cap dp T Ln lv rv w hp h
    by_cases h0 : (v.getD a M.zero).n = 0
    · exact lay_leaf f v a b off cap dp T Ln lv rv w hp h h0
    by_cases h6 : (v.getD a M.zero).kind = 6
    · exact lay_obj f v a b off cap dp T Ln lv rv w hp h (hide ih) h0 h6
    · exact lay_arr f v a b off cap dp T Ln lv rv w hp h (hide ih) h0 h6
set_option maxRecDepth 100000 in
set_option maxHeartbeats 4000000 in
theorem printedOn_any (base0 : Nat) (mode : Option (Nat × Nat)) (rv : Value) (v : List M.Cl) (b off cap I : Nat) (w : World) (hv : M.valueFault v = 0) (hrow : Row w b off v) (hb : b < base0) (hcap : v.length ≤ cap) (hI : I ≤ 8) (hb0 : base0 ≤ w.heap.size) (hm : ∀ g R, mode = some (g, R) → base0 ≤ g ∧ g < w.heap.size)
    (hR : Rm mode w rv []) (hfit : ∀ g R, mode = some (g, R) → (pret I 200 0 v).length ≤ R) (tab : Lib.TabBelow Tryd.prog base0 w "internal/strconv.uint64pow10" .u64 Lib.pow10Tab) :
    Calls Tryd.prog 22 #[rv, .slice (some ⟨b, off, none⟩) v.length cap, .int .i64 (I : Int)] w fun e w' => e = .returned (.int .u64 ((pret I 200 0 v).length : Int)) ∧ (∃ rv', Rm mode w' rv' (pret I 200 0 v)) ∧ Fm w.heap.size mode w.heap.size w w' := by
  obtain ⟨ra, rn, rc, rfl⟩ := hR.shape
  have hl1 := (M.fault_zero hv).1
  have h200 := (M.fault_zero hv).2.1
  have hbd := whole_bd hv hI
  obtain ⟨w0, hw0⟩ : ∃ w0, w0 = w.alloc (.cells #[.int .u64 (I : Int), .int .u64 0, .int .u64 0, .slice none 0 0, .slice ra rn rc] 71) := ⟨_, rfl⟩
  have F0 : Fm w.heap.size mode w.heap.size w w0 := by rw [hw0]; exact Fm.alloc w (Nat.le_refl _) _
  have B0 : Below w.heap.size w w0 := by rw [hw0]; exact (Below.refl _ _).alloc (Nat.le_refl _) _
  have S0 : Sh w.heap.size mode w0 w.heap.size I 0 [] [] (.slice none 0 0) (.slice ra rn rc) := by
    refine ⟨by rw [hw0]; exact ⟨_, heap_alloc_new _ _, rfl⟩, World.ownsRow_nil _ _ _ _, Nat.le_refl _, fun g R e => (hm g R e).2, hR.keep fun g R e => B0.block g (hm g R e).2⟩
  have hself := part_self hv
  have HL := hide (lay_any (base0 := base0) (base := w.heap.size) (SB := w.heap.size) (I := I) (N := (pret I 200 0 v).length) (mode := mode) 200 v 0 b off cap 0 [] [] _ _ w0 ⟨hv, by omega, by rw [hself]; exact h200, hrow.below B0 (by omega), hb, hcap, hI, by rw [hself]; omega, hb0, F0.size, fun g R e => (hm g R e).1, hfit, by omega, tab.on (B0.mono hb0), by rw [hself]; simp⟩ S0)
  rw [hself] at HL
  have hwI : IntKind.u64.wrap (I : Int) = (I : Int) := u64_small (by omega) (by omega)
  obtain ⟨X, hX⟩ : ∃ X, X = pret I 200 0 v := ⟨_, rfl⟩
  rw [← hX] at HL hbd hfit
  have HF0 := hide F0
  have HFIT := hide hfit
  have HX := hide hX
  rw [← hX]
  clear hX hrow hR tab F0 S0 hfit hm B0
  go_enter Tryd.func22, Tryd.ntmps22
  go_wp2_with fail
  rw [← hw0]
  clear hw0
  refine (unhide HL).mono ?_
  rintro e w1 ⟨rfl, T1, Ln1, lv1, rv1, h1, hn1, S1, F1⟩
  rw [List.nil_append, List.nil_append] at h1
  have hlen : T1.length + Ln1.length = X.length := by rw [← h1, List.length_append]
  have HC := hide (copyLine_any S1 hn1 (Nat.le_trans (unhide HF0).size F1.size) (by omega) (fun g R e => by have := (unhide HFIT) g R e; omega))
  have HF1 := hide ((unhide HF0).trans F1)
  rw [h1] at HC
  clear HL S1 F1 HF0
  go_wp2_with fail
  refine (unhide HC).mono ?_
  rintro e w2 ⟨rfl, lv2, rv2, S2, F2⟩
  have c2 : w2.cell? ⟨w.heap.size, 2, none⟩ = some (.int .u64 (X.length : Int)) := S2.own.cell 2
  have HR2 := hide S2.room
  have HF2 := hide ((unhide HF1).trans F2)
  clear HC HF1 S2 F2
  go_wp2_with fail
  go_ret
  exact ⟨rfl, ⟨_, unhide HR2⟩, unhide HF2⟩
theorem make_bytes (n : Nat) (hn : n ≤ 1048576) (w : World) :
    (Instr.makeSlice 46 (.int .i64 (n : Int)) (.int .i64 (n : Int))).run Tryd.prog w = .ok (.slice (some ⟨w.heap.size, 0, none⟩) n n) (w.alloc (.cells (madeCells #[.int .u8 0] n) 5)) := by
  obtain ⟨i0, hi, hz0, hz1, hz2⟩ := info_parts Tryd.info5
  have := run_make (P := Tryd.prog) w 46 5 i0 _ Tryd.underlying46 hi hz0 .i64 .i64 (n : Int) (n : Int) (by omega) (by omega) (by rw [hz2]; omega) (by omega)
  rw [this, hz1]
  simp only [Int.toNat_natCast, Nat.mul_one]
  rfl
theorem room_new (w : World) (n : Nat) : Rm (some (w.heap.size, n)) (w.alloc (.cells (madeCells #[.int .u8 0] n) 5)) (.slice (some ⟨w.heap.size, 0, none⟩) n n) [] := by
  refine ⟨Nat.zero_le _, _, 0, heap_alloc_new _ _, ?_, rfl, rfl, fun _ => rfl⟩
  simp [madeCells]
theorem room_cells {w : World} {g R : Nat} {rv : Value} {X : List UInt8} (h : Rm (some (g, R)) w rv X) (hX : X.length = R) (hm : R ≤ maxLen) : ∀ j (hj : j < X.length), w.cell? ((⟨g, 0, none⟩ : Addr).add j) = some (.int .u8 (X[j].toNat : Int)) := by
  obtain ⟨h1, cur, off, h2, h3, h4, _⟩ := h
  refine J.owns_cells (base := g) (cap := R) (n := R) ⟨by rw [bv_len, Nat.mul_one], .inr ⟨g, R, cur, by rw [hX], Nat.le_refl _, h2, by omega, hm, by rw [h3, Nat.mul_one], by rw [Nat.mul_one]; exact h4⟩⟩
/-- What SizeText tells. -/
def sizeOut (v : List M.Cl) (i : Int) : Int × Int := ((prettyOut v i).1, ((prettyOut v i).2.size : Int))
theorem size_bad {v : List M.Cl} {i : Int} (h : M.valueFault v ≠ 0) : sizeOut v i = (M.valueFault v, 0) := by unfold sizeOut; rw [pretty_bad h]; rfl
theorem size_range {v : List M.Cl} {i : Int} (h : M.valueFault v = 0) (hi : i < 0 ∨ 8 < i) : sizeOut v i = (3, 0) := by unfold sizeOut; rw [pretty_range h hi]; rfl
theorem size_many {v : List M.Cl} {I : Nat} (h : M.valueFault v = 0) (hi : I ≤ 8) (hl : 60000 < (pret I 200 0 v).length) : sizeOut v (I : Int) = (2, 0) := by unfold sizeOut; rw [pretty_many h hi hl]; rfl
theorem size_ok {v : List M.Cl} {I : Nat} (h : M.valueFault v = 0) (hi : I ≤ 8) (hl : ¬ 60000 < (pret I 200 0 v).length) : sizeOut v (I : Int) = (0, ((pret I 200 0 v).length : Int)) := by unfold sizeOut; rw [pretty_ok h hi hl]; simp only [J.bytes_size]

set_option maxRecDepth 100000 in
set_option maxHeartbeats 4000000 in
theorem specPretty_any (v : List M.Cl) (b off cap : Nat) (i : Int) (w : World) (hrow : Row w b off v) (hb : b < w.heap.size) (hn : v.length ≤ 1048576) (hcap : v.length ≤ cap) (hok : ∀ c ∈ v, c.ok) :
    Calls Tryd.prog 7 #[.slice (some ⟨b, off, none⟩) v.length cap, .int .i64 i] w fun e w' => e = .returned (.agg #[.int .i64 (prettyOut v i).1, .string (prettyOut v i).2]) ∧ Below w.heap.size w w' := by
  have OK := hide hok
  clear hok
  have HR := hide hrow
  clear hrow
  obtain ⟨w0, hw0⟩ : ∃ w0, w0 = w.alloc (.cells #[.int .i64 0, .string ByteArray.empty] 25) := ⟨_, rfl⟩
  have B0 : Below w.heap.size w w0 := by rw [hw0]; exact (Below.refl _ _).alloc (Nat.le_refl _) _
  have hX0 : Own w0 w.heap.size 25 [.int .i64 0, .string ByteArray.empty] := by rw [hw0]; exact ⟨_, heap_alloc_new _ _, rfl⟩
  go_enter Tryd.func7, Tryd.ntmps7
  go_wp2_with fail
  try (rw [show (w.alloc (.cells #[.int .i64 0, .string { data := #[] }] 25)) = w0 from hw0.symm])

  refine (specFault_any v b off cap _ ((unhide HR).below B0 hb) (Nat.lt_of_lt_of_le hb B0.size) hn hcap (unhide OK)).mono ?_
  rintro e1 w1 ⟨rfl, hb1⟩
  have B1 : Below w.heap.size w w1 := B0.trans (hb1.mono B0.size)
  have hX1 := hX0.below hb1 hX0.lt
  clear hb1 B0 hX0 hw0
  have r0 := hX1.cell 0
  have r1 := hX1.cell 1
  have z0 := hX1.frozen 0
  have z1 := hX1.frozen 1
  simp only [List.getElem?_cons_zero, List.getElem?_cons_succ] at r0 r1
  by_cases hz : M.valueFault v = 0
  · by_cases hr : i < 0 ∨ 8 < i
    · have fin := hide (pretty_range hz hr)
      rw [hz]
      have HIN := hide (l1In_no i 0 8 w1 (by omega))
      go_wp2_with fail
      refine (unhide HIN).mono ?_
      rintro e w2 ⟨rfl, rfl⟩
      go_wp2_with fail
      refine bodyPost_ret (v := .agg #[.int .i64 3, .string ByteArray.empty]) (by simp [results, Tryd.results7, go_sem, r0, r1]; try rfl) rfl ⟨by rw [unhide fin], ?_⟩
      exact (B1.setCell (Nat.le_refl _) _).setCell (Nat.le_refl _) _
    · obtain ⟨I, hI⟩ : ∃ I : Nat, (I : Int) = i := ⟨i.toNat, by omega⟩
      have hI8 : I ≤ 8 := by omega
      subst hI
      rw [hz]
      have HIN := hide (l1In_yes (I : Int) 0 8 w1 (by omega) (by omega))
      have hl1 := (M.fault_zero hz).1
      have h200 := (M.fault_zero hz).2.1
      have HP := hide (pretty_says I hI8 200 v b off cap 0 w1 hz h200 ((unhide HR).below B1 hb) (Nat.lt_of_lt_of_le hb B1.size) hcap (unhide OK) (by omega))
      have hbd := whole_bd hz hI8
      have HOK := hide (fun h => pretty_ok (v := v) (I := I) hz hI8 h)
      have HMA := hide (fun h => pretty_many (v := v) (I := I) hz hI8 h)
      clear r0 r1 z0 z1
      go_wp2_with fail
      refine (unhide HIN).mono ?_
      rintro e w2 ⟨rfl, rfl⟩
      go_wp2_with fail
      refine (unhide HP).mono ?_
      rintro e w3 ⟨rfl, hb3⟩
      have B3 : Below w.heap.size w w3 := B1.trans (hb3.mono B1.size)
      have hX3 := hX1.below hb3 hX1.lt

      have r0 := hX3.cell 0
      have r1 := hX3.cell 1
      have z0 := hX3.frozen 0
      have z1 := hX3.frozen 1
      simp only [List.getElem?_cons_zero, List.getElem?_cons_succ] at r0 r1

      have hsz : (J.bytes (pret I 200 0 v)).size = (pret I 200 0 v).length := J.bytes_size _
      clear hb3 hX1 hX3 HP HIN
      by_cases hm : 60000 < (pret I 200 0 v).length
      · have fin := hide ((unhide HMA) hm)
        have hm' : (60000 : Int) < ((J.bytes (pret I 200 0 v)).size : Int) := by rw [hsz]; omega
        clear hsz HOK HMA
        generalize J.bytes (pret I 200 0 v) = q at *
        go_wp2_with fail
        refine bodyPost_ret (v := .agg #[.int .i64 2, .string ByteArray.empty]) (by simp [results, Tryd.results7, go_sem, r0, r1]; try rfl) rfl ⟨by rw [unhide fin], ?_⟩
        exact (B3.setCell (Nat.le_refl _) _).setCell (Nat.le_refl _) _
      · have fin := hide ((unhide HOK) hm)
        have hm' : ¬ (60000 : Int) < ((J.bytes (pret I 200 0 v)).size : Int) := by rw [hsz]; omega
        clear hsz HOK HMA
        generalize J.bytes (pret I 200 0 v) = q at *
        go_wp2_with fail
        refine bodyPost_ret (v := .agg #[.int .i64 0, .string q]) (by simp [results, Tryd.results7, go_sem, r0, r1]; try rfl) rfl ⟨by rw [unhide fin], ?_⟩
        exact (B3.setCell (Nat.le_refl _) _).setCell (Nat.le_refl _) _
  · have fin := hide (pretty_bad (i := i) hz)
    have hz' : (M.valueFault v == 0) = false := by simp [hz]
    clear hz
    generalize M.valueFault v = q at *
    go_wp2_with fail
    refine bodyPost_ret (v := .agg #[.int .i64 q, .string ByteArray.empty]) (by simp [results, Tryd.results7, go_sem, r0, r1]; try rfl) rfl ⟨by rw [unhide fin], ?_⟩
    exact (B1.setCell (Nat.le_refl _) _).setCell (Nat.le_refl _) _

set_option maxRecDepth 100000 in
set_option maxHeartbeats 4000000 in
theorem implSize_any (v : List M.Cl) (b off cap : Nat) (i : Int) (w : World) (hrow : Row w b off v) (hb : b < w.heap.size) (hn : v.length ≤ 1048576) (hcap : v.length ≤ cap) (hok : ∀ c ∈ v, c.ok) (htab : Lib.TabBelow Tryd.prog w.heap.size w "internal/strconv.uint64pow10" .u64 Lib.pow10Tab) :
    Calls Tryd.prog 15 #[.slice (some ⟨b, off, none⟩) v.length cap, .int .i64 i] w fun e w' => e = .returned (.agg #[.int .i64 (sizeOut v i).1, .int .i64 (sizeOut v i).2]) ∧ Below w.heap.size w w' := by
  have OK := hide hok
  clear hok
  have HR := hide hrow
  clear hrow
  obtain ⟨w0, hw0⟩ : ∃ w0, w0 = w.alloc (.cells #[.int .i64 0, .int .i64 0] 35) := ⟨_, rfl⟩
  have B0 : Below w.heap.size w w0 := by rw [hw0]; exact (Below.refl _ _).alloc (Nat.le_refl _) _
  have hX0 : Own w0 w.heap.size 35 [.int .i64 0, .int .i64 0] := by rw [hw0]; exact ⟨_, heap_alloc_new _ _, rfl⟩
  go_enter Tryd.func15, Tryd.ntmps15
  go_wp2_with fail
  try (rw [show (w.alloc (.cells #[.int .i64 0, .int .i64 0] 35)) = w0 from hw0.symm])

  refine (implFault_any v b off cap _ ((unhide HR).below B0 hb) (Nat.lt_of_lt_of_le hb B0.size) hn hcap (unhide OK)).mono ?_
  rintro e1 w1 ⟨rfl, hb1⟩
  have B1 : Below w.heap.size w w1 := B0.trans (hb1.mono B0.size)
  have hX1 := hX0.below hb1 hX0.lt
  clear hb1 B0 hX0 hw0
  have r0 := hX1.cell 0
  have r1 := hX1.cell 1
  have z0 := hX1.frozen 0
  have z1 := hX1.frozen 1
  simp only [List.getElem?_cons_zero, List.getElem?_cons_succ] at r0 r1
  by_cases hz : M.valueFault v = 0
  · by_cases hr : i < 0 ∨ 8 < i
    · have fin := hide (size_range hz hr)
      rw [hz]
      rcases hr with hr | hr
      · have hr' : i < 0 := hr
        go_wp2_with fail
        refine bodyPost_ret (v := .agg #[.int .i64 3, .int .i64 0]) (by simp [results, Tryd.results15, go_sem, r0, r1]; try rfl) rfl ⟨by rw [unhide fin], ?_⟩
        exact (B1.setCell (Nat.le_refl _) _).setCell (Nat.le_refl _) _
      · have hr0 : ¬ i < 0 := by omega
        have hr' : 8 < i := hr
        go_wp2_with fail
        refine bodyPost_ret (v := .agg #[.int .i64 3, .int .i64 0]) (by simp [results, Tryd.results15, go_sem, r0, r1]; try rfl) rfl ⟨by rw [unhide fin], ?_⟩
        exact (B1.setCell (Nat.le_refl _) _).setCell (Nat.le_refl _) _
    · obtain ⟨I, hI⟩ : ∃ I : Nat, (I : Int) = i := ⟨i.toNat, by omega⟩
      have hI8 : I ≤ 8 := by omega
      subst hI
      rw [hz]
      have hbd := whole_bd hz hI8
      have HP := hide (printedOn_any w1.heap.size none (.slice none 0 0) v b off cap I w1 hz ((unhide HR).below B1 hb) (Nat.lt_of_lt_of_le hb B1.size) hcap hI8 (Nat.le_refl _) (fun g R e => by cases e) rfl (fun g R e => by cases e) (tab_mono (htab.on B1) B1.size))
      have HOK := hide (fun h => size_ok (v := v) (I := I) hz hI8 h)
      have HMA := hide (fun h => size_many (v := v) (I := I) hz hI8 h)
      have hi0 : ¬ (I : Int) < 0 := by omega
      have hi8 : ¬ (8 : Int) < (I : Int) := by omega
      clear r0 r1 z0 z1
      go_wp2_with fail
      refine (unhide HP).mono ?_
      rintro e w3 ⟨rfl, _, F3⟩
      have hb3 : Below w1.heap.size w1 w3 := F3.low0 (Nat.le_refl _) (fun g R e => by cases e)
      have B3 : Below w.heap.size w w3 := B1.trans (hb3.mono B1.size)
      have hX3 := hX1.below hb3 hX1.lt

      have r0 := hX3.cell 0
      have r1 := hX3.cell 1
      have z0 := hX3.frozen 0
      have z1 := hX3.frozen 1
      simp only [List.getElem?_cons_zero, List.getElem?_cons_succ] at r0 r1

      clear hb3 hX1 hX3 HP F3
      generalize (pret I 200 0 v).length = n at *
      by_cases hm : 60000 < n
      · have fin := hide ((unhide HMA) hm)
        have hm' : (60000 : Int) < (n : Int) := by omega
        clear HOK HMA
        go_wp2_with fail
        refine bodyPost_ret (v := .agg #[.int .i64 2, .int .i64 0]) (by simp [results, Tryd.results15, go_sem, r0, r1]; try rfl) rfl ⟨by rw [unhide fin], ?_⟩
        exact (B3.setCell (Nat.le_refl _) _).setCell (Nat.le_refl _) _
      · have fin := hide ((unhide HOK) hm)
        have hm' : ¬ (60000 : Int) < (n : Int) := by omega
        have hw : IntKind.i64.wrap (n : Int) = (n : Int) := by rw [IntKind.wrap_i64]; omega
        clear HOK HMA
        go_wp2_with fail
        refine bodyPost_ret (v := .agg #[.int .i64 0, .int .i64 (n : Int)]) (by simp [results, Tryd.results15, go_sem, r0, r1]; try rfl) rfl ⟨by rw [unhide fin], ?_⟩
        exact (B3.setCell (Nat.le_refl _) _).setCell (Nat.le_refl _) _
  · have fin := hide (size_bad (i := i) hz)
    have hz' : (M.valueFault v == 0) = false := by simp [hz]
    clear hz
    generalize M.valueFault v = q at *
    go_wp2_with fail
    refine bodyPost_ret (v := .agg #[.int .i64 q, .int .i64 0]) (by simp [results, Tryd.results15, go_sem, r0, r1]; try rfl) rfl ⟨by rw [unhide fin], ?_⟩
    exact (B1.setCell (Nat.le_refl _) _).setCell (Nat.le_refl _) _

set_option maxRecDepth 100000 in
set_option maxHeartbeats 4000000 in
theorem implPretty_any (v : List M.Cl) (b off cap : Nat) (i : Int) (w : World) (hrow : Row w b off v) (hb : b < w.heap.size) (hn : v.length ≤ 1048576) (hcap : v.length ≤ cap) (hok : ∀ c ∈ v, c.ok) (htab : Lib.TabBelow Tryd.prog w.heap.size w "internal/strconv.uint64pow10" .u64 Lib.pow10Tab) :
    Calls Tryd.prog 9 #[.slice (some ⟨b, off, none⟩) v.length cap, .int .i64 i] w fun e w' => e = .returned (.agg #[.int .i64 (prettyOut v i).1, .string (prettyOut v i).2]) ∧ Below w.heap.size w w' := by
  obtain ⟨w0, hw0⟩ : ∃ w0, w0 = w.alloc (.cells #[.int .i64 0, .string ByteArray.empty] 25) := ⟨_, rfl⟩
  have B0 : Below w.heap.size w w0 := by rw [hw0]; exact (Below.refl _ _).alloc (Nat.le_refl _) _
  have hX0 : Own w0 w.heap.size 25 [.int .i64 0, .string ByteArray.empty] := by rw [hw0]; exact ⟨_, heap_alloc_new _ _, rfl⟩
  have HP := hide (implSize_any v b off cap i w0 (hrow.below B0 hb) (Nat.lt_of_lt_of_le hb B0.size) hn hcap hok (tab_mono (htab.on B0) B0.size))
  have HRW := hide (fun W (h : Below w.heap.size w W) => (show Row W b off v ∧ b < W.heap.size from ⟨hrow.below h hb, Nat.lt_of_lt_of_le hb h.size⟩))
  clear hrow hok
  go_enter Tryd.func9, Tryd.ntmps9
  go_wp2_with fail
  try (rw [show (w.alloc (.cells #[.int .i64 0, .string { data := #[] }] 25)) = w0 from hw0.symm])
  refine (unhide HP).mono ?_
  rintro e1 w1 ⟨rfl, hb1⟩
  have B1 : Below w.heap.size w w1 := B0.trans (hb1.mono B0.size)
  have hX1 := hX0.below hb1 hX0.lt
  clear hb1 B0 hX0 hw0 HP
  obtain ⟨x, hx⟩ : ∃ x, x = (sizeOut v i).1 := ⟨_, rfl⟩
  obtain ⟨t, ht⟩ : ∃ t, t = (sizeOut v i).2 := ⟨_, rfl⟩
  rw [← hx, ← ht]
  have HX := hide hx
  have HTT := hide ht
  clear hx ht
  obtain ⟨w2, hw2⟩ : ∃ w2, w2 = w1.alloc (.cells #[.int .i64 x, .int .i64 t] 35) := ⟨_, rfl⟩
  have B2 : Below w.heap.size w w2 := by rw [hw2]; exact B1.alloc B1.size _
  have O2 : Own w2 w1.heap.size 35 [.int .i64 x, .int .i64 t] := by rw [hw2]; exact ⟨_, heap_alloc_new _ _, rfl⟩
  have hX2 : Own w2 w.heap.size 25 [.int .i64 0, .string ByteArray.empty] := by rw [hw2]; exact hX1.below ((Below.refl _ _).alloc (Nat.le_refl _) _) hX1.lt
  have p0 := O2.cell 0
  have p1 := O2.cell 1
  simp only [List.getElem?_cons_zero, List.getElem?_cons_succ] at p0 p1
  by_cases hx0 : x = 0
  · subst hx0
    have hin : M.valueFault v = 0 ∧ ¬ (i < 0 ∨ 8 < i) := by
      have h := unhide HX
      refine ⟨Classical.byContradiction fun hz => ?_, fun hr => ?_⟩
      · rw [size_bad hz] at h; exact hz h.symm
      · by_cases hz : M.valueFault v = 0
        · rw [size_range hz hr] at h; cases h
        · rw [size_bad hz] at h; exact hz h.symm
    obtain ⟨hz, hr⟩ := hin
    obtain ⟨I, hI⟩ : ∃ I : Nat, (I : Int) = i := ⟨i.toNat, by omega⟩
    have hI8 : I ≤ 8 := by omega
    subst hI
    have hm : ¬ 60000 < (pret I 200 0 v).length := fun hm => by
      have h := unhide HX
      rw [size_many hz hI8 hm] at h; cases h
    have ht : t = ((pret I 200 0 v).length : Int) := by rw [unhide HTT, size_ok hz hI8 hm]
    subst ht
    have fin := hide (pretty_ok hz hI8 hm)
    obtain ⟨n, hn'⟩ : ∃ n, n = (pret I 200 0 v).length := ⟨_, rfl⟩
    have hmk := fun W => make_bytes n (by omega) W
    obtain ⟨w3, hw3⟩ : ∃ w3, w3 = w2.alloc (.cells (madeCells #[.int .u8 0] n) 5) := ⟨_, rfl⟩
    have B23 : Below w2.heap.size w2 w3 := by rw [hw3]; exact (Below.refl _ _).alloc (Nat.le_refl _) _
    have hs3 : w2.heap.size < w3.heap.size := by rw [hw3]; simp
    have B3 : Below w.heap.size w w3 := B2.trans (B23.mono B2.size)
    have HPR := hide (printedOn_any w2.heap.size (some (w2.heap.size, n)) (.slice (some ⟨w2.heap.size, 0, none⟩) n n) v b off cap I w3 hz ((unhide HRW) w3 B3).1 (Nat.lt_of_lt_of_le hb B2.size) hcap hI8 B23.size (fun g R e => by cases e; exact ⟨Nat.le_refl _, hs3⟩) (by rw [hw3]; exact room_new w2 n) (fun g R e => by cases e; rw [← hn']; exact Nat.le_refl _) (tab_mono (htab.on B3) B2.size))
    have hX3 := hX2.below B23 hX2.lt
    have hltX := hX2.lt
    rw [← hn'] at hm p1 hw2 HPR ⊢
    have HN := hide hn'
    have hn60 : n ≤ 60000 := by omega
    clear hn' hr hm O2 hX1 hX2 HTT HX
    go_upto_region 2 with fail
    rw [← hw2]
    clear hw2
    go_wp2_with fail
    rw [← hw3]
    refine (unhide HPR).mono ?_
    rintro e w4 ⟨rfl, ⟨rv4, hR4⟩, F4⟩
    have hb4 : Below w2.heap.size w3 w4 := F4.low0 B23.size (fun g R e => by cases e; exact Nat.le_refl _)
    have B4 : Below w.heap.size w w4 := B3.trans (hb4.mono B2.size)
    have hX4 := hX3.below hb4 hltX
    have r0 := hX4.cell 0
    have r1 := hX4.cell 1
    have z0 := hX4.frozen 0
    have z1 := hX4.frozen 1
    simp only [List.getElem?_cons_zero, List.getElem?_cons_succ] at r0 r1
    have hcv := show (convert 46 9 (.slice (some ⟨w2.heap.size, 0, none⟩) n n)).run Tryd.prog w4 = .ok (.string (J.bytes (pret I 200 0 v))) w4 from by
      have h := run_convert_bytes_back (P := Tryd.prog) w4 46 9 5 ⟨w2.heap.size, 0, none⟩ n (pret I 200 0 v) Tryd.underlying46 Tryd.underlying5 Tryd.underlying9 (room_cells hR4 (unhide HN).symm (by unfold maxLen; omega))
      rw [← unhide HN] at h
      exact h
    clear hR4 F4 hb4 hX3 hX4 HPR hmk hw3 p0 p1
    generalize J.bytes (pret I 200 0 v) = q at *
    go_wp2_with fail
    refine bodyPost_ret (v := .agg #[.int .i64 0, .string q]) (by simp [results, Tryd.results9, go_sem, r0, r1]; try rfl) rfl ⟨by rw [unhide fin], ?_⟩
    exact (B4.setCell (Nat.le_refl _) _).setCell (Nat.le_refl _) _
  · have hx0' : (x != 0) = true := by simp [hx0]
    have fin := hide (show prettyOut v i = (x, ByteArray.empty) by
      have h := unhide HX
      rw [show (sizeOut v i).1 = (prettyOut v i).1 from rfl] at h
      rw [h] at hx0 ⊢
      unfold prettyOut at hx0 ⊢
      split
      · rfl
      split
      · rfl
      split
      · rfl
      · rename_i a1 a2 a3
        rw [if_neg a1, if_neg a2, if_neg a3] at hx0
        exact absurd rfl hx0)
    have r0 := hX2.cell 0
    have r1 := hX2.cell 1
    have z0 := hX2.frozen 0
    have z1 := hX2.frozen 1
    simp only [List.getElem?_cons_zero, List.getElem?_cons_succ] at r0 r1
    rw [hw2] at p0 p1 r0 r1 z0 z1
    clear O2 hX1 hX2 hx0 HTT HX
    go_wp2_with fail
    try rw [← hw2]
    rw [← hw2] at r0 r1 z0 z1
    refine bodyPost_ret (v := .agg #[.int .i64 x, .string ByteArray.empty]) (by simp [results, Tryd.results9, go_sem, r0, r1]; try rfl) rfl ⟨by rw [unhide fin], ?_⟩
    exact (B2.setCell (Nat.le_refl _) _).setCell (Nat.le_refl _) _
end Pr
end Go.Proofs.YtlbmpldknfcfhaaDoor
