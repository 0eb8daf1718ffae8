/-
  impl.appendText, impl.appendParts: the text of the value at a place is laid behind a row of bytes of the call's own.
  impl.appendText.
  impl.EncodeString and spec.EncodeString answer encS.
  spec.EncodeValue and impl.EncodeValue answer encV.
-/
import Derived.Test.YtakdlcgiieaieaaDoorEncM
import Derived.Test.YtakdlcgiieaieaaDoorChildT
import Derived.Test.YtakdlcgiieaieaaDoorSS
import Derived.Test.YtakdlcgiieaieaaDoorShelfA
import Derived.Test.YtakdlcgiieaieaaDoorQuoT
import Derived.Test.YtakdlcgiieaieaaDoorEncU
import Derived.Test.YtakdlcgiieaieaaDoorFaultI
import Derived.Lib.AppendStr
import Derived.Lib.AppendIntMem
import Derived.Deep.RegionWith
namespace Go.Proofs.YtakdlcgiieaieaaDoor
open Go.RowKit
set_option linter.unusedVariables false
set_option linter.unusedSimpArgs false

theorem Bk.resI {base : Nat} {w w' : World} (h : Bk base w w') {B : Nat} {s : Value} {l : List Int} (hr : ResI w B s l) : ResI w' B s l := by
  obtain ⟨hn, g | ⟨b, cap, h1, h2, h3, ⟨xs, h4, h5⟩⟩⟩ := hr
  · exact ⟨hn, .inl g⟩
  · exact ⟨hn, .inr ⟨b, cap, h1, h2, h3, ⟨xs, h.own h4 (by decide), h5⟩⟩⟩
theorem ResI.form2 {w : World} {B : Nat} {s : Value} {l : List Int} (h : ResI w B s l) : ∃ a c, s = .slice a l.length c := by
  obtain ⟨_, ⟨rfl, rfl⟩ | ⟨b, cap, rfl, _⟩⟩ := h
  · exact ⟨_, _, rfl⟩
  · exact ⟨_, _, rfl⟩
theorem ResI.some2 {w : World} {B : Nat} {s : Value} {l : List Int} (h : ResI w B s l) (hl : 0 < l.length) : ∃ g c, s = .slice (some ⟨g, 0, none⟩) l.length c ∧ l.length ≤ c ∧ OwnI w g l := by
  obtain ⟨_, ⟨_, rfl⟩ | ⟨b, cap, h1, _, h3, h4⟩⟩ := h
  · simp at hl
  · exact ⟨b, cap, h1, h3, h4⟩
theorem owns_shape {w : World} {base : Nat} {e : TypeId} {size : Nat} {v : Value} {n : Nat} {xs : List Value} (h : w.ownsRow base e size v n xs) : ∃ a k c, v = .slice a k c := by
  obtain ⟨_, ⟨rfl, _⟩ | ⟨g, cap, cur, rfl, _⟩⟩ := h
  · exact ⟨_, _, _, rfl⟩
  · exact ⟨_, _, _, rfl⟩
theorem bv_app (l m : List UInt8) : J.bv l ++ J.bv m = J.bv (l ++ m) := by simp [J.bv]
theorem strCells_bytes (l : List UInt8) : Lib.strCells (J.bytes l) = J.bv l := rfl
theorem byteCells_bv (l : List UInt8) : Lib.byteCells l = J.bv l := rfl

/-- What is promised of impl.appendText at places whose values have at most f cells. -/
def AppSays (f : Nat) : Prop := ∀ (v : List M.Cl) (a b off cap base : Nat) (tv : Value) (l : List UInt8) (w : World), M.valueFault v = 0 → a < v.length → (part v a).length ≤ f → Row w b off v → b < base → v.length ≤ cap → base ≤ w.heap.size → l.length + 100000 * f ≤ 100000000000 → w.ownsRow base 5 1 tv l.length (J.bv l) → Lib.TabBelow Tryd.prog base w "internal/strconv.uint64pow10" .u64 Lib.pow10Tab →
  Calls Tryd.prog 22 #[tv, .slice (some ⟨b, off, none⟩) v.length cap, .int .i64 a] w fun e w' => ∃ v', e = .returned v' ∧ w'.ownsRow base 5 1 v' (l ++ J.encL f (part v a)).length (J.bv (l ++ J.encL f (part v a))) ∧ Bk base w w'

set_option maxRecDepth 100000 in
set_option maxHeartbeats 4000000 in
theorem appendParts_5 (f : Nat) (IH : Hid (AppSays f)) (v : List M.Cl) (a b off cap base : Nat) (tv : Value) (l : List UInt8) (w : World) (hv : M.valueFault v = 0) (ha : a < v.length) (hpl : (part v a).length ≤ f + 1) (hrow : Row w b off v) (hb : b < base) (hcap : v.length ≤ cap) (hbase0 : base ≤ w.heap.size) (hl : l.length + 100000 * f + 99990 ≤ 100000000000) (hown0 : w.ownsRow base 5 1 tv l.length (J.bv l)) (htab : Lib.TabBelow Tryd.prog base w "internal/strconv.uint64pow10" .u64 Lib.pow10Tab) (hk : (v.getD a M.zero).kind = 5) :
    Calls Tryd.prog 37 #[tv, .slice (some ⟨b, off, none⟩) v.length cap, .int .i64 a] w fun e w' => ∃ v', e = .returned v' ∧ w'.ownsRow base 5 1 v' (l ++ J.partsK (J.encL f) false (keysAt v a) (subs v a) (M.arity v a)).length (J.bv (l ++ J.partsK (J.encL f) false (keysAt v a) (subs v a) (M.arity v a))) ∧ Bk base w w' := by
  obtain ⟨i0, hi, hz0, hz1, hz2⟩ := info_parts Tryd.info5
  obtain ⟨va, vn, vc, rfl⟩ := owns_shape hown0
  have h200 := (M.fault_zero hv).2.1
  obtain ⟨f0, -, -, -, -⟩ := hrow a ha
  rw [hk] at f0
  have HPI := hide (M.places_in hv a ha)
  have HCP := hide (fun w' (hbb : Bk base w w') => childPlaces_any v b off cap a w' hv ha (hrow.below hbb.1 hb) (Nat.lt_of_lt_of_le hb (Nat.le_trans hbase0 hbb.size)) hcap)
  have HBD := hide (fun i hi => J.parts_bd f hv ha hpl false i hi)
  have HPL := hide (fun p (hp : p < v.length) (hp2 : a < p) (hp3 : M.endOf v p ≤ M.endOf v a) => show (part v p).length ≤ f by
    have := part_len hv hp
    have := part_len hv ha
    omega)
  have HT := hide htab
  have HR := hide hrow
  have HV := hide hv
  have HEG := hide (end_gt hv ha)
  have hOWN := hide hown0
  have hn200 := (unhide HPI).2.2.2
  clear hk hv htab hown0
  go_enter Tryd.func37, Tryd.ntmps37
  go_wp2_with fail
  refine ((unhide HCP) _ (Bk.refl _ _)).mono ?_
  rintro e wp ⟨sp, rfl, hsp, hbp⟩
  have hfl := firstPl_length v a (M.arity v a)
  obtain ⟨ap, cp, rfl⟩ := hsp.form2
  rw [hfl] at *
  have hkp : Bk base w wp := (Bk.refl _ _).below hbp hbase0
  have hown2 := ownsRow_below (B := 0) (unhide hOWN) hbp
  have HSP := hide hsp
  clear hsp hbp hfl hOWN HCP
  go_wp2_with fail
  go_loopg [0, 13] (M.arity v a) (fun gn s0 s13 wr => ∃ i : Nat, Hid (gn = M.arity v a - i) ∧ s13 = .int .i64 i ∧ i ≤ M.arity v a ∧ wr.ownsRow base 5 1 s0 (l ++ J.partsK (J.encL f) false (keysAt v a) (subs v a) i).length (J.bv (l ++ J.partsK (J.encL f) false (keysAt v a) (subs v a) i)) ∧ Bk base w wr ∧ Bk base wp wr)
  case atStart => exact ⟨0, rfl, rfl, by omega, by simpa [J.partsK] using hown2, hkp, Bk.refl _ _⟩
  case round =>
    obtain ⟨i, hg, rfl, him, hown, hbel, hbelp⟩ := hrel
    have hbd := (unhide HBD) i him
    have hll : (l ++ J.partsK (J.encL f) false (keysAt v a) (subs v a) i).length ≤ l.length + 80000 := by rw [List.length_append]; omega
    obtain ⟨L, hL⟩ : ∃ L, L = l ++ J.partsK (J.encL f) false (keysAt v a) (subs v a) i := ⟨_, rfl⟩
    rw [← hL] at hown hll
    have HL := hide hL
    clear hL hbd
    obtain ⟨xa, xn, xc, rfl⟩ := owns_shape hown
    by_cases hlt : i < M.arity v a
    · have hltI : (i : Int) < (M.arity v a : Int) := by omega
      have hp1 := (unhide HPI).1 i hlt
      have hp2 := (unhide HPI).2.2.1
      have hpv : M.iter v i (a + 1) < v.length := by omega
      have hpe : M.endOf v (M.iter v i (a + 1)) ≤ M.endOf v a := by
        rw [← M.iter_next v i (a + 1)]
        by_cases e : i + 1 = M.arity v a
        · rw [e, (unhide HPI).2.1]; exact Nat.le_refl _
        · exact Nat.le_of_lt ((unhide HPI).1 (i + 1) (by omega)).2
      have hpl2 := (unhide HPL) _ hpv hp1.1 hpe
      have hR := hbelp.resI (unhide HSP)
      obtain ⟨g, c, hgv, hgc, hoI⟩ := hR.some2 (by rw [firstPl_length]; omega)
      rw [firstPl_length] at hgv hgc
      obtain ⟨rfl, rfl⟩ : ap = some ⟨g, 0, none⟩ ∧ cp = c := by injection hgv with e1 e2 e3; exact ⟨e1, e3⟩
      have fp := hoI.cell (i := i) (by rw [firstPl_length]; exact hlt)
      rw [firstPl_getD v a _ i hlt] at fp
      have hps := hide (show J.partsK (J.encL f) false (keysAt v a) (subs v a) (i + 1) = J.partsK (J.encL f) false (keysAt v a) (subs v a) i ++ (J.ahead false (keysAt v a) i ++ J.encL f (part v (M.iter v i (a + 1)))) by
        rw [← J.subs_getD v a i hlt]; rfl)
      have HC := hide (fun (wq : World) (Lq : List UInt8) (tq : Value) (hq : Bk base w wq) (hlq : Lq.length + 100000 * f ≤ 100000000000) (hoq : wq.ownsRow base 5 1 tq Lq.length (J.bv Lq)) => (unhide IH) v (M.iter v i (a + 1)) b off cap base tq Lq wq (unhide HV) hpv hpl2 ((unhide HR).below hq.1 hb) hb hcap (Nat.le_trans hbase0 hq.size) hlq hoq ((unhide HT).on hq.1))
      clear hgv hR hoI hpe hpl2 hp1 hp2
      generalize M.iter v i (a + 1) = p at *
      have hpI : (p : Int) < (v.length : Int) := by omega
      by_cases h0 : i = 0
      · have hz : ¬ (0 : Int) < (i : Int) := by omega
        have hah : J.ahead false (keysAt v a) i = [] ++ [] := by unfold J.ahead; rw [if_pos h0]; rw [if_neg (by decide)]
        have HAH := hide hah
        clear hah h0
        have hb0 : Bk base wr wr := Bk.refl _ _
        have hbw : base ≤ wr.heap.size := by have := hbel.size; omega
        have c0 : wr.cell? ⟨b, off + a * 5, none⟩ = some (.int .i64 5) := ((hbel.trans hb0).1.cell (p := ⟨b, off + a * 5, none⟩) hb).trans f0
        go_wp2_with fail
        refine ((unhide HC) _ _ _ (hbel.trans hb0) (by omega) hown).mono ?_
        rintro e w4 ⟨v4, rfl, w4o0, w4k⟩
        have w4b : Bk base wr w4 := hb0.trans w4k
        have w4o : w4.ownsRow base 5 1 v4 (l ++ J.partsK (J.encL f) false (keysAt v a) (subs v a) (i + 1)).length (J.bv (l ++ J.partsK (J.encL f) false (keysAt v a) (subs v a) (i + 1))) := by
          have e : L ++ J.encL f (part v p) = l ++ J.partsK (J.encL f) false (keysAt v a) (subs v a) (i + 1) := by
            rw [unhide HL, unhide hps, unhide HAH]
            simp only [List.append_assoc, List.nil_append, List.append_nil, List.cons_append]
          rw [← e]
          exact w4o0
        clear w4o0 w4k
        obtain ⟨xa4, xn4, xc4, rfl⟩ := owns_shape w4o
        have W4O := hide w4o
        clear w4o
        go_wp2_with fail
        go_roundg (M.arity v a - (i + 1))
        case rel => exact ⟨i + 1, rfl, by go_num, by omega, unhide W4O, hbel.trans w4b, hbelp.trans w4b⟩
        case measure => have := hg.out; omega
      · have hz : (0 : Int) < (i : Int) := by omega
        have hah : J.ahead false (keysAt v a) i = [44] ++ [] := by unfold J.ahead; rw [if_neg h0]; rw [if_neg (by decide)]
        have HAH := hide hah
        clear hah h0
        have hb0 : Bk base wr wr := Bk.refl _ _
        have hbw : base ≤ wr.heap.size := by have := hbel.size; omega
        have hown1 := hide (fun o => (hown).alloc o)
        have hone := hide (J.one_word wr 44)
        have honep := hide (J.one_plain 44)
        have hb63 : (L).length + 1 ≤ maxLen := by unfold maxLen; omega
        have hby : ((L).length + 1) * 1 ≤ 140737488355328 := by omega
        have hbase : base ≤ wr.heap.size + 1 := by have := (hb0).size; omega
        have hbse := hide (J.owns_base hown)
        have hbsr := hide (fun o => J.owns_row ((hown).alloc o))
        clear hown
        go_wp2_with (at_builtin; refine wpList_append_own _ rfl (.tmp 20) (.tmp 21) 42 rfl base 5 i0 (.int .u8 0) 1 1 Tryd.underlying42 hi hz0 hz1 hz2 rfl (by decide) _ (L).length _ rfl ((unhide hown1) _) ⟨wr.heap.size, 0, none⟩ 1 1 [.int .u8 44] rfl rfl (unhide hone) (unhide honep) hb63 hby (by simpa using hbase) ?_)
        intro vw1 w1 w1h hgw1 _
        have w1b : Bk base wr w1 := ((hb0).alloc (by have := (hb0).size; omega) _).grown hgw1 (by simpa using hbase) (unhide hbse) ((unhide hbsr) _)
        obtain ⟨Lw1, ew1⟩ : ∃ L', L' = L ++ [44] := ⟨_, rfl⟩
        have w1o : w1.ownsRow base 5 1 vw1 Lw1.length (J.bv Lw1) := by rw [ew1, List.length_append, ← J.bv_snoc]; exact w1h
        have lw1 : Lw1.length ≤ (L).length + 1 := by rw [ew1, List.length_append]; exact Nat.le_refl _
        have Ew1 := hide ew1
        clear hgw1 w1h ew1 hown1 hone honep hb63 hby hbase hbse hbsr
        obtain ⟨xaw1, xnw1, xcw1, rfl⟩ := owns_shape w1o
        have c0 : w1.cell? ⟨b, off + a * 5, none⟩ = some (.int .i64 5) := ((hbel.trans w1b).1.cell (p := ⟨b, off + a * 5, none⟩) hb).trans f0
        go_wp2_with fail
        refine ((unhide HC) _ _ _ (hbel.trans w1b) (by omega) w1o).mono ?_
        rintro e w4 ⟨v4, rfl, w4o0, w4k⟩
        have w4b : Bk base wr w4 := w1b.trans w4k
        have w4o : w4.ownsRow base 5 1 v4 (l ++ J.partsK (J.encL f) false (keysAt v a) (subs v a) (i + 1)).length (J.bv (l ++ J.partsK (J.encL f) false (keysAt v a) (subs v a) (i + 1))) := by
          have e : Lw1 ++ J.encL f (part v p) = l ++ J.partsK (J.encL f) false (keysAt v a) (subs v a) (i + 1) := by
            rw [unhide Ew1, unhide HL, unhide hps, unhide HAH]
            simp only [List.append_assoc, List.nil_append, List.append_nil, List.cons_append]
          rw [← e]
          exact w4o0
        clear w4o0 w4k
        obtain ⟨xa4, xn4, xc4, rfl⟩ := owns_shape w4o
        have W4O := hide w4o
        clear w4o
        go_wp2_with fail
        go_roundg (M.arity v a - (i + 1))
        case rel => exact ⟨i + 1, rfl, by go_num, by omega, unhide W4O, hbel.trans w4b, hbelp.trans w4b⟩
        case measure => have := hg.out; omega
    · have hge : ¬ (i : Int) < (M.arity v a : Int) := by omega
      have hie : i = M.arity v a := by omega
      have fin := hide (show wr.ownsRow base 5 1 (.slice xa xn xc) (l ++ J.partsK (J.encL f) false (keysAt v a) (subs v a) (M.arity v a)).length (J.bv (l ++ J.partsK (J.encL f) false (keysAt v a) (subs v a) (M.arity v a))) by rw [← hie, ← unhide HL]; exact hown)
      clear hown hie
      go_wp2_with fail
      go_ret
      refine ⟨_, rfl, ?_, hbel⟩
      first | exact unhide fin | (have h := unhide fin; rw [List.length_append] at h; exact h)

set_option maxRecDepth 100000 in
set_option maxHeartbeats 4000000 in
theorem appendParts_6 (f : Nat) (IH : Hid (AppSays f)) (v : List M.Cl) (a b off cap base : Nat) (tv : Value) (l : List UInt8) (w : World) (hv : M.valueFault v = 0) (ha : a < v.length) (hpl : (part v a).length ≤ f + 1) (hrow : Row w b off v) (hb : b < base) (hcap : v.length ≤ cap) (hbase0 : base ≤ w.heap.size) (hl : l.length + 100000 * f + 99990 ≤ 100000000000) (hown0 : w.ownsRow base 5 1 tv l.length (J.bv l)) (htab : Lib.TabBelow Tryd.prog base w "internal/strconv.uint64pow10" .u64 Lib.pow10Tab) (hk : (v.getD a M.zero).kind = 6) :
    Calls Tryd.prog 37 #[tv, .slice (some ⟨b, off, none⟩) v.length cap, .int .i64 a] w fun e w' => ∃ v', e = .returned v' ∧ w'.ownsRow base 5 1 v' (l ++ J.partsK (J.encL f) true (keysAt v a) (subs v a) (M.arity v a)).length (J.bv (l ++ J.partsK (J.encL f) true (keysAt v a) (subs v a) (M.arity v a))) ∧ Bk base w w' := by
  obtain ⟨i0, hi, hz0, hz1, hz2⟩ := info_parts Tryd.info5
  obtain ⟨va, vn, vc, rfl⟩ := owns_shape hown0
  have h200 := (M.fault_zero hv).2.1
  obtain ⟨f0, -, -, -, -⟩ := hrow a ha
  rw [hk] at f0
  have HPI := hide (M.places_in hv a ha)
  have HCP := hide (fun w' (hbb : Bk base w w') => childPlaces_any v b off cap a w' hv ha (hrow.below hbb.1 hb) (Nat.lt_of_lt_of_le hb (Nat.le_trans hbase0 hbb.size)) hcap)
  have HBD := hide (fun i hi => J.parts_bd f hv ha hpl true i hi)
  have HPL := hide (fun p (hp : p < v.length) (hp2 : a < p) (hp3 : M.endOf v p ≤ M.endOf v a) => show (part v p).length ≤ f by
    have := part_len hv hp
    have := part_len hv ha
    omega)
  have HT := hide htab
  have HR := hide hrow
  have HV := hide hv
  have HEG := hide (end_gt hv ha)
  have hOWN := hide hown0
  have hn200 := (unhide HPI).2.2.2
  clear hk hv htab hown0
  go_enter Tryd.func37, Tryd.ntmps37
  go_wp2_with fail
  refine ((unhide HCP) _ (Bk.refl _ _)).mono ?_
  rintro e wp ⟨sp, rfl, hsp, hbp⟩
  have hfl := firstPl_length v a (M.arity v a)
  obtain ⟨ap, cp, rfl⟩ := hsp.form2
  rw [hfl] at *
  have hkp : Bk base w wp := (Bk.refl _ _).below hbp hbase0
  have hown2 := ownsRow_below (B := 0) (unhide hOWN) hbp
  have HSP := hide hsp
  clear hsp hbp hfl hOWN HCP
  go_wp2_with fail
  go_loopg [0, 13] (M.arity v a) (fun gn s0 s13 wr => ∃ i : Nat, Hid (gn = M.arity v a - i) ∧ s13 = .int .i64 i ∧ i ≤ M.arity v a ∧ wr.ownsRow base 5 1 s0 (l ++ J.partsK (J.encL f) true (keysAt v a) (subs v a) i).length (J.bv (l ++ J.partsK (J.encL f) true (keysAt v a) (subs v a) i)) ∧ Bk base w wr ∧ Bk base wp wr)
  case atStart => exact ⟨0, rfl, rfl, by omega, by simpa [J.partsK] using hown2, hkp, Bk.refl _ _⟩
  case round =>
    obtain ⟨i, hg, rfl, him, hown, hbel, hbelp⟩ := hrel
    have hbd := (unhide HBD) i him
    have hll : (l ++ J.partsK (J.encL f) true (keysAt v a) (subs v a) i).length ≤ l.length + 80000 := by rw [List.length_append]; omega
    obtain ⟨L, hL⟩ : ∃ L, L = l ++ J.partsK (J.encL f) true (keysAt v a) (subs v a) i := ⟨_, rfl⟩
    rw [← hL] at hown hll
    have HL := hide hL
    clear hL hbd
    obtain ⟨xa, xn, xc, rfl⟩ := owns_shape hown
    by_cases hlt : i < M.arity v a
    · have hltI : (i : Int) < (M.arity v a : Int) := by omega
      have hp1 := (unhide HPI).1 i hlt
      have hp2 := (unhide HPI).2.2.1
      have hpv : M.iter v i (a + 1) < v.length := by omega
      have hpe : M.endOf v (M.iter v i (a + 1)) ≤ M.endOf v a := by
        rw [← M.iter_next v i (a + 1)]
        by_cases e : i + 1 = M.arity v a
        · rw [e, (unhide HPI).2.1]; exact Nat.le_refl _
        · exact Nat.le_of_lt ((unhide HPI).1 (i + 1) (by omega)).2
      have hpl2 := (unhide HPL) _ hpv hp1.1 hpe
      have hR := hbelp.resI (unhide HSP)
      obtain ⟨g, c, hgv, hgc, hoI⟩ := hR.some2 (by rw [firstPl_length]; omega)
      rw [firstPl_length] at hgv hgc
      obtain ⟨rfl, rfl⟩ : ap = some ⟨g, 0, none⟩ ∧ cp = c := by injection hgv with e1 e2 e3; exact ⟨e1, e3⟩
      have fp := hoI.cell (i := i) (by rw [firstPl_length]; exact hlt)
      rw [firstPl_getD v a _ i hlt] at fp
      have hps := hide (show J.partsK (J.encL f) true (keysAt v a) (subs v a) (i + 1) = J.partsK (J.encL f) true (keysAt v a) (subs v a) i ++ (J.ahead true (keysAt v a) i ++ J.encL f (part v (M.iter v i (a + 1)))) by
        rw [← J.subs_getD v a i hlt]; rfl)
      have HC := hide (fun (wq : World) (Lq : List UInt8) (tq : Value) (hq : Bk base w wq) (hlq : Lq.length + 100000 * f ≤ 100000000000) (hoq : wq.ownsRow base 5 1 tq Lq.length (J.bv Lq)) => (unhide IH) v (M.iter v i (a + 1)) b off cap base tq Lq wq (unhide HV) hpv hpl2 ((unhide HR).below hq.1 hb) hb hcap (Nat.le_trans hbase0 hq.size) hlq hoq ((unhide HT).on hq.1))
      have fk := ((unhide HR) _ hpv).2.2.2.1
      have hkey := (J.code_text (code_at (unhide HV) _ hpv)).2.1
      have HKY := hide (J.keysAt_getD v a i hlt)
      generalize (v.getD (M.iter v i (a + 1)) M.zero).key = KY at *
      clear hgv hR hoI hpe hpl2 hp1 hp2
      generalize M.iter v i (a + 1) = p at *
      have hpI : (p : Int) < (v.length : Int) := by omega
      by_cases h0 : i = 0
      · have hz : ¬ (0 : Int) < (i : Int) := by omega
        have hah : J.ahead true (keysAt v a) i = [] ++ (J.quote ((keysAt v a).getD i ByteArray.empty) ++ [58]) := by unfold J.ahead; rw [if_pos h0]; rw [if_pos rfl]
        have HAH := hide hah
        clear hah h0
        have hb0 : Bk base wr wr := Bk.refl _ _
        have hbw : base ≤ wr.heap.size := by have := hbel.size; omega
        have c0 : wr.cell? ⟨b, off + a * 5, none⟩ = some (.int .i64 6) := ((hbel.trans hb0).1.cell (p := ⟨b, off + a * 5, none⟩) hb).trans f0
        have ck1 : wr.cell? ⟨b, off + p * 5 + 3, none⟩ = some (.string KY) := ((hbel.trans hb0).1.cell (p := ⟨b, off + p * 5 + 3, none⟩) hb).trans fk
        go_wp2_with fail
        refine (appendQuoted_any base _ _ _ _ hown hkey (by omega) (by have := hb0.size; omega)).mono ?_
        rintro e w2 ⟨v2, rfl, w2o0, w2k⟩
        have w2b : Bk base wr w2 := hb0.trans w2k
        obtain ⟨Lw2, ew2⟩ : ∃ L', L' = L ++ J.quote KY := ⟨_, rfl⟩
        have w2o : w2.ownsRow base 5 1 v2 Lw2.length (J.bv Lw2) := by rw [ew2]; exact w2o0
        have lw2 : Lw2.length ≤ (L).length + 122 := by rw [ew2, List.length_append]; have := J.quote_length KY; omega
        have Ew2 := hide ew2
        clear ew2 w2o0 w2k c0 ck1
        obtain ⟨xa2, xn2, xc2, rfl⟩ := owns_shape w2o
        have hown1 := hide (fun o => (w2o).alloc o)
        have hone := hide (J.one_word w2 58)
        have honep := hide (J.one_plain 58)
        have hb63 : (Lw2).length + 1 ≤ maxLen := by unfold maxLen; omega
        have hby : ((Lw2).length + 1) * 1 ≤ 140737488355328 := by omega
        have hbase : base ≤ w2.heap.size + 1 := by have := (w2b).size; omega
        have hbse := hide (J.owns_base w2o)
        have hbsr := hide (fun o => J.owns_row ((w2o).alloc o))
        clear w2o
        go_wp2_with (at_builtin; refine wpList_append_own _ rfl (.tmp 35) (.tmp 36) 42 rfl base 5 i0 (.int .u8 0) 1 1 Tryd.underlying42 hi hz0 hz1 hz2 rfl (by decide) _ (Lw2).length _ rfl ((unhide hown1) _) ⟨w2.heap.size, 0, none⟩ 1 1 [.int .u8 58] rfl rfl (unhide hone) (unhide honep) hb63 hby (by simpa using hbase) ?_)
        intro vw3 w3 w3h hgw3 _
        have w3b : Bk base wr w3 := ((w2b).alloc (by have := (w2b).size; omega) _).grown hgw3 (by simpa using hbase) (unhide hbse) ((unhide hbsr) _)
        obtain ⟨Lw3, ew3⟩ : ∃ L', L' = Lw2 ++ [58] := ⟨_, rfl⟩
        have w3o : w3.ownsRow base 5 1 vw3 Lw3.length (J.bv Lw3) := by rw [ew3, List.length_append, ← J.bv_snoc]; exact w3h
        have lw3 : Lw3.length ≤ (Lw2).length + 1 := by rw [ew3, List.length_append]; exact Nat.le_refl _
        have Ew3 := hide ew3
        clear hgw3 w3h ew3 hown1 hone honep hb63 hby hbase hbse hbsr
        obtain ⟨xaw3, xnw3, xcw3, rfl⟩ := owns_shape w3o
        go_wp2_with fail
        refine ((unhide HC) _ _ _ (hbel.trans w3b) (by omega) w3o).mono ?_
        rintro e w4 ⟨v4, rfl, w4o0, w4k⟩
        have w4b : Bk base wr w4 := w3b.trans w4k
        have w4o : w4.ownsRow base 5 1 v4 (l ++ J.partsK (J.encL f) true (keysAt v a) (subs v a) (i + 1)).length (J.bv (l ++ J.partsK (J.encL f) true (keysAt v a) (subs v a) (i + 1))) := by
          have e : Lw3 ++ J.encL f (part v p) = l ++ J.partsK (J.encL f) true (keysAt v a) (subs v a) (i + 1) := by
            rw [unhide Ew3, unhide Ew2, unhide HL, unhide hps, unhide HAH, unhide HKY]
            simp only [List.append_assoc, List.nil_append, List.append_nil, List.cons_append]
          rw [← e]
          exact w4o0
        clear w4o0 w4k
        obtain ⟨xa4, xn4, xc4, rfl⟩ := owns_shape w4o
        have W4O := hide w4o
        clear w4o
        go_wp2_with fail
        go_roundg (M.arity v a - (i + 1))
        case rel => exact ⟨i + 1, rfl, by go_num, by omega, unhide W4O, hbel.trans w4b, hbelp.trans w4b⟩
        case measure => have := hg.out; omega
      · have hz : (0 : Int) < (i : Int) := by omega
        have hah : J.ahead true (keysAt v a) i = [44] ++ (J.quote ((keysAt v a).getD i ByteArray.empty) ++ [58]) := by unfold J.ahead; rw [if_neg h0]; rw [if_pos rfl]
        have HAH := hide hah
        clear hah h0
        have hb0 : Bk base wr wr := Bk.refl _ _
        have hbw : base ≤ wr.heap.size := by have := hbel.size; omega
        have hown1 := hide (fun o => (hown).alloc o)
        have hone := hide (J.one_word wr 44)
        have honep := hide (J.one_plain 44)
        have hb63 : (L).length + 1 ≤ maxLen := by unfold maxLen; omega
        have hby : ((L).length + 1) * 1 ≤ 140737488355328 := by omega
        have hbase : base ≤ wr.heap.size + 1 := by have := (hb0).size; omega
        have hbse := hide (J.owns_base hown)
        have hbsr := hide (fun o => J.owns_row ((hown).alloc o))
        clear hown
        go_wp2_with (at_builtin; refine wpList_append_own _ rfl (.tmp 20) (.tmp 21) 42 rfl base 5 i0 (.int .u8 0) 1 1 Tryd.underlying42 hi hz0 hz1 hz2 rfl (by decide) _ (L).length _ rfl ((unhide hown1) _) ⟨wr.heap.size, 0, none⟩ 1 1 [.int .u8 44] rfl rfl (unhide hone) (unhide honep) hb63 hby (by simpa using hbase) ?_)
        intro vw1 w1 w1h hgw1 _
        have w1b : Bk base wr w1 := ((hb0).alloc (by have := (hb0).size; omega) _).grown hgw1 (by simpa using hbase) (unhide hbse) ((unhide hbsr) _)
        obtain ⟨Lw1, ew1⟩ : ∃ L', L' = L ++ [44] := ⟨_, rfl⟩
        have w1o : w1.ownsRow base 5 1 vw1 Lw1.length (J.bv Lw1) := by rw [ew1, List.length_append, ← J.bv_snoc]; exact w1h
        have lw1 : Lw1.length ≤ (L).length + 1 := by rw [ew1, List.length_append]; exact Nat.le_refl _
        have Ew1 := hide ew1
        clear hgw1 w1h ew1 hown1 hone honep hb63 hby hbase hbse hbsr
        obtain ⟨xaw1, xnw1, xcw1, rfl⟩ := owns_shape w1o
        have c0 : w1.cell? ⟨b, off + a * 5, none⟩ = some (.int .i64 6) := ((hbel.trans w1b).1.cell (p := ⟨b, off + a * 5, none⟩) hb).trans f0
        have ck1 : w1.cell? ⟨b, off + p * 5 + 3, none⟩ = some (.string KY) := ((hbel.trans w1b).1.cell (p := ⟨b, off + p * 5 + 3, none⟩) hb).trans fk
        go_wp2_with fail
        refine (appendQuoted_any base _ _ _ _ w1o hkey (by omega) (by have := w1b.size; omega)).mono ?_
        rintro e w2 ⟨v2, rfl, w2o0, w2k⟩
        have w2b : Bk base wr w2 := w1b.trans w2k
        obtain ⟨Lw2, ew2⟩ : ∃ L', L' = Lw1 ++ J.quote KY := ⟨_, rfl⟩
        have w2o : w2.ownsRow base 5 1 v2 Lw2.length (J.bv Lw2) := by rw [ew2]; exact w2o0
        have lw2 : Lw2.length ≤ (Lw1).length + 122 := by rw [ew2, List.length_append]; have := J.quote_length KY; omega
        have Ew2 := hide ew2
        clear ew2 w2o0 w2k c0 ck1
        obtain ⟨xa2, xn2, xc2, rfl⟩ := owns_shape w2o
        have hown1 := hide (fun o => (w2o).alloc o)
        have hone := hide (J.one_word w2 58)
        have honep := hide (J.one_plain 58)
        have hb63 : (Lw2).length + 1 ≤ maxLen := by unfold maxLen; omega
        have hby : ((Lw2).length + 1) * 1 ≤ 140737488355328 := by omega
        have hbase : base ≤ w2.heap.size + 1 := by have := (w2b).size; omega
        have hbse := hide (J.owns_base w2o)
        have hbsr := hide (fun o => J.owns_row ((w2o).alloc o))
        clear w2o
        go_wp2_with (at_builtin; refine wpList_append_own _ rfl (.tmp 35) (.tmp 36) 42 rfl base 5 i0 (.int .u8 0) 1 1 Tryd.underlying42 hi hz0 hz1 hz2 rfl (by decide) _ (Lw2).length _ rfl ((unhide hown1) _) ⟨w2.heap.size, 0, none⟩ 1 1 [.int .u8 58] rfl rfl (unhide hone) (unhide honep) hb63 hby (by simpa using hbase) ?_)
        intro vw3 w3 w3h hgw3 _
        have w3b : Bk base wr w3 := ((w2b).alloc (by have := (w2b).size; omega) _).grown hgw3 (by simpa using hbase) (unhide hbse) ((unhide hbsr) _)
        obtain ⟨Lw3, ew3⟩ : ∃ L', L' = Lw2 ++ [58] := ⟨_, rfl⟩
        have w3o : w3.ownsRow base 5 1 vw3 Lw3.length (J.bv Lw3) := by rw [ew3, List.length_append, ← J.bv_snoc]; exact w3h
        have lw3 : Lw3.length ≤ (Lw2).length + 1 := by rw [ew3, List.length_append]; exact Nat.le_refl _
        have Ew3 := hide ew3
        clear hgw3 w3h ew3 hown1 hone honep hb63 hby hbase hbse hbsr
        obtain ⟨xaw3, xnw3, xcw3, rfl⟩ := owns_shape w3o
        go_wp2_with fail
        refine ((unhide HC) _ _ _ (hbel.trans w3b) (by omega) w3o).mono ?_
        rintro e w4 ⟨v4, rfl, w4o0, w4k⟩
        have w4b : Bk base wr w4 := w3b.trans w4k
        have w4o : w4.ownsRow base 5 1 v4 (l ++ J.partsK (J.encL f) true (keysAt v a) (subs v a) (i + 1)).length (J.bv (l ++ J.partsK (J.encL f) true (keysAt v a) (subs v a) (i + 1))) := by
          have e : Lw3 ++ J.encL f (part v p) = l ++ J.partsK (J.encL f) true (keysAt v a) (subs v a) (i + 1) := by
            rw [unhide Ew3, unhide Ew2, unhide Ew1, unhide HL, unhide hps, unhide HAH, unhide HKY]
            simp only [List.append_assoc, List.nil_append, List.append_nil, List.cons_append]
          rw [← e]
          exact w4o0
        clear w4o0 w4k
        obtain ⟨xa4, xn4, xc4, rfl⟩ := owns_shape w4o
        have W4O := hide w4o
        clear w4o
        go_wp2_with fail
        go_roundg (M.arity v a - (i + 1))
        case rel => exact ⟨i + 1, rfl, by go_num, by omega, unhide W4O, hbel.trans w4b, hbelp.trans w4b⟩
        case measure => have := hg.out; omega
    · have hge : ¬ (i : Int) < (M.arity v a : Int) := by omega
      have hie : i = M.arity v a := by omega
      have fin := hide (show wr.ownsRow base 5 1 (.slice xa xn xc) (l ++ J.partsK (J.encL f) true (keysAt v a) (subs v a) (M.arity v a)).length (J.bv (l ++ J.partsK (J.encL f) true (keysAt v a) (subs v a) (M.arity v a))) by rw [← hie, ← unhide HL]; exact hown)
      clear hown hie
      go_wp2_with fail
      go_ret
      refine ⟨_, rfl, ?_, hbel⟩
      first | exact unhide fin | (have h := unhide fin; rw [List.length_append] at h; exact h)

end Go.Proofs.YtakdlcgiieaieaaDoor

namespace Go.Proofs.YtakdlcgiieaieaaDoor
open Go.RowKit
set_option linter.unusedVariables false
set_option linter.unusedSimpArgs false

theorem room_gen {L l f K C b : Nat} (hl : l + K * (f + 1) ≤ C) (h : L ≤ l + 1) (hab : b + 1 ≤ K) : L + K * f + b ≤ C := by
  rw [Nat.mul_add, Nat.mul_one] at hl
  generalize K * f = x at *
  omega
theorem room_in {L l f : Nat} (hl : l + 100000 * (f + 1) ≤ 100000000000) (h : L ≤ l + 1) : L + 100000 * f + 99990 ≤ 100000000000 := room_gen hl h (by decide)

set_option maxRecDepth 100000 in
set_option maxHeartbeats 4000000 in
theorem appendText_0 (f : Nat) (v : List M.Cl) (a b off cap base : Nat) (tv : Value) (l : List UInt8) (w : World) (hv : M.valueFault v = 0) (ha : a < v.length) (hpl : (part v a).length ≤ f + 1) (hrow : Row w b off v) (hb : b < base) (hcap : v.length ≤ cap) (hbase0 : base ≤ w.heap.size) (hl : l.length + 100000 * (f + 1) ≤ 100000000000) (hown0 : w.ownsRow base 5 1 tv l.length (J.bv l)) (htab : Lib.TabBelow Tryd.prog base w "internal/strconv.uint64pow10" .u64 Lib.pow10Tab) (hk : (v.getD a M.zero).kind = 0) :
    Calls Tryd.prog 22 #[tv, .slice (some ⟨b, off, none⟩) v.length cap, .int .i64 a] w fun e w' => ∃ v', e = .returned v' ∧ w'.ownsRow base 5 1 v' (l ++ J.encL (f + 1) (part v a)).length (J.bv (l ++ J.encL (f + 1) (part v a))) ∧ Bk base w w' := by
  obtain ⟨i0, hi, hz0, hz1, hz2⟩ := info_parts Tryd.info5
  obtain ⟨va, vn, vc, rfl⟩ := owns_shape hown0
  have h200 := (M.fault_zero hv).2.1
  have haI : (a : Int) < (v.length : Int) := by omega
  have hc := J.code_text (code_at hv a ha)
  obtain ⟨f0, f1, f2, f3, f4⟩ := hrow a ha
  rw [hk] at f0
  obtain ⟨R, hR⟩ : ∃ R, R = J.encL (f + 1) (part v a) := ⟨_, rfl⟩
  have HR := hide (hR.trans (J.encL_part f hv ha))
  rw [← hR]
  clear hR
  rw [hk] at HR
  clear hk
  generalize v.getD a M.zero = c at *
  obtain ⟨w0, hw0⟩ : ∃ w0, w0 = w.alloc (.cells #[.int .i64 0, .int .i64 c.num, .string c.text, .string c.key, .int .i64 c.n] 55) := ⟨_, rfl⟩
  have B0 : Bk base w w0 := by rw [hw0]; exact (Bk.refl _ _).alloc hbase0 _
  have hX0 : Own w0 w.heap.size 55 [.int .i64 0, .int .i64 c.num, .string c.text, .string c.key, .int .i64 c.n] := by rw [hw0]; exact ⟨_, heap_alloc_new _ _, rfl⟩
  have hown := hown0.alloc (.cells #[.int .i64 0, .int .i64 c.num, .string c.text, .string c.key, .int .i64 c.n] 55)
  rw [← hw0] at hown
  have HE := hide (show R = [110, 117, 108, 108] by rw [unhide HR]; rfl)
  have hb63 : l.length + (⟨#[110, 117, 108, 108]⟩ : ByteArray).size ≤ maxLen := by unfold maxLen; show l.length + 4 ≤ _; omega
  have hby : l.length + (⟨#[110, 117, 108, 108]⟩ : ByteArray).size ≤ 140737488355328 := by show l.length + 4 ≤ _; omega
  have hbw : base ≤ w0.heap.size := by have := B0.size; omega
  have hbse := hide (J.owns_base hown)
  have hbsr := hide (J.owns_row hown)
  have HO := hide hown
  clear hown hown0 HR hpl htab hv hc hrow
  rw [hw0] at HO hbsr hbw
  go_enter Tryd.func22, Tryd.ntmps22
  go_wp2_with (at_builtin; refine Lib.wpList_append_own_string _ rfl (.tmp 16) (.const (.string ⟨#[110, 117, 108, 108]⟩)) 42 9 rfl base 5 i0 Tryd.underlying42 Tryd.underlying9 hi hz0 hz1 hz2 _ l.length _ rfl (unhide HO) ⟨#[110, 117, 108, 108]⟩ rfl hb63 hby hbw ?_)
  intro v1 w1 ho1 hg1 _
  rw [← hw0] at hg1 hbsr hbw
  have B1 : Bk base w w1 := B0.grown hg1 hbw (unhide hbse) (unhide hbsr)
  have fin := hide (show w1.ownsRow base 5 1 v1 (l ++ R).length (J.bv (l ++ R)) by
    rw [unhide HE, List.length_append, ← bv_app]; exact ho1)
  clear ho1 hg1 HO hbse hbsr
  obtain ⟨xa1, xn1, xc1, rfl⟩ := owns_shape (unhide fin)
  go_wp2_with fail
  go_ret
  refine ⟨_, rfl, ?_, B1⟩
  first | exact unhide fin | (have h := unhide fin; rw [List.length_append] at h; exact h)

set_option maxRecDepth 100000 in
set_option maxHeartbeats 4000000 in
theorem appendText_1 (f : Nat) (v : List M.Cl) (a b off cap base : Nat) (tv : Value) (l : List UInt8) (w : World) (hv : M.valueFault v = 0) (ha : a < v.length) (hpl : (part v a).length ≤ f + 1) (hrow : Row w b off v) (hb : b < base) (hcap : v.length ≤ cap) (hbase0 : base ≤ w.heap.size) (hl : l.length + 100000 * (f + 1) ≤ 100000000000) (hown0 : w.ownsRow base 5 1 tv l.length (J.bv l)) (htab : Lib.TabBelow Tryd.prog base w "internal/strconv.uint64pow10" .u64 Lib.pow10Tab) (hk : (v.getD a M.zero).kind = 1) :
    Calls Tryd.prog 22 #[tv, .slice (some ⟨b, off, none⟩) v.length cap, .int .i64 a] w fun e w' => ∃ v', e = .returned v' ∧ w'.ownsRow base 5 1 v' (l ++ J.encL (f + 1) (part v a)).length (J.bv (l ++ J.encL (f + 1) (part v a))) ∧ Bk base w w' := by
  obtain ⟨i0, hi, hz0, hz1, hz2⟩ := info_parts Tryd.info5
  obtain ⟨va, vn, vc, rfl⟩ := owns_shape hown0
  have h200 := (M.fault_zero hv).2.1
  have haI : (a : Int) < (v.length : Int) := by omega
  have hc := J.code_text (code_at hv a ha)
  obtain ⟨f0, f1, f2, f3, f4⟩ := hrow a ha
  rw [hk] at f0
  obtain ⟨R, hR⟩ : ∃ R, R = J.encL (f + 1) (part v a) := ⟨_, rfl⟩
  have HR := hide (hR.trans (J.encL_part f hv ha))
  rw [← hR]
  clear hR
  rw [hk] at HR
  clear hk
  generalize v.getD a M.zero = c at *
  obtain ⟨w0, hw0⟩ : ∃ w0, w0 = w.alloc (.cells #[.int .i64 1, .int .i64 c.num, .string c.text, .string c.key, .int .i64 c.n] 55) := ⟨_, rfl⟩
  have B0 : Bk base w w0 := by rw [hw0]; exact (Bk.refl _ _).alloc hbase0 _
  have hX0 : Own w0 w.heap.size 55 [.int .i64 1, .int .i64 c.num, .string c.text, .string c.key, .int .i64 c.n] := by rw [hw0]; exact ⟨_, heap_alloc_new _ _, rfl⟩
  have hown := hown0.alloc (.cells #[.int .i64 1, .int .i64 c.num, .string c.text, .string c.key, .int .i64 c.n] 55)
  rw [← hw0] at hown
  have HE := hide (show R = [102, 97, 108, 115, 101] by rw [unhide HR]; rfl)
  have hb63 : l.length + (⟨#[102, 97, 108, 115, 101]⟩ : ByteArray).size ≤ maxLen := by unfold maxLen; show l.length + 5 ≤ _; omega
  have hby : l.length + (⟨#[102, 97, 108, 115, 101]⟩ : ByteArray).size ≤ 140737488355328 := by show l.length + 5 ≤ _; omega
  have hbw : base ≤ w0.heap.size := by have := B0.size; omega
  have hbse := hide (J.owns_base hown)
  have hbsr := hide (J.owns_row hown)
  have HO := hide hown
  clear hown hown0 HR hpl htab hv hc hrow
  rw [hw0] at HO hbsr hbw
  go_enter Tryd.func22, Tryd.ntmps22
  go_wp2_with (at_builtin; refine Lib.wpList_append_own_string _ rfl (.tmp 20) (.const (.string ⟨#[102, 97, 108, 115, 101]⟩)) 42 9 rfl base 5 i0 Tryd.underlying42 Tryd.underlying9 hi hz0 hz1 hz2 _ l.length _ rfl (unhide HO) ⟨#[102, 97, 108, 115, 101]⟩ rfl hb63 hby hbw ?_)
  intro v1 w1 ho1 hg1 _
  rw [← hw0] at hg1 hbsr hbw
  have B1 : Bk base w w1 := B0.grown hg1 hbw (unhide hbse) (unhide hbsr)
  have fin := hide (show w1.ownsRow base 5 1 v1 (l ++ R).length (J.bv (l ++ R)) by
    rw [unhide HE, List.length_append, ← bv_app]; exact ho1)
  clear ho1 hg1 HO hbse hbsr
  obtain ⟨xa1, xn1, xc1, rfl⟩ := owns_shape (unhide fin)
  go_wp2_with fail
  go_ret
  refine ⟨_, rfl, ?_, B1⟩
  first | exact unhide fin | (have h := unhide fin; rw [List.length_append] at h; exact h)

set_option maxRecDepth 100000 in
set_option maxHeartbeats 4000000 in
theorem appendText_2 (f : Nat) (v : List M.Cl) (a b off cap base : Nat) (tv : Value) (l : List UInt8) (w : World) (hv : M.valueFault v = 0) (ha : a < v.length) (hpl : (part v a).length ≤ f + 1) (hrow : Row w b off v) (hb : b < base) (hcap : v.length ≤ cap) (hbase0 : base ≤ w.heap.size) (hl : l.length + 100000 * (f + 1) ≤ 100000000000) (hown0 : w.ownsRow base 5 1 tv l.length (J.bv l)) (htab : Lib.TabBelow Tryd.prog base w "internal/strconv.uint64pow10" .u64 Lib.pow10Tab) (hk : (v.getD a M.zero).kind = 2) :
    Calls Tryd.prog 22 #[tv, .slice (some ⟨b, off, none⟩) v.length cap, .int .i64 a] w fun e w' => ∃ v', e = .returned v' ∧ w'.ownsRow base 5 1 v' (l ++ J.encL (f + 1) (part v a)).length (J.bv (l ++ J.encL (f + 1) (part v a))) ∧ Bk base w w' := by
  obtain ⟨i0, hi, hz0, hz1, hz2⟩ := info_parts Tryd.info5
  obtain ⟨va, vn, vc, rfl⟩ := owns_shape hown0
  have h200 := (M.fault_zero hv).2.1
  have haI : (a : Int) < (v.length : Int) := by omega
  have hc := J.code_text (code_at hv a ha)
  obtain ⟨f0, f1, f2, f3, f4⟩ := hrow a ha
  rw [hk] at f0
  obtain ⟨R, hR⟩ : ∃ R, R = J.encL (f + 1) (part v a) := ⟨_, rfl⟩
  have HR := hide (hR.trans (J.encL_part f hv ha))
  rw [← hR]
  clear hR
  rw [hk] at HR
  clear hk
  generalize v.getD a M.zero = c at *
  obtain ⟨w0, hw0⟩ : ∃ w0, w0 = w.alloc (.cells #[.int .i64 2, .int .i64 c.num, .string c.text, .string c.key, .int .i64 c.n] 55) := ⟨_, rfl⟩
  have B0 : Bk base w w0 := by rw [hw0]; exact (Bk.refl _ _).alloc hbase0 _
  have hX0 : Own w0 w.heap.size 55 [.int .i64 2, .int .i64 c.num, .string c.text, .string c.key, .int .i64 c.n] := by rw [hw0]; exact ⟨_, heap_alloc_new _ _, rfl⟩
  have hown := hown0.alloc (.cells #[.int .i64 2, .int .i64 c.num, .string c.text, .string c.key, .int .i64 c.n] 55)
  rw [← hw0] at hown
  have HE := hide (show R = [116, 114, 117, 101] by rw [unhide HR]; rfl)
  have hb63 : l.length + (⟨#[116, 114, 117, 101]⟩ : ByteArray).size ≤ maxLen := by unfold maxLen; show l.length + 4 ≤ _; omega
  have hby : l.length + (⟨#[116, 114, 117, 101]⟩ : ByteArray).size ≤ 140737488355328 := by show l.length + 4 ≤ _; omega
  have hbw : base ≤ w0.heap.size := by have := B0.size; omega
  have hbse := hide (J.owns_base hown)
  have hbsr := hide (J.owns_row hown)
  have HO := hide hown
  clear hown hown0 HR hpl htab hv hc hrow
  rw [hw0] at HO hbsr hbw
  go_enter Tryd.func22, Tryd.ntmps22
  go_wp2_with (at_builtin; refine Lib.wpList_append_own_string _ rfl (.tmp 24) (.const (.string ⟨#[116, 114, 117, 101]⟩)) 42 9 rfl base 5 i0 Tryd.underlying42 Tryd.underlying9 hi hz0 hz1 hz2 _ l.length _ rfl (unhide HO) ⟨#[116, 114, 117, 101]⟩ rfl hb63 hby hbw ?_)
  intro v1 w1 ho1 hg1 _
  rw [← hw0] at hg1 hbsr hbw
  have B1 : Bk base w w1 := B0.grown hg1 hbw (unhide hbse) (unhide hbsr)
  have fin := hide (show w1.ownsRow base 5 1 v1 (l ++ R).length (J.bv (l ++ R)) by
    rw [unhide HE, List.length_append, ← bv_app]; exact ho1)
  clear ho1 hg1 HO hbse hbsr
  obtain ⟨xa1, xn1, xc1, rfl⟩ := owns_shape (unhide fin)
  go_wp2_with fail
  go_ret
  refine ⟨_, rfl, ?_, B1⟩
  first | exact unhide fin | (have h := unhide fin; rw [List.length_append] at h; exact h)

set_option maxRecDepth 100000 in
set_option maxHeartbeats 4000000 in
theorem appendText_3 (f : Nat) (v : List M.Cl) (a b off cap base : Nat) (tv : Value) (l : List UInt8) (w : World) (hv : M.valueFault v = 0) (ha : a < v.length) (hpl : (part v a).length ≤ f + 1) (hrow : Row w b off v) (hb : b < base) (hcap : v.length ≤ cap) (hbase0 : base ≤ w.heap.size) (hl : l.length + 100000 * (f + 1) ≤ 100000000000) (hown0 : w.ownsRow base 5 1 tv l.length (J.bv l)) (htab : Lib.TabBelow Tryd.prog base w "internal/strconv.uint64pow10" .u64 Lib.pow10Tab) (hk : (v.getD a M.zero).kind = 3) :
    Calls Tryd.prog 22 #[tv, .slice (some ⟨b, off, none⟩) v.length cap, .int .i64 a] w fun e w' => ∃ v', e = .returned v' ∧ w'.ownsRow base 5 1 v' (l ++ J.encL (f + 1) (part v a)).length (J.bv (l ++ J.encL (f + 1) (part v a))) ∧ Bk base w w' := by
  obtain ⟨i0, hi, hz0, hz1, hz2⟩ := info_parts Tryd.info5
  obtain ⟨va, vn, vc, rfl⟩ := owns_shape hown0
  have h200 := (M.fault_zero hv).2.1
  have haI : (a : Int) < (v.length : Int) := by omega
  have hc := J.code_text (code_at hv a ha)
  obtain ⟨f0, f1, f2, f3, f4⟩ := hrow a ha
  rw [hk] at f0
  obtain ⟨R, hR⟩ : ∃ R, R = J.encL (f + 1) (part v a) := ⟨_, rfl⟩
  have HR := hide (hR.trans (J.encL_part f hv ha))
  rw [← hR]
  clear hR
  rw [hk] at HR
  clear hk
  generalize v.getD a M.zero = c at *
  obtain ⟨w0, hw0⟩ : ∃ w0, w0 = w.alloc (.cells #[.int .i64 3, .int .i64 c.num, .string c.text, .string c.key, .int .i64 c.n] 55) := ⟨_, rfl⟩
  have B0 : Bk base w w0 := by rw [hw0]; exact (Bk.refl _ _).alloc hbase0 _
  have hX0 : Own w0 w.heap.size 55 [.int .i64 3, .int .i64 c.num, .string c.text, .string c.key, .int .i64 c.n] := by rw [hw0]; exact ⟨_, heap_alloc_new _ _, rfl⟩
  have hown := hown0.alloc (.cells #[.int .i64 3, .int .i64 c.num, .string c.text, .string c.key, .int .i64 c.n] 55)
  rw [← hw0] at hown
  have HE := hide (show R = Lib.itoa c.num by rw [unhide HR]; rfl)
  have HI := hide (Tryd.strconv_AppendInt_10 base l.length c.num (by omega) (by omega) (.slice va vn vc) (J.bv l) w0 hown (by have := B0.size; omega) (by omega) (htab.on B0.1))
  rw [hw0] at HI
  clear hown hown0 HR hpl htab hv hc hrow
  go_enter Tryd.func22, Tryd.ntmps22
  go_wp2_with fail
  refine (unhide HI).mono ?_
  rintro e w1 ⟨v1, rfl, ho1, hb1, hk1⟩
  rw [← hw0] at hb1 hk1
  have B1 : Bk base w w1 := B0.trans ⟨hb1, hk1⟩
  have fin := hide (show w1.ownsRow base 5 1 v1 (l ++ R).length (J.bv (l ++ R)) by
    rw [unhide HE, List.length_append, ← bv_app]; exact ho1)
  clear ho1 HI hb1 hk1
  obtain ⟨xa1, xn1, xc1, rfl⟩ := owns_shape (unhide fin)
  go_wp2_with fail
  go_ret
  refine ⟨_, rfl, ?_, B1⟩
  first | exact unhide fin | (have h := unhide fin; rw [List.length_append] at h; exact h)

set_option maxRecDepth 100000 in
set_option maxHeartbeats 4000000 in
theorem appendText_4 (f : Nat) (v : List M.Cl) (a b off cap base : Nat) (tv : Value) (l : List UInt8) (w : World) (hv : M.valueFault v = 0) (ha : a < v.length) (hpl : (part v a).length ≤ f + 1) (hrow : Row w b off v) (hb : b < base) (hcap : v.length ≤ cap) (hbase0 : base ≤ w.heap.size) (hl : l.length + 100000 * (f + 1) ≤ 100000000000) (hown0 : w.ownsRow base 5 1 tv l.length (J.bv l)) (htab : Lib.TabBelow Tryd.prog base w "internal/strconv.uint64pow10" .u64 Lib.pow10Tab) (hk : (v.getD a M.zero).kind = 4) :
    Calls Tryd.prog 22 #[tv, .slice (some ⟨b, off, none⟩) v.length cap, .int .i64 a] w fun e w' => ∃ v', e = .returned v' ∧ w'.ownsRow base 5 1 v' (l ++ J.encL (f + 1) (part v a)).length (J.bv (l ++ J.encL (f + 1) (part v a))) ∧ Bk base w w' := by
  obtain ⟨i0, hi, hz0, hz1, hz2⟩ := info_parts Tryd.info5
  obtain ⟨va, vn, vc, rfl⟩ := owns_shape hown0
  have h200 := (M.fault_zero hv).2.1
  have haI : (a : Int) < (v.length : Int) := by omega
  have hc := J.code_text (code_at hv a ha)
  obtain ⟨f0, f1, f2, f3, f4⟩ := hrow a ha
  rw [hk] at f0
  obtain ⟨R, hR⟩ : ∃ R, R = J.encL (f + 1) (part v a) := ⟨_, rfl⟩
  have HR := hide (hR.trans (J.encL_part f hv ha))
  rw [← hR]
  clear hR
  rw [hk] at HR
  clear hk
  generalize v.getD a M.zero = c at *
  obtain ⟨w0, hw0⟩ : ∃ w0, w0 = w.alloc (.cells #[.int .i64 4, .int .i64 c.num, .string c.text, .string c.key, .int .i64 c.n] 55) := ⟨_, rfl⟩
  have B0 : Bk base w w0 := by rw [hw0]; exact (Bk.refl _ _).alloc hbase0 _
  have hX0 : Own w0 w.heap.size 55 [.int .i64 4, .int .i64 c.num, .string c.text, .string c.key, .int .i64 c.n] := by rw [hw0]; exact ⟨_, heap_alloc_new _ _, rfl⟩
  have hown := hown0.alloc (.cells #[.int .i64 4, .int .i64 c.num, .string c.text, .string c.key, .int .i64 c.n] 55)
  rw [← hw0] at hown
  have HE := hide (show R = J.quote c.text by rw [unhide HR]; rfl)
  have HI := hide (appendQuoted_any base (.slice va vn vc) l c.text w0 hown hc.1 (by omega) (by have := B0.size; omega))
  rw [hw0] at HI
  clear hown hown0 HR hpl htab hv hc hrow
  go_enter Tryd.func22, Tryd.ntmps22
  go_wp2_with fail
  refine (unhide HI).mono ?_
  rintro e w1 ⟨v1, rfl, ho1, hk1⟩
  rw [← hw0] at hk1
  have B1 : Bk base w w1 := B0.trans hk1
  have fin := hide (show w1.ownsRow base 5 1 v1 (l ++ R).length (J.bv (l ++ R)) by
    rw [unhide HE]; exact ho1)
  clear ho1 HI hk1
  obtain ⟨xa1, xn1, xc1, rfl⟩ := owns_shape (unhide fin)
  go_wp2_with fail
  go_ret
  refine ⟨_, rfl, ?_, B1⟩
  first | exact unhide fin | (have h := unhide fin; rw [List.length_append] at h; exact h)

set_option maxRecDepth 100000 in
set_option maxHeartbeats 4000000 in
theorem appendText_5 (f : Nat) (IH : Hid (AppSays f)) (v : List M.Cl) (a b off cap base : Nat) (tv : Value) (l : List UInt8) (w : World) (hv : M.valueFault v = 0) (ha : a < v.length) (hpl : (part v a).length ≤ f + 1) (hrow : Row w b off v) (hb : b < base) (hcap : v.length ≤ cap) (hbase0 : base ≤ w.heap.size) (hl : l.length + 100000 * (f + 1) ≤ 100000000000) (hown0 : w.ownsRow base 5 1 tv l.length (J.bv l)) (htab : Lib.TabBelow Tryd.prog base w "internal/strconv.uint64pow10" .u64 Lib.pow10Tab) (hk : (v.getD a M.zero).kind = 5) :
    Calls Tryd.prog 22 #[tv, .slice (some ⟨b, off, none⟩) v.length cap, .int .i64 a] w fun e w' => ∃ v', e = .returned v' ∧ w'.ownsRow base 5 1 v' (l ++ J.encL (f + 1) (part v a)).length (J.bv (l ++ J.encL (f + 1) (part v a))) ∧ Bk base w w' := by
  obtain ⟨i0, hi, hz0, hz1, hz2⟩ := info_parts Tryd.info5
  obtain ⟨va, vn, vc, rfl⟩ := owns_shape hown0
  have h200 := (M.fault_zero hv).2.1
  have haI : (a : Int) < (v.length : Int) := by omega
  have hc := J.code_text (code_at hv a ha)
  obtain ⟨f0, f1, f2, f3, f4⟩ := hrow a ha
  rw [hk] at f0
  obtain ⟨R, hR⟩ : ∃ R, R = J.encL (f + 1) (part v a) := ⟨_, rfl⟩
  have HR := hide (hR.trans (J.encL_part f hv ha))
  rw [← hR]
  clear hR
  rw [hk] at HR
  have hbd := J.parts_bd f hv ha hpl false _ (Nat.le_refl _)
  have HP := hide (fun (wq : World) (Lq : List UInt8) (tq : Value) (hq : Bk base w wq) (hlq : Lq.length + 100000 * f + 99990 ≤ 100000000000) (hoq : wq.ownsRow base 5 1 tq Lq.length (J.bv Lq)) => appendParts_5 f IH v a b off cap base tq Lq wq hv ha hpl (hrow.below hq.1 hb) hb hcap (Nat.le_trans hbase0 hq.size) hlq hoq (htab.on hq.1) hk)
  clear hk
  generalize v.getD a M.zero = c at *
  obtain ⟨w0, hw0⟩ : ∃ w0, w0 = w.alloc (.cells #[.int .i64 5, .int .i64 c.num, .string c.text, .string c.key, .int .i64 c.n] 55) := ⟨_, rfl⟩
  have B0 : Bk base w w0 := by rw [hw0]; exact (Bk.refl _ _).alloc hbase0 _
  have hX0 : Own w0 w.heap.size 55 [.int .i64 5, .int .i64 c.num, .string c.text, .string c.key, .int .i64 c.n] := by rw [hw0]; exact ⟨_, heap_alloc_new _ _, rfl⟩
  have hown := hown0.alloc (.cells #[.int .i64 5, .int .i64 c.num, .string c.text, .string c.key, .int .i64 c.n] 55)
  rw [← hw0] at hown
  have HE := hide (show R = [91] ++ J.partsK (J.encL f) false (keysAt v a) (subs v a) (M.arity v a) ++ [93] by rw [unhide HR]; rfl)
  have hbw : base ≤ w0.heap.size := by have := B0.size; omega
  have hsz0 : w0.heap.size = w.heap.size + 1 := by rw [hw0]; simp
  have hown1 := hide (fun o => hown.alloc o)
  have hone := hide (J.one_word w0 91)
  rw [hsz0] at hone
  have honep := hide (J.one_plain 91)
  have hb63 : l.length + 1 ≤ maxLen := by unfold maxLen; omega
  have hby : (l.length + 1) * 1 ≤ 140737488355328 := by omega
  have hbse := hide (J.owns_base hown)
  have hbsr := hide (fun o => J.owns_row (hown.alloc o))
  have HB0 := hide B0
  have HW0 := hide hw0
  have hbase : base ≤ w.heap.size + 1 + 1 := by omega
  rw [hw0] at hown1 hone hbsr
  clear hown0 HR hpl htab hv hc hrow hX0 hown B0 hw0 hbw hsz0
  go_enter Tryd.func22, Tryd.ntmps22
  go_wp2_with (at_builtin; refine wpList_append_own _ rfl (.tmp 40) (.tmp 41) 42 rfl base 5 i0 (.int .u8 0) 1 1 Tryd.underlying42 hi hz0 hz1 hz2 rfl (by decide) _ l.length _ rfl ((unhide hown1) _) ⟨w.heap.size + 1, 0, none⟩ 1 1 [.int .u8 91] rfl rfl (unhide hone) (unhide honep) hb63 hby (by simpa using hbase) ?_)
  intro vw1 w1 w1h hgw1 _
  have w1b : Bk base w w1 := by
    have hB := unhide HB0
    rw [unhide HW0] at hB
    exact (hB.alloc (by simp; omega) _).grown hgw1 (by simpa using hbase) (unhide hbse) ((unhide hbsr) _)
  obtain ⟨Lw1, ew1⟩ : ∃ L', L' = l ++ [91] := ⟨_, rfl⟩
  have w1o : w1.ownsRow base 5 1 vw1 Lw1.length (J.bv Lw1) := by rw [ew1, List.length_append, ← J.bv_snoc]; exact w1h
  have lw1 : Lw1.length ≤ l.length + 1 := by rw [ew1, List.length_append]; exact Nat.le_refl _
  have hlq := room_in hl lw1
  have Ew1 := hide ew1
  have HLQ := hide hlq
  clear hgw1 w1h ew1 hown1 hone honep hb63 hby hbase hbse hbsr HB0 HW0 hlq
  obtain ⟨xa1, xn1, xc1, rfl⟩ := owns_shape w1o
  go_wp2_with fail
  refine ((unhide HP) _ _ _ w1b (unhide HLQ) w1o).mono ?_
  rintro e w2 ⟨v2, rfl, w2o0, w2k⟩
  have w2b : Bk base w w2 := w1b.trans w2k
  obtain ⟨Lw2, ew2⟩ : ∃ L', L' = Lw1 ++ J.partsK (J.encL f) false (keysAt v a) (subs v a) (M.arity v a) := ⟨_, rfl⟩
  have w2o : w2.ownsRow base 5 1 v2 Lw2.length (J.bv Lw2) := by rw [ew2]; exact w2o0
  have lw2 : Lw2.length ≤ Lw1.length + 80000 := by rw [ew2, List.length_append]; omega
  have Ew2 := hide ew2
  clear ew2 w2o0 w2k w1o w1b
  obtain ⟨xa2, xn2, xc2, rfl⟩ := owns_shape w2o
  have hown1 := hide (fun o => (w2o).alloc o)
  have hone := hide (J.one_word w2 93)
  have honep := hide (J.one_plain 93)
  have hb63 : (Lw2).length + 1 ≤ maxLen := by unfold maxLen; omega
  have hby : ((Lw2).length + 1) * 1 ≤ 140737488355328 := by omega
  have hbase : base ≤ w2.heap.size + 1 := by have := (w2b).size; omega
  have hbse := hide (J.owns_base w2o)
  have hbsr := hide (fun o => J.owns_row ((w2o).alloc o))
  clear w2o
  go_wp2_with (at_builtin; refine wpList_append_own _ rfl (.tmp 45) (.tmp 46) 42 rfl base 5 i0 (.int .u8 0) 1 1 Tryd.underlying42 hi hz0 hz1 hz2 rfl (by decide) _ (Lw2).length _ rfl ((unhide hown1) _) ⟨w2.heap.size, 0, none⟩ 1 1 [.int .u8 93] rfl rfl (unhide hone) (unhide honep) hb63 hby (by simpa using hbase) ?_)
  intro vw3 w3 w3h hgw3 _
  have w3b : Bk base w w3 := ((w2b).alloc (by have := (w2b).size; omega) _).grown hgw3 (by simpa using hbase) (unhide hbse) ((unhide hbsr) _)
  obtain ⟨Lw3, ew3⟩ : ∃ L', L' = Lw2 ++ [93] := ⟨_, rfl⟩
  have w3o : w3.ownsRow base 5 1 vw3 Lw3.length (J.bv Lw3) := by rw [ew3, List.length_append, ← J.bv_snoc]; exact w3h
  have lw3 : Lw3.length ≤ (Lw2).length + 1 := by rw [ew3, List.length_append]; exact Nat.le_refl _
  have Ew3 := hide ew3
  clear hgw3 w3h ew3 hown1 hone honep hb63 hby hbase hbse hbsr
  obtain ⟨xaw3, xnw3, xcw3, rfl⟩ := owns_shape w3o
  have fin := hide (show w3.ownsRow base 5 1 (.slice xaw3 xnw3 xcw3) (l ++ R).length (J.bv (l ++ R)) by
    have e : Lw3 = l ++ R := by
      rw [unhide Ew3, unhide Ew2, unhide Ew1, unhide HE]
      simp only [List.append_assoc]
    rw [← e]; exact w3o)
  clear w3o
  go_wp2_with fail
  go_ret
  refine ⟨_, rfl, ?_, w3b⟩
  first | exact unhide fin | (have h := unhide fin; rw [List.length_append] at h; exact h)

set_option maxRecDepth 100000 in
set_option maxHeartbeats 4000000 in
theorem appendText_6 (f : Nat) (IH : Hid (AppSays f)) (v : List M.Cl) (a b off cap base : Nat) (tv : Value) (l : List UInt8) (w : World) (hv : M.valueFault v = 0) (ha : a < v.length) (hpl : (part v a).length ≤ f + 1) (hrow : Row w b off v) (hb : b < base) (hcap : v.length ≤ cap) (hbase0 : base ≤ w.heap.size) (hl : l.length + 100000 * (f + 1) ≤ 100000000000) (hown0 : w.ownsRow base 5 1 tv l.length (J.bv l)) (htab : Lib.TabBelow Tryd.prog base w "internal/strconv.uint64pow10" .u64 Lib.pow10Tab) (hk : (v.getD a M.zero).kind = 6) :
    Calls Tryd.prog 22 #[tv, .slice (some ⟨b, off, none⟩) v.length cap, .int .i64 a] w fun e w' => ∃ v', e = .returned v' ∧ w'.ownsRow base 5 1 v' (l ++ J.encL (f + 1) (part v a)).length (J.bv (l ++ J.encL (f + 1) (part v a))) ∧ Bk base w w' := by
  obtain ⟨i0, hi, hz0, hz1, hz2⟩ := info_parts Tryd.info5
  obtain ⟨va, vn, vc, rfl⟩ := owns_shape hown0
  have h200 := (M.fault_zero hv).2.1
  have haI : (a : Int) < (v.length : Int) := by omega
  have hc := J.code_text (code_at hv a ha)
  obtain ⟨f0, f1, f2, f3, f4⟩ := hrow a ha
  rw [hk] at f0
  obtain ⟨R, hR⟩ : ∃ R, R = J.encL (f + 1) (part v a) := ⟨_, rfl⟩
  have HR := hide (hR.trans (J.encL_part f hv ha))
  rw [← hR]
  clear hR
  rw [hk] at HR
  have hbd := J.parts_bd f hv ha hpl true _ (Nat.le_refl _)
  have HP := hide (fun (wq : World) (Lq : List UInt8) (tq : Value) (hq : Bk base w wq) (hlq : Lq.length + 100000 * f + 99990 ≤ 100000000000) (hoq : wq.ownsRow base 5 1 tq Lq.length (J.bv Lq)) => appendParts_6 f IH v a b off cap base tq Lq wq hv ha hpl (hrow.below hq.1 hb) hb hcap (Nat.le_trans hbase0 hq.size) hlq hoq (htab.on hq.1) hk)
  clear hk
  generalize v.getD a M.zero = c at *
  obtain ⟨w0, hw0⟩ : ∃ w0, w0 = w.alloc (.cells #[.int .i64 6, .int .i64 c.num, .string c.text, .string c.key, .int .i64 c.n] 55) := ⟨_, rfl⟩
  have B0 : Bk base w w0 := by rw [hw0]; exact (Bk.refl _ _).alloc hbase0 _
  have hX0 : Own w0 w.heap.size 55 [.int .i64 6, .int .i64 c.num, .string c.text, .string c.key, .int .i64 c.n] := by rw [hw0]; exact ⟨_, heap_alloc_new _ _, rfl⟩
  have hown := hown0.alloc (.cells #[.int .i64 6, .int .i64 c.num, .string c.text, .string c.key, .int .i64 c.n] 55)
  rw [← hw0] at hown
  have HE := hide (show R = [123] ++ J.partsK (J.encL f) true (keysAt v a) (subs v a) (M.arity v a) ++ [125] by rw [unhide HR]; rfl)
  have hbw : base ≤ w0.heap.size := by have := B0.size; omega
  have hsz0 : w0.heap.size = w.heap.size + 1 := by rw [hw0]; simp
  have hown1 := hide (fun o => hown.alloc o)
  have hone := hide (J.one_word w0 123)
  rw [hsz0] at hone
  have honep := hide (J.one_plain 123)
  have hb63 : l.length + 1 ≤ maxLen := by unfold maxLen; omega
  have hby : (l.length + 1) * 1 ≤ 140737488355328 := by omega
  have hbse := hide (J.owns_base hown)
  have hbsr := hide (fun o => J.owns_row (hown.alloc o))
  have HB0 := hide B0
  have HW0 := hide hw0
  have hbase : base ≤ w.heap.size + 1 + 1 := by omega
  rw [hw0] at hown1 hone hbsr
  clear hown0 HR hpl htab hv hc hrow hX0 hown B0 hw0 hbw hsz0
  go_enter Tryd.func22, Tryd.ntmps22
  go_wp2_with (at_builtin; refine wpList_append_own _ rfl (.tmp 48) (.tmp 49) 42 rfl base 5 i0 (.int .u8 0) 1 1 Tryd.underlying42 hi hz0 hz1 hz2 rfl (by decide) _ l.length _ rfl ((unhide hown1) _) ⟨w.heap.size + 1, 0, none⟩ 1 1 [.int .u8 123] rfl rfl (unhide hone) (unhide honep) hb63 hby (by simpa using hbase) ?_)
  intro vw1 w1 w1h hgw1 _
  have w1b : Bk base w w1 := by
    have hB := unhide HB0
    rw [unhide HW0] at hB
    exact (hB.alloc (by simp; omega) _).grown hgw1 (by simpa using hbase) (unhide hbse) ((unhide hbsr) _)
  obtain ⟨Lw1, ew1⟩ : ∃ L', L' = l ++ [123] := ⟨_, rfl⟩
  have w1o : w1.ownsRow base 5 1 vw1 Lw1.length (J.bv Lw1) := by rw [ew1, List.length_append, ← J.bv_snoc]; exact w1h
  have lw1 : Lw1.length ≤ l.length + 1 := by rw [ew1, List.length_append]; exact Nat.le_refl _
  have hlq := room_in hl lw1
  have Ew1 := hide ew1
  have HLQ := hide hlq
  clear hgw1 w1h ew1 hown1 hone honep hb63 hby hbase hbse hbsr HB0 HW0 hlq
  obtain ⟨xa1, xn1, xc1, rfl⟩ := owns_shape w1o
  go_wp2_with fail
  refine ((unhide HP) _ _ _ w1b (unhide HLQ) w1o).mono ?_
  rintro e w2 ⟨v2, rfl, w2o0, w2k⟩
  have w2b : Bk base w w2 := w1b.trans w2k
  obtain ⟨Lw2, ew2⟩ : ∃ L', L' = Lw1 ++ J.partsK (J.encL f) true (keysAt v a) (subs v a) (M.arity v a) := ⟨_, rfl⟩
  have w2o : w2.ownsRow base 5 1 v2 Lw2.length (J.bv Lw2) := by rw [ew2]; exact w2o0
  have lw2 : Lw2.length ≤ Lw1.length + 80000 := by rw [ew2, List.length_append]; omega
  have Ew2 := hide ew2
  clear ew2 w2o0 w2k w1o w1b
  obtain ⟨xa2, xn2, xc2, rfl⟩ := owns_shape w2o
  have hown1 := hide (fun o => (w2o).alloc o)
  have hone := hide (J.one_word w2 125)
  have honep := hide (J.one_plain 125)
  have hb63 : (Lw2).length + 1 ≤ maxLen := by unfold maxLen; omega
  have hby : ((Lw2).length + 1) * 1 ≤ 140737488355328 := by omega
  have hbase : base ≤ w2.heap.size + 1 := by have := (w2b).size; omega
  have hbse := hide (J.owns_base w2o)
  have hbsr := hide (fun o => J.owns_row ((w2o).alloc o))
  clear w2o
  go_wp2_with (at_builtin; refine wpList_append_own _ rfl (.tmp 53) (.tmp 54) 42 rfl base 5 i0 (.int .u8 0) 1 1 Tryd.underlying42 hi hz0 hz1 hz2 rfl (by decide) _ (Lw2).length _ rfl ((unhide hown1) _) ⟨w2.heap.size, 0, none⟩ 1 1 [.int .u8 125] rfl rfl (unhide hone) (unhide honep) hb63 hby (by simpa using hbase) ?_)
  intro vw3 w3 w3h hgw3 _
  have w3b : Bk base w w3 := ((w2b).alloc (by have := (w2b).size; omega) _).grown hgw3 (by simpa using hbase) (unhide hbse) ((unhide hbsr) _)
  obtain ⟨Lw3, ew3⟩ : ∃ L', L' = Lw2 ++ [125] := ⟨_, rfl⟩
  have w3o : w3.ownsRow base 5 1 vw3 Lw3.length (J.bv Lw3) := by rw [ew3, List.length_append, ← J.bv_snoc]; exact w3h
  have lw3 : Lw3.length ≤ (Lw2).length + 1 := by rw [ew3, List.length_append]; exact Nat.le_refl _
  have Ew3 := hide ew3
  clear hgw3 w3h ew3 hown1 hone honep hb63 hby hbase hbse hbsr
  obtain ⟨xaw3, xnw3, xcw3, rfl⟩ := owns_shape w3o
  have fin := hide (show w3.ownsRow base 5 1 (.slice xaw3 xnw3 xcw3) (l ++ R).length (J.bv (l ++ R)) by
    have e : Lw3 = l ++ R := by
      rw [unhide Ew3, unhide Ew2, unhide Ew1, unhide HE]
      simp only [List.append_assoc]
    rw [← e]; exact w3o)
  clear w3o
  go_wp2_with fail
  go_ret
  refine ⟨_, rfl, ?_, w3b⟩
  first | exact unhide fin | (have h := unhide fin; rw [List.length_append] at h; exact h)

theorem appendText_any (f : Nat) : AppSays f := by
  induction f with
  | zero =>
    intro v a b off cap base tv l w hv ha hpl
    have := part_len hv ha
    have := (end_gt hv ha).1
    omega
  | succ f ih =>
    intro v a b off cap base tv l w hv ha hpl hrow hb hcap hbase hl hown htab
    have hc := J.code_text (code_at hv a ha)
    by_cases k0 : (v.getD a M.zero).kind = 0
    · exact appendText_0 f v a b off cap base tv l w hv ha hpl hrow hb hcap hbase hl hown htab k0
    by_cases k1 : (v.getD a M.zero).kind = 1
    · exact appendText_1 f v a b off cap base tv l w hv ha hpl hrow hb hcap hbase hl hown htab k1
    by_cases k2 : (v.getD a M.zero).kind = 2
    · exact appendText_2 f v a b off cap base tv l w hv ha hpl hrow hb hcap hbase hl hown htab k2
    by_cases k3 : (v.getD a M.zero).kind = 3
    · exact appendText_3 f v a b off cap base tv l w hv ha hpl hrow hb hcap hbase hl hown htab k3
    by_cases k4 : (v.getD a M.zero).kind = 4
    · exact appendText_4 f v a b off cap base tv l w hv ha hpl hrow hb hcap hbase hl hown htab k4
    by_cases k5 : (v.getD a M.zero).kind = 5
    · exact appendText_5 f (hide ih) v a b off cap base tv l w hv ha hpl hrow hb hcap hbase hl hown htab k5
    by_cases k6 : (v.getD a M.zero).kind = 6
    · exact appendText_6 f (hide ih) v a b off cap base tv l w hv ha hpl hrow hb hcap hbase hl hown htab k6
    omega

end Go.Proofs.YtakdlcgiieaieaaDoor

namespace Go.Proofs.YtakdlcgiieaieaaDoor
open Go.RowKit
set_option linter.unusedVariables false

def encS (s : ByteArray) : Int × ByteArray := if M.textOk s = true then (0, J.bytes (J.quote s)) else (5, ByteArray.empty)
theorem encS_bad {s : ByteArray} (h : M.textOk s = false) : encS s = (5, ByteArray.empty) := by unfold encS; rw [if_neg (by simp [h])]
theorem encS_ok {s : ByteArray} (h : M.textOk s = true) : encS s = (0, J.bytes (J.quote s)) := by unfold encS; rw [if_pos h]
theorem textOk_size {s : ByteArray} (h : M.textOk s = true) : s.size ≤ 60 := by
  unfold M.textOk at h
  simp only [Bool.and_eq_true, decide_eq_true_eq] at h
  exact h.1

set_option maxHeartbeats 1000000 in
theorem eqTextResult_same (x : Int) (y : ByteArray) (w : World) :
    Calls Tryd.prog 8 #[.agg #[.int .i64 x, .string y], .agg #[.int .i64 x, .string y]] w fun e w' => e = .returned (.bool true) ∧ Below w.heap.size w w' := by
  go_enter Tryd.func8, Tryd.ntmps8
  go_wp2
  go_ret
  exact ⟨rfl, by repeat (first | exact Below.refl _ _ | refine Below.setCell ?_ (Nat.le_refl _) _ | refine Below.alloc ?_ (by simp <;> omega) _)⟩

end Go.Proofs.YtakdlcgiieaieaaDoor

namespace Go.Proofs.YtakdlcgiieaieaaDoor
open Go.RowKit
set_option linter.unusedVariables false
set_option linter.unusedSimpArgs false

theorem l2Encode_all (f : Nat) : EncSays f := by
  induction f with
  | zero =>
    intro A b off cap w hA hAf
    have := (M.fault_zero hA).1
    omega
  | succ f ih =>
    intro A b off cap w hA hAf hr hb hcap hok
    have hl := (M.fault_zero hA).1
    have h200 := (M.fault_zero hA).2.1
    have hc := J.code_text (code_at hA 0 (by omega))
    by_cases k0 : (A.getD 0 M.zero).kind = 0
    · exact l2Encode_0 f A b off cap w hl h200 hr hcap k0
    by_cases k1 : (A.getD 0 M.zero).kind = 1
    · exact l2Encode_1 f A b off cap w hl h200 hr hcap k1
    by_cases k2 : (A.getD 0 M.zero).kind = 2
    · exact l2Encode_2 f A b off cap w hl h200 hr hcap k2
    by_cases k3 : (A.getD 0 M.zero).kind = 3
    · exact l2Encode_3 f A b off cap w hA hl h200 hr hcap k3
    by_cases k4 : (A.getD 0 M.zero).kind = 4
    · exact l2Encode_4 f A b off cap w hA hl h200 hr hcap k4
    by_cases k5 : (A.getD 0 M.zero).kind = 5
    · exact l2Encode_5 f (hide ih) A b off cap w hA hAf hr hb hcap hok k5
    by_cases k6 : (A.getD 0 M.zero).kind = 6
    · exact l2Encode_6 f (hide ih) A b off cap w hA hAf hr hb hcap hok k6
    omega
theorem itoa_ne (n : Int) : Lib.itoa n ≠ [] := by
  unfold Lib.itoa
  split
  · simp
  · intro h
    have h2 := Lib.decDigits_length n.toNat
    rw [h] at h2
    unfold Lib.nDigits at h2
    split at h2 <;> simp at h2
theorem encL_ne (f : Nat) (v : List M.Cl) : J.encL (f + 1) v ≠ [] := by
  rw [J.encL]
  repeat' split
  all_goals (first | exact itoa_ne _ | (unfold J.quote; simp; done) | (intro h; simp at h; done) | simp)
def encV (v : List M.Cl) : Int × ByteArray := if M.valueFault v = 0 then (0, J.bytes (J.encL 200 v)) else (M.valueFault v, ByteArray.empty)
theorem encV_ok {v : List M.Cl} (h : M.valueFault v = 0) : encV v = (0, J.bytes (J.encL 200 v)) := by unfold encV; rw [if_pos h]
theorem encV_no {v : List M.Cl} (h : M.valueFault v ≠ 0) : encV v = (M.valueFault v, ByteArray.empty) := by unfold encV; rw [if_neg h]

end Go.Proofs.YtakdlcgiieaieaaDoor
