/-
  impl.appendText, impl.appendParts: the text of the value at a place is laid behind a row of bytes of the call's own.
-/
import Derived.Test.YtikeffckhklhbaaGreatDoorX19
import Derived.Test.YtikeffckhklhbaaGreatDoorX20
import Derived.Test.YtikeffckhklhbaaGreatDoorX21
import Derived.Deep.RegionWith
import Derived.Lib.AppendIntMem
import Derived.Lib.AppendStr
import Derived.Test.YtikeffckhklhbaaGreatDoorShelfA
namespace Go.Proofs.YtikeffckhklhbaaGreatDoor
open Go.RowKit
set_option linter.unusedVariables false
set_option linter.unusedSimpArgs false

theorem Bk.resI {base : Nat} {w w' : World} (h : Bk base w w') {B : Nat} {s : Value} {l : List Int} (hr : ResI w B s l) : ResI w' B s l := by
  obtain ⟨hn, g | ⟨b, cap, h1, h2, h3, ⟨xs, h4, h5⟩⟩⟩ := hr
  · exact ⟨hn, .inl g⟩
  · exact ⟨hn, .inr ⟨b, cap, h1, h2, h3, ⟨xs, h.own h4 (by decide), h5⟩⟩⟩
theorem ResI.form2 {w : World} {B : Nat} {s : Value} {l : List Int} (h : ResI w B s l) : ∃ a c, s = .slice a l.length c := by
  obtain ⟨_, ⟨rfl, rfl⟩ | ⟨b, cap, rfl, _⟩⟩ := h
  · exact ⟨_, _, rfl⟩
  · exact ⟨_, _, rfl⟩
theorem ResI.some2 {w : World} {B : Nat} {s : Value} {l : List Int} (h : ResI w B s l) (hl : 0 < l.length) : ∃ g c, s = .slice (some ⟨g, 0, none⟩) l.length c ∧ l.length ≤ c ∧ OwnI w g l := by
  obtain ⟨_, ⟨_, rfl⟩ | ⟨b, cap, h1, _, h3, h4⟩⟩ := h
  · simp at hl
  · exact ⟨b, cap, h1, h3, h4⟩
theorem owns_shape {w : World} {base : Nat} {e : TypeId} {size : Nat} {v : Value} {n : Nat} {xs : List Value} (h : w.ownsRow base e size v n xs) : ∃ a k c, v = .slice a k c := by
  obtain ⟨_, ⟨rfl, _⟩ | ⟨g, cap, cur, rfl, _⟩⟩ := h
  · exact ⟨_, _, _, rfl⟩
  · exact ⟨_, _, _, rfl⟩
theorem bv_app (l m : List UInt8) : J.bv l ++ J.bv m = J.bv (l ++ m) := by simp [J.bv]
/-- What is promised of impl.appendText at places whose values have at most f cells. -/
def AppSays (f : Nat) : Prop := ∀ (v : List M.Cl) (a b off cap base : Nat) (tv : Value) (l : List UInt8) (w : World), M.valueFault v = 0 → a < v.length → (part v a).length ≤ f → Row w b off v → b < base → v.length ≤ cap → base ≤ w.heap.size → l.length + 100000 * f ≤ 100000000000 → w.ownsRow base 5 1 tv l.length (J.bv l) → Lib.TabBelow Tryz.prog base w "internal/strconv.uint64pow10" .u64 Lib.pow10Tab →
  Calls Tryz.prog 16 #[tv, .slice (some ⟨b, off, none⟩) v.length cap, .int .i64 a] w fun e w' => ∃ v', e = .returned v' ∧ w'.ownsRow base 5 1 v' (l ++ J.encL f (part v a)).length (J.bv (l ++ J.encL f (part v a))) ∧ Bk base w w'

set_option maxRecDepth 100000 in
set_option maxHeartbeats 4000000 in
theorem appendParts_5 (f : Nat) (IH : Hid (AppSays f)) (v : List M.Cl) (a b off cap base : Nat) (tv : Value) (l : List UInt8) (w : World) (hv : M.valueFault v = 0) (ha : a < v.length) (hpl : (part v a).length ≤ f + 1) (hrow : Row w b off v) (hb : b < base) (hcap : v.length ≤ cap) (hbase0 : base ≤ w.heap.size) (hl : l.length + 100000 * f + 99990 ≤ 100000000000) (hown0 : w.ownsRow base 5 1 tv l.length (J.bv l)) (htab : Lib.TabBelow Tryz.prog base w "internal/strconv.uint64pow10" .u64 Lib.pow10Tab) (hk : (v.getD a M.zero).kind = 5) :
    Calls Tryz.prog 33 #[tv, .slice (some ⟨b, off, none⟩) v.length cap, .int .i64 a] w fun e w' => ∃ v', e = .returned v' ∧ w'.ownsRow base 5 1 v' (l ++ J.partsK (J.encL f) false (keysAt v a) (subs v a) (M.arity v a)).length (J.bv (l ++ J.partsK (J.encL f) false (keysAt v a) (subs v a) (M.arity v a))) ∧ Bk base w w' := by
  obtain ⟨i0, hi, hz0, hz1, hz2⟩ := info_parts Tryz.info5
  obtain ⟨va, vn, vc, rfl⟩ := owns_shape hown0
  have h200 := (M.fault_zero hv).2.1
  obtain ⟨f0, -, -, -, -⟩ := hrow a ha
  rw [hk] at f0
  have HPI := hide (M.places_in hv a ha)
  have HCP := hide (fun w' (hbb : Bk base w w') => childPlaces_any v b off cap a w' hv ha (hrow.below hbb.1 hb) (Nat.lt_of_lt_of_le hb (Nat.le_trans hbase0 hbb.size)) hcap)
  have HBD := hide (fun i hi => J.parts_bd f hv ha hpl false i hi)
  have HPL := hide (fun p (hp : p < v.length) (hp2 : a < p) (hp3 : M.endOf v p ≤ M.endOf v a) => show (part v p).length ≤ f by
    have := part_len hv hp
    have := part_len hv ha
    omega)
  have HT := hide htab
  have HR := hide hrow
  have HV := hide hv
  have HEG := hide (end_gt hv ha)
  have hOWN := hide hown0
  have hn200 := (unhide HPI).2.2.2
  clear hk hv htab hown0
  go_enter Tryz.func33, Tryz.ntmps33
  go_wp2_with fail
  refine ((unhide HCP) _ (Bk.refl _ _)).mono ?_
  rintro e wp ⟨sp, rfl, hsp, hbp⟩
  have hfl := firstPl_length v a (M.arity v a)
  obtain ⟨ap, cp, rfl⟩ := hsp.form2
  rw [hfl] at *
  have hkp : Bk base w wp := (Bk.refl _ _).below hbp hbase0
  have hown2 := ownsRow_below (B := 0) (unhide hOWN) hbp
  have HSP := hide hsp
  clear hsp hbp hfl hOWN HCP
  go_wp2_with fail
  go_loopg [0, 13] (M.arity v a) (fun gn s0 s13 wr => ∃ i : Nat, Hid (gn = M.arity v a - i) ∧ s13 = .int .i64 i ∧ i ≤ M.arity v a ∧ wr.ownsRow base 5 1 s0 (l ++ J.partsK (J.encL f) false (keysAt v a) (subs v a) i).length (J.bv (l ++ J.partsK (J.encL f) false (keysAt v a) (subs v a) i)) ∧ Bk base w wr ∧ Bk base wp wr)
  case atStart => exact ⟨0, rfl, rfl, by omega, by simpa [J.partsK] using hown2, hkp, Bk.refl _ _⟩
  case round =>
    obtain ⟨i, hg, rfl, him, hown, hbel, hbelp⟩ := hrel
    have hbd := (unhide HBD) i him
    have hll : (l ++ J.partsK (J.encL f) false (keysAt v a) (subs v a) i).length ≤ l.length + 80000 := by rw [List.length_append]; omega
    obtain ⟨L, hL⟩ : ∃ L, L = l ++ J.partsK (J.encL f) false (keysAt v a) (subs v a) i := ⟨_, rfl⟩
    rw [← hL] at hown hll
    have HL := hide hL
    clear hL hbd
    obtain ⟨xa, xn, xc, rfl⟩ := owns_shape hown
    by_cases hlt : i < M.arity v a
    · have hltI : (i : Int) < (M.arity v a : Int) := by omega
      have hp1 := (unhide HPI).1 i hlt
      have hp2 := (unhide HPI).2.2.1
      have hpv : M.iter v i (a + 1) < v.length := by omega
      have hpe : M.endOf v (M.iter v i (a + 1)) ≤ M.endOf v a := by
        rw [← M.iter_next v i (a + 1)]
        by_cases e : i + 1 = M.arity v a
        · rw [e, (unhide HPI).2.1]; exact Nat.le_refl _
        · exact Nat.le_of_lt ((unhide HPI).1 (i + 1) (by omega)).2
      have hpl2 := (unhide HPL) _ hpv hp1.1 hpe
      have hR := hbelp.resI (unhide HSP)
      obtain ⟨g, c, hgv, hgc, hoI⟩ := hR.some2 (by rw [firstPl_length]; omega)
      rw [firstPl_length] at hgv hgc
      obtain ⟨rfl, rfl⟩ : ap = some ⟨g, 0, none⟩ ∧ cp = c := by injection hgv with e1 e2 e3; exact ⟨e1, e3⟩
      have fp := hoI.cell (i := i) (by rw [firstPl_length]; exact hlt)
      rw [firstPl_getD v a _ i hlt] at fp
      have hps := hide (show J.partsK (J.encL f) false (keysAt v a) (subs v a) (i + 1) = J.partsK (J.encL f) false (keysAt v a) (subs v a) i ++ (J.ahead false (keysAt v a) i ++ J.encL f (part v (M.iter v i (a + 1)))) by
        rw [← J.subs_getD v a i hlt]; rfl)
      have HC := hide (fun (wq : World) (Lq : List UInt8) (tq : Value) (hq : Bk base w wq) (hlq : Lq.length + 100000 * f ≤ 100000000000) (hoq : wq.ownsRow base 5 1 tq Lq.length (J.bv Lq)) => (unhide IH) v (M.iter v i (a + 1)) b off cap base tq Lq wq (unhide HV) hpv hpl2 ((unhide HR).below hq.1 hb) hb hcap (Nat.le_trans hbase0 hq.size) hlq hoq ((unhide HT).on hq.1))
      clear hgv hR hoI hpe hpl2 hp1 hp2
      generalize M.iter v i (a + 1) = p at *
      have hpI : (p : Int) < (v.length : Int) := by omega
      by_cases h0 : i = 0
      · have hz : ¬ (0 : Int) < (i : Int) := by omega
        have hah : J.ahead false (keysAt v a) i = [] ++ [] := by unfold J.ahead; rw [if_pos h0]; rw [if_neg (by decide)]
        have HAH := hide hah
        clear hah h0
        have hb0 : Bk base wr wr := Bk.refl _ _
        have hbw : base ≤ wr.heap.size := by have := hbel.size; omega
        have c0 : wr.cell? ⟨b, off + a * 5, none⟩ = some (.int .i64 5) := ((hbel.trans hb0).1.cell (p := ⟨b, off + a * 5, none⟩) hb).trans f0
        go_wp2_with fail
        refine ((unhide HC) _ _ _ (hbel.trans hb0) (by omega) hown).mono ?_
        rintro e w4 ⟨v4, rfl, w4o0, w4k⟩
        have w4b : Bk base wr w4 := hb0.trans w4k
        have w4o : w4.ownsRow base 5 1 v4 (l ++ J.partsK (J.encL f) false (keysAt v a) (subs v a) (i + 1)).length (J.bv (l ++ J.partsK (J.encL f) false (keysAt v a) (subs v a) (i + 1))) := by
          have e : L ++ J.encL f (part v p) = l ++ J.partsK (J.encL f) false (keysAt v a) (subs v a) (i + 1) := by
            rw [unhide HL, unhide hps, unhide HAH]
            simp only [List.append_assoc, List.nil_append, List.append_nil, List.cons_append]
          rw [← e]
          exact w4o0
        clear w4o0 w4k
        obtain ⟨xa4, xn4, xc4, rfl⟩ := owns_shape w4o
        have W4O := hide w4o
        clear w4o
        go_wp2_with fail
        go_roundg (M.arity v a - (i + 1))
        case rel => exact ⟨i + 1, rfl, by go_num, by omega, unhide W4O, hbel.trans w4b, hbelp.trans w4b⟩
        case measure => have := hg.out; omega
      · have hz : (0 : Int) < (i : Int) := by omega
        have hah : J.ahead false (keysAt v a) i = [44] ++ [] := by unfold J.ahead; rw [if_neg h0]; rw [if_neg (by decide)]
        have HAH := hide hah
        clear hah h0
        have hb0 : Bk base wr wr := Bk.refl _ _
        have hbw : base ≤ wr.heap.size := by have := hbel.size; omega
        have hown1 := hide (fun o => (hown).alloc o)
        have hone := hide (J.one_word wr 44)
        have honep := hide (J.one_plain 44)
        have hb63 : (L).length + 1 ≤ maxLen := by unfold maxLen; omega
        have hby : ((L).length + 1) * 1 ≤ 140737488355328 := by omega
        have hbase : base ≤ wr.heap.size + 1 := by have := (hb0).size; omega
        have hbse := hide (J.owns_base hown)
        have hbsr := hide (fun o => J.owns_row ((hown).alloc o))
        clear hown
        go_wp2_with (at_builtin; refine wpList_append_own _ rfl (.tmp 20) (.tmp 21) 22 rfl base 5 i0 (.int .u8 0) 1 1 Tryz.underlying22 hi hz0 hz1 hz2 rfl (by decide) _ (L).length _ rfl ((unhide hown1) _) ⟨wr.heap.size, 0, none⟩ 1 1 [.int .u8 44] rfl rfl (unhide hone) (unhide honep) hb63 hby (by simpa using hbase) ?_)
        intro vw1 w1 w1h hgw1 _
        have w1b : Bk base wr w1 := ((hb0).alloc (by have := (hb0).size; omega) _).grown hgw1 (by simpa using hbase) (unhide hbse) ((unhide hbsr) _)
        obtain ⟨Lw1, ew1⟩ : ∃ L', L' = L ++ [44] := ⟨_, rfl⟩
        have w1o : w1.ownsRow base 5 1 vw1 Lw1.length (J.bv Lw1) := by rw [ew1, List.length_append, ← J.bv_snoc]; exact w1h
        have lw1 : Lw1.length ≤ (L).length + 1 := by rw [ew1, List.length_append]; exact Nat.le_refl _
        have Ew1 := hide ew1
        clear hgw1 w1h ew1 hown1 hone honep hb63 hby hbase hbse hbsr
        obtain ⟨xaw1, xnw1, xcw1, rfl⟩ := owns_shape w1o
        have c0 : w1.cell? ⟨b, off + a * 5, none⟩ = some (.int .i64 5) := ((hbel.trans w1b).1.cell (p := ⟨b, off + a * 5, none⟩) hb).trans f0
        go_wp2_with fail
        refine ((unhide HC) _ _ _ (hbel.trans w1b) (by omega) w1o).mono ?_
        rintro e w4 ⟨v4, rfl, w4o0, w4k⟩
        have w4b : Bk base wr w4 := w1b.trans w4k
        have w4o : w4.ownsRow base 5 1 v4 (l ++ J.partsK (J.encL f) false (keysAt v a) (subs v a) (i + 1)).length (J.bv (l ++ J.partsK (J.encL f) false (keysAt v a) (subs v a) (i + 1))) := by
          have e : Lw1 ++ J.encL f (part v p) = l ++ J.partsK (J.encL f) false (keysAt v a) (subs v a) (i + 1) := by
            rw [unhide Ew1, unhide HL, unhide hps, unhide HAH]
            simp only [List.append_assoc, List.nil_append, List.append_nil, List.cons_append]
          rw [← e]
          exact w4o0
        clear w4o0 w4k
        obtain ⟨xa4, xn4, xc4, rfl⟩ := owns_shape w4o
        have W4O := hide w4o
        clear w4o
        go_wp2_with fail
        go_roundg (M.arity v a - (i + 1))
        case rel => exact ⟨i + 1, rfl, by go_num, by omega, unhide W4O, hbel.trans w4b, hbelp.trans w4b⟩
        case measure => have := hg.out; omega
    · have hge : ¬ (i : Int) < (M.arity v a : Int) := by omega
      have hie : i = M.arity v a := by omega
      have fin := hide (show wr.ownsRow base 5 1 (.slice xa xn xc) (l ++ J.partsK (J.encL f) false (keysAt v a) (subs v a) (M.arity v a)).length (J.bv (l ++ J.partsK (J.encL f) false (keysAt v a) (subs v a) (M.arity v a))) by rw [← hie, ← unhide HL]; exact hown)
      clear hown hie
      go_wp2_with fail
      go_ret
      refine ⟨_, rfl, ?_, hbel⟩
      first | exact unhide fin | (have h := unhide fin; rw [List.length_append] at h; exact h)

set_option maxRecDepth 100000 in
set_option maxHeartbeats 4000000 in
theorem appendParts_6 (f : Nat) (IH : Hid (AppSays f)) (v : List M.Cl) (a b off cap base : Nat) (tv : Value) (l : List UInt8) (w : World) (hv : M.valueFault v = 0) (ha : a < v.length) (hpl : (part v a).length ≤ f + 1) (hrow : Row w b off v) (hb : b < base) (hcap : v.length ≤ cap) (hbase0 : base ≤ w.heap.size) (hl : l.length + 100000 * f + 99990 ≤ 100000000000) (hown0 : w.ownsRow base 5 1 tv l.length (J.bv l)) (htab : Lib.TabBelow Tryz.prog base w "internal/strconv.uint64pow10" .u64 Lib.pow10Tab) (hk : (v.getD a M.zero).kind = 6) :
    Calls Tryz.prog 33 #[tv, .slice (some ⟨b, off, none⟩) v.length cap, .int .i64 a] w fun e w' => ∃ v', e = .returned v' ∧ w'.ownsRow base 5 1 v' (l ++ J.partsK (J.encL f) true (keysAt v a) (subs v a) (M.arity v a)).length (J.bv (l ++ J.partsK (J.encL f) true (keysAt v a) (subs v a) (M.arity v a))) ∧ Bk base w w' := by
  obtain ⟨i0, hi, hz0, hz1, hz2⟩ := info_parts Tryz.info5
  obtain ⟨va, vn, vc, rfl⟩ := owns_shape hown0
  have h200 := (M.fault_zero hv).2.1
  obtain ⟨f0, -, -, -, -⟩ := hrow a ha
  rw [hk] at f0
  have HPI := hide (M.places_in hv a ha)
  have HCP := hide (fun w' (hbb : Bk base w w') => childPlaces_any v b off cap a w' hv ha (hrow.below hbb.1 hb) (Nat.lt_of_lt_of_le hb (Nat.le_trans hbase0 hbb.size)) hcap)
  have HBD := hide (fun i hi => J.parts_bd f hv ha hpl true i hi)
  have HPL := hide (fun p (hp : p < v.length) (hp2 : a < p) (hp3 : M.endOf v p ≤ M.endOf v a) => show (part v p).length ≤ f by
    have := part_len hv hp
    have := part_len hv ha
    omega)
  have HT := hide htab
  have HR := hide hrow
  have HV := hide hv
  have HEG := hide (end_gt hv ha)
  have hOWN := hide hown0
  have hn200 := (unhide HPI).2.2.2
  clear hk hv htab hown0
  go_enter Tryz.func33, Tryz.ntmps33
  go_wp2_with fail
  refine ((unhide HCP) _ (Bk.refl _ _)).mono ?_
  rintro e wp ⟨sp, rfl, hsp, hbp⟩
  have hfl := firstPl_length v a (M.arity v a)
  obtain ⟨ap, cp, rfl⟩ := hsp.form2
  rw [hfl] at *
  have hkp : Bk base w wp := (Bk.refl _ _).below hbp hbase0
  have hown2 := ownsRow_below (B := 0) (unhide hOWN) hbp
  have HSP := hide hsp
  clear hsp hbp hfl hOWN HCP
  go_wp2_with fail
  go_loopg [0, 13] (M.arity v a) (fun gn s0 s13 wr => ∃ i : Nat, Hid (gn = M.arity v a - i) ∧ s13 = .int .i64 i ∧ i ≤ M.arity v a ∧ wr.ownsRow base 5 1 s0 (l ++ J.partsK (J.encL f) true (keysAt v a) (subs v a) i).length (J.bv (l ++ J.partsK (J.encL f) true (keysAt v a) (subs v a) i)) ∧ Bk base w wr ∧ Bk base wp wr)
  case atStart => exact ⟨0, rfl, rfl, by omega, by simpa [J.partsK] using hown2, hkp, Bk.refl _ _⟩
  case round =>
    obtain ⟨i, hg, rfl, him, hown, hbel, hbelp⟩ := hrel
    have hbd := (unhide HBD) i him
    have hll : (l ++ J.partsK (J.encL f) true (keysAt v a) (subs v a) i).length ≤ l.length + 80000 := by rw [List.length_append]; omega
    obtain ⟨L, hL⟩ : ∃ L, L = l ++ J.partsK (J.encL f) true (keysAt v a) (subs v a) i := ⟨_, rfl⟩
    rw [← hL] at hown hll
    have HL := hide hL
    clear hL hbd
    obtain ⟨xa, xn, xc, rfl⟩ := owns_shape hown
    by_cases hlt : i < M.arity v a
    · have hltI : (i : Int) < (M.arity v a : Int) := by omega
      have hp1 := (unhide HPI).1 i hlt
      have hp2 := (unhide HPI).2.2.1
      have hpv : M.iter v i (a + 1) < v.length := by omega
      have hpe : M.endOf v (M.iter v i (a + 1)) ≤ M.endOf v a := by
        rw [← M.iter_next v i (a + 1)]
        by_cases e : i + 1 = M.arity v a
        · rw [e, (unhide HPI).2.1]; exact Nat.le_refl _
        · exact Nat.le_of_lt ((unhide HPI).1 (i + 1) (by omega)).2
      have hpl2 := (unhide HPL) _ hpv hp1.1 hpe
      have hR := hbelp.resI (unhide HSP)
      obtain ⟨g, c, hgv, hgc, hoI⟩ := hR.some2 (by rw [firstPl_length]; omega)
      rw [firstPl_length] at hgv hgc
      obtain ⟨rfl, rfl⟩ : ap = some ⟨g, 0, none⟩ ∧ cp = c := by injection hgv with e1 e2 e3; exact ⟨e1, e3⟩
      have fp := hoI.cell (i := i) (by rw [firstPl_length]; exact hlt)
      rw [firstPl_getD v a _ i hlt] at fp
      have hps := hide (show J.partsK (J.encL f) true (keysAt v a) (subs v a) (i + 1) = J.partsK (J.encL f) true (keysAt v a) (subs v a) i ++ (J.ahead true (keysAt v a) i ++ J.encL f (part v (M.iter v i (a + 1)))) by
        rw [← J.subs_getD v a i hlt]; rfl)
      have HC := hide (fun (wq : World) (Lq : List UInt8) (tq : Value) (hq : Bk base w wq) (hlq : Lq.length + 100000 * f ≤ 100000000000) (hoq : wq.ownsRow base 5 1 tq Lq.length (J.bv Lq)) => (unhide IH) v (M.iter v i (a + 1)) b off cap base tq Lq wq (unhide HV) hpv hpl2 ((unhide HR).below hq.1 hb) hb hcap (Nat.le_trans hbase0 hq.size) hlq hoq ((unhide HT).on hq.1))
      have fk := ((unhide HR) _ hpv).2.2.2.1
      have hkey := (J.code_text (code_at (unhide HV) _ hpv)).2.1
      have HKY := hide (J.keysAt_getD v a i hlt)
      generalize (v.getD (M.iter v i (a + 1)) M.zero).key = KY at *
      clear hgv hR hoI hpe hpl2 hp1 hp2
      generalize M.iter v i (a + 1) = p at *
      have hpI : (p : Int) < (v.length : Int) := by omega
      by_cases h0 : i = 0
      · have hz : ¬ (0 : Int) < (i : Int) := by omega
        have hah : J.ahead true (keysAt v a) i = [] ++ (J.quote ((keysAt v a).getD i ByteArray.empty) ++ [58]) := by unfold J.ahead; rw [if_pos h0]; rw [if_pos rfl]
        have HAH := hide hah
        clear hah h0
        have hb0 : Bk base wr wr := Bk.refl _ _
        have hbw : base ≤ wr.heap.size := by have := hbel.size; omega
        have c0 : wr.cell? ⟨b, off + a * 5, none⟩ = some (.int .i64 6) := ((hbel.trans hb0).1.cell (p := ⟨b, off + a * 5, none⟩) hb).trans f0
        have ck1 : wr.cell? ⟨b, off + p * 5 + 3, none⟩ = some (.string KY) := ((hbel.trans hb0).1.cell (p := ⟨b, off + p * 5 + 3, none⟩) hb).trans fk
        go_wp2_with fail
        refine (appendQuoted_any base _ _ _ _ hown hkey (by omega) (by have := hb0.size; omega)).mono ?_
        rintro e w2 ⟨v2, rfl, w2o0, w2k⟩
        have w2b : Bk base wr w2 := hb0.trans w2k
        obtain ⟨Lw2, ew2⟩ : ∃ L', L' = L ++ J.quote KY := ⟨_, rfl⟩
        have w2o : w2.ownsRow base 5 1 v2 Lw2.length (J.bv Lw2) := by rw [ew2]; exact w2o0
        have lw2 : Lw2.length ≤ (L).length + 122 := by rw [ew2, List.length_append]; have := J.quote_length KY; omega
        have Ew2 := hide ew2
        clear ew2 w2o0 w2k c0 ck1
        obtain ⟨xa2, xn2, xc2, rfl⟩ := owns_shape w2o
        have hown1 := hide (fun o => (w2o).alloc o)
        have hone := hide (J.one_word w2 58)
        have honep := hide (J.one_plain 58)
        have hb63 : (Lw2).length + 1 ≤ maxLen := by unfold maxLen; omega
        have hby : ((Lw2).length + 1) * 1 ≤ 140737488355328 := by omega
        have hbase : base ≤ w2.heap.size + 1 := by have := (w2b).size; omega
        have hbse := hide (J.owns_base w2o)
        have hbsr := hide (fun o => J.owns_row ((w2o).alloc o))
        clear w2o
        go_wp2_with (at_builtin; refine wpList_append_own _ rfl (.tmp 35) (.tmp 36) 22 rfl base 5 i0 (.int .u8 0) 1 1 Tryz.underlying22 hi hz0 hz1 hz2 rfl (by decide) _ (Lw2).length _ rfl ((unhide hown1) _) ⟨w2.heap.size, 0, none⟩ 1 1 [.int .u8 58] rfl rfl (unhide hone) (unhide honep) hb63 hby (by simpa using hbase) ?_)
        intro vw3 w3 w3h hgw3 _
        have w3b : Bk base wr w3 := ((w2b).alloc (by have := (w2b).size; omega) _).grown hgw3 (by simpa using hbase) (unhide hbse) ((unhide hbsr) _)
        obtain ⟨Lw3, ew3⟩ : ∃ L', L' = Lw2 ++ [58] := ⟨_, rfl⟩
        have w3o : w3.ownsRow base 5 1 vw3 Lw3.length (J.bv Lw3) := by rw [ew3, List.length_append, ← J.bv_snoc]; exact w3h
        have lw3 : Lw3.length ≤ (Lw2).length + 1 := by rw [ew3, List.length_append]; exact Nat.le_refl _
        have Ew3 := hide ew3
        clear hgw3 w3h ew3 hown1 hone honep hb63 hby hbase hbse hbsr
        obtain ⟨xaw3, xnw3, xcw3, rfl⟩ := owns_shape w3o
        go_wp2_with fail
        refine ((unhide HC) _ _ _ (hbel.trans w3b) (by omega) w3o).mono ?_
        rintro e w4 ⟨v4, rfl, w4o0, w4k⟩
        have w4b : Bk base wr w4 := w3b.trans w4k
        have w4o : w4.ownsRow base 5 1 v4 (l ++ J.partsK (J.encL f) true (keysAt v a) (subs v a) (i + 1)).length (J.bv (l ++ J.partsK (J.encL f) true (keysAt v a) (subs v a) (i + 1))) := by
          have e : Lw3 ++ J.encL f (part v p) = l ++ J.partsK (J.encL f) true (keysAt v a) (subs v a) (i + 1) := by
            rw [unhide Ew3, unhide Ew2, unhide HL, unhide hps, unhide HAH, unhide HKY]
            simp only [List.append_assoc, List.nil_append, List.append_nil, List.cons_append]
          rw [← e]
          exact w4o0
        clear w4o0 w4k
        obtain ⟨xa4, xn4, xc4, rfl⟩ := owns_shape w4o
        have W4O := hide w4o
        clear w4o
        go_wp2_with fail
        go_roundg (M.arity v a - (i + 1))
        case rel => exact ⟨i + 1, rfl, by go_num, by omega, unhide W4O, hbel.trans w4b, hbelp.trans w4b⟩
        case measure => have := hg.out; omega
      · have hz : (0 : Int) < (i : Int) := by omega
        have hah : J.ahead true (keysAt v a) i = [44] ++ (J.quote ((keysAt v a).getD i ByteArray.empty) ++ [58]) := by unfold J.ahead; rw [if_neg h0]; rw [if_pos rfl]
        have HAH := hide hah
        clear hah h0
        have hb0 : Bk base wr wr := Bk.refl _ _
        have hbw : base ≤ wr.heap.size := by have := hbel.size; omega
        have hown1 := hide (fun o => (hown).alloc o)
        have hone := hide (J.one_word wr 44)
        have honep := hide (J.one_plain 44)
        have hb63 : (L).length + 1 ≤ maxLen := by unfold maxLen; omega
        have hby : ((L).length + 1) * 1 ≤ 140737488355328 := by omega
        have hbase : base ≤ wr.heap.size + 1 := by have := (hb0).size; omega
        have hbse := hide (J.owns_base hown)
        have hbsr := hide (fun o => J.owns_row ((hown).alloc o))
        clear hown
        go_wp2_with (at_builtin; refine wpList_append_own _ rfl (.tmp 20) (.tmp 21) 22 rfl base 5 i0 (.int .u8 0) 1 1 Tryz.underlying22 hi hz0 hz1 hz2 rfl (by decide) _ (L).length _ rfl ((unhide hown1) _) ⟨wr.heap.size, 0, none⟩ 1 1 [.int .u8 44] rfl rfl (unhide hone) (unhide honep) hb63 hby (by simpa using hbase) ?_)
        intro vw1 w1 w1h hgw1 _
        have w1b : Bk base wr w1 := ((hb0).alloc (by have := (hb0).size; omega) _).grown hgw1 (by simpa using hbase) (unhide hbse) ((unhide hbsr) _)
        obtain ⟨Lw1, ew1⟩ : ∃ L', L' = L ++ [44] := ⟨_, rfl⟩
        have w1o : w1.ownsRow base 5 1 vw1 Lw1.length (J.bv Lw1) := by rw [ew1, List.length_append, ← J.bv_snoc]; exact w1h
        have lw1 : Lw1.length ≤ (L).length + 1 := by rw [ew1, List.length_append]; exact Nat.le_refl _
        have Ew1 := hide ew1
        clear hgw1 w1h ew1 hown1 hone honep hb63 hby hbase hbse hbsr
        obtain ⟨xaw1, xnw1, xcw1, rfl⟩ := owns_shape w1o
        have c0 : w1.cell? ⟨b, off + a * 5, none⟩ = some (.int .i64 6) := ((hbel.trans w1b).1.cell (p := ⟨b, off + a * 5, none⟩) hb).trans f0
        have ck1 : w1.cell? ⟨b, off + p * 5 + 3, none⟩ = some (.string KY) := ((hbel.trans w1b).1.cell (p := ⟨b, off + p * 5 + 3, none⟩) hb).trans fk
        go_wp2_with fail
        refine (appendQuoted_any base _ _ _ _ w1o hkey (by omega) (by have := w1b.size; omega)).mono ?_
        rintro e w2 ⟨v2, rfl, w2o0, w2k⟩
        have w2b : Bk base wr w2 := w1b.trans w2k
        obtain ⟨Lw2, ew2⟩ : ∃ L', L' = Lw1 ++ J.quote KY := ⟨_, rfl⟩
        have w2o : w2.ownsRow base 5 1 v2 Lw2.length (J.bv Lw2) := by rw [ew2]; exact w2o0
        have lw2 : Lw2.length ≤ (Lw1).length + 122 := by rw [ew2, List.length_append]; have := J.quote_length KY; omega
        have Ew2 := hide ew2
        clear ew2 w2o0 w2k c0 ck1
        obtain ⟨xa2, xn2, xc2, rfl⟩ := owns_shape w2o
        have hown1 := hide (fun o => (w2o).alloc o)
        have hone := hide (J.one_word w2 58)
        have honep := hide (J.one_plain 58)
        have hb63 : (Lw2).length + 1 ≤ maxLen := by unfold maxLen; omega
        have hby : ((Lw2).length + 1) * 1 ≤ 140737488355328 := by omega
        have hbase : base ≤ w2.heap.size + 1 := by have := (w2b).size; omega
        have hbse := hide (J.owns_base w2o)
        have hbsr := hide (fun o => J.owns_row ((w2o).alloc o))
        clear w2o
        go_wp2_with (at_builtin; refine wpList_append_own _ rfl (.tmp 35) (.tmp 36) 22 rfl base 5 i0 (.int .u8 0) 1 1 Tryz.underlying22 hi hz0 hz1 hz2 rfl (by decide) _ (Lw2).length _ rfl ((unhide hown1) _) ⟨w2.heap.size, 0, none⟩ 1 1 [.int .u8 58] rfl rfl (unhide hone) (unhide honep) hb63 hby (by simpa using hbase) ?_)
        intro vw3 w3 w3h hgw3 _
        have w3b : Bk base wr w3 := ((w2b).alloc (by have := (w2b).size; omega) _).grown hgw3 (by simpa using hbase) (unhide hbse) ((unhide hbsr) _)
        obtain ⟨Lw3, ew3⟩ : ∃ L', L' = Lw2 ++ [58] := ⟨_, rfl⟩
        have w3o : w3.ownsRow base 5 1 vw3 Lw3.length (J.bv Lw3) := by rw [ew3, List.length_append, ← J.bv_snoc]; exact w3h
        have lw3 : Lw3.length ≤ (Lw2).length + 1 := by rw [ew3, List.length_append]; exact Nat.le_refl _
        have Ew3 := hide ew3
        clear hgw3 w3h ew3 hown1 hone honep hb63 hby hbase hbse hbsr
        obtain ⟨xaw3, xnw3, xcw3, rfl⟩ := owns_shape w3o
        go_wp2_with fail
        refine ((unhide HC) _ _ _ (hbel.trans w3b) (by omega) w3o).mono ?_
        rintro e w4 ⟨v4, rfl, w4o0, w4k⟩
        have w4b : Bk base wr w4 := w3b.trans w4k
        have w4o : w4.ownsRow base 5 1 v4 (l ++ J.partsK (J.encL f) true (keysAt v a) (subs v a) (i + 1)).length (J.bv (l ++ J.partsK (J.encL f) true (keysAt v a) (subs v a) (i + 1))) := by
          have e : Lw3 ++ J.encL f (part v p) = l ++ J.partsK (J.encL f) true (keysAt v a) (subs v a) (i + 1) := by
            rw [unhide Ew3, unhide Ew2, unhide Ew1, unhide HL, unhide hps, unhide HAH, unhide HKY]
            simp only [List.append_assoc, List.nil_append, List.append_nil, List.cons_append]
          rw [← e]
          exact w4o0
        clear w4o0 w4k
        obtain ⟨xa4, xn4, xc4, rfl⟩ := owns_shape w4o
        have W4O := hide w4o
        clear w4o
        go_wp2_with fail
        go_roundg (M.arity v a - (i + 1))
        case rel => exact ⟨i + 1, rfl, by go_num, by omega, unhide W4O, hbel.trans w4b, hbelp.trans w4b⟩
        case measure => have := hg.out; omega
    · have hge : ¬ (i : Int) < (M.arity v a : Int) := by omega
      have hie : i = M.arity v a := by omega
      have fin := hide (show wr.ownsRow base 5 1 (.slice xa xn xc) (l ++ J.partsK (J.encL f) true (keysAt v a) (subs v a) (M.arity v a)).length (J.bv (l ++ J.partsK (J.encL f) true (keysAt v a) (subs v a) (M.arity v a))) by rw [← hie, ← unhide HL]; exact hown)
      clear hown hie
      go_wp2_with fail
      go_ret
      refine ⟨_, rfl, ?_, hbel⟩
      first | exact unhide fin | (have h := unhide fin; rw [List.length_append] at h; exact h)

end Go.Proofs.YtikeffckhklhbaaGreatDoor
