/-
  impl.PathText and spec.PathText.
-/
import Derived.Test.YtlbmpldknfcfhaaDoorU26
import Derived.Test.YtlbmpldknfcfhaaDoorU46
import Derived.Deep.Cut
import Derived.Deep.CutRange
namespace Go.Proofs.YtlbmpldknfcfhaaDoor
open Go.RowKit
set_option linter.unusedVariables false
set_option linter.unusedSimpArgs false

/-- The text of the first k elements, behind the dot. -/
def Pth.textK (p : List M.Cl) : Nat → List UInt8
  | 0 => [46]
  | k + 1 => Pth.textK p k ++ ([91] ++ (J.encL 200 (part p (M.iter p k 1)) ++ [93]))
def Pth.textOut (p : List M.Cl) : Int × ByteArray := if Pth.fault p = 0 then (0, J.bytes (Pth.textK p (M.arity p 0))) else (Pth.fault p, ByteArray.empty)
theorem Pth.text_ok {p : List M.Cl} (h : Pth.fault p = 0) : Pth.textOut p = (0, J.bytes (Pth.textK p (M.arity p 0))) := if_pos h
theorem Pth.text_no {p : List M.Cl} (h : Pth.fault p ≠ 0) : Pth.textOut p = (Pth.fault p, ByteArray.empty) := if_neg h
theorem Pth.encLen {p : List M.Cl} (hv : M.valueFault p = 0) : (J.encL 200 p).length ≤ 80000 := by
  have hl := (M.fault_zero hv).1
  have hpl : (part p 0).length ≤ 200 := by have := part_len hv (show 0 < p.length by omega); have := (end_gt hv (show 0 < p.length by omega)).2; have := (M.fault_zero hv).2.1; omega
  rw [← J.encL_whole 199 hv (by omega)]
  exact J.enc_bd 200 hv (by omega) hpl
theorem Pth.partVal {p : List M.Cl} (hv : M.valueFault p = 0) {k : Nat} (hk : k < M.arity p 0) : M.valueFault (part p (M.iter p k 1)) = 0 := Pth.part_gd hv hk
theorem Pth.textLen {p : List M.Cl} (hv : M.valueFault p = 0) : ∀ k, k ≤ M.arity p 0 → (Pth.textK p k).length ≤ 1 + 80002 * k
  | 0, _ => by simp [Pth.textK]
  | k + 1, hk => by
    have h1 := Pth.textLen hv k (by omega)
    have h2 := Pth.encLen (Pth.partVal hv (show k < M.arity p 0 by omega))
    rw [Pth.textK, List.length_append, List.length_append, List.length_append, Nat.mul_add]
    show _ + (1 + (_ + 1)) ≤ _
    omega
theorem Pth.textRoom {p : List M.Cl} (hv : M.valueFault p = 0) {k : Nat} (hk : k ≤ M.arity p 0) : (Pth.textK p k).length ≤ 20000000 := by
  have h1 := Pth.textLen hv k hk
  have h2 : M.arity p 0 ≤ 200 := (M.places_in hv 0 (by have := (M.fault_zero hv).1; omega)).2.2.2
  have h3 : 80002 * k ≤ 80002 * 200 := Nat.mul_le_mul_left _ (by omega)
  omega
theorem Pth.textNe (p : List M.Cl) (k : Nat) : Pth.textK p k ≠ [] := by
  cases k with
  | zero => simp [Pth.textK]
  | succ k => rw [Pth.textK]; simp
theorem Pth.room {L : Nat} (h : L ≤ 20000100) : L + 100000 * 200 ≤ 100000000000 := Nat.le_trans (Nat.add_le_add_right h _) (by decide)

set_option maxRecDepth 100000 in
set_option maxHeartbeats 2000000 in
theorem specPathText_any (p : List M.Cl) (b off cap : Nat) (w : World) (hrow : Row w b off p) (hb : b < w.heap.size) (hn : p.length ≤ 1048576) (hcap : p.length ≤ cap) (hok : ∀ c ∈ p, c.ok) :
    Calls Tryd.prog 25 #[.slice (some ⟨b, off, none⟩) p.length cap] w fun e w' => e = .returned (.agg #[.int .i64 (Pth.textOut p).1, .string (Pth.textOut p).2]) ∧ Below w.heap.size w w' := by
  have OK := hide hok
  have HR := hide hrow
  clear hok hrow
  obtain ⟨w0, hw0⟩ : ∃ w0, w0 = w.alloc (.cells #[.int .i64 0, .string ByteArray.empty] 25) := ⟨_, rfl⟩
  have B0 : Below w.heap.size w w0 := by rw [hw0]; exact (Below.refl _ _).alloc (Nat.le_refl _) _
  have hX0 : Own w0 w.heap.size 25 [.int .i64 0, .string ByteArray.empty] := by rw [hw0]; exact ⟨_, heap_alloc_new _ _, rfl⟩
  go_enter Tryd.func25, Tryd.ntmps25
  go_wp2_with fail
  try (rw [show (w.alloc (.cells #[.int .i64 0, .string { data := #[] }] 25)) = w0 from hw0.symm])
  refine (specPathFault_any p b off cap _ ((unhide HR).below B0 hb) (Nat.lt_of_lt_of_le hb B0.size) hn hcap (unhide OK)).mono ?_
  rintro e1 w1 ⟨rfl, hb1⟩
  have B1 : Below w.heap.size w w1 := B0.trans (hb1.mono B0.size)
  have hX1 := hX0.below hb1 hX0.lt
  clear hb1 B0 hX0 hw0
  generalize hq : Pth.fault p = q
  by_cases hz : q = 0
  · subst hz
    have hv := (Pth.fault_no hq).1
    have fin := hide (Pth.text_ok hq)
    have HP := hide (l1Parts_any p b off cap w1 hv ((unhide HR).below B1 hb) (Nat.lt_of_lt_of_le hb B1.size) hcap (unhide OK))
    have SA := hide (subs_all hv (unhide OK))
    have hsl := subs_length p 0
    have HSG := hide (fun (i : Nat) hi => subs_getD' p i hi)
    have RM := hide (fun (k : Nat) hk => Pth.textRoom hv (k := k) hk)
    have EL := hide (fun (k : Nat) hk => Pth.encLen (Pth.partVal hv (k := k) hk))
    have h200 : M.arity p 0 ≤ 200 := by rw [← hsl]; exact (unhide SA).1
    clear hq hv
    go_wp2_with fail
    refine (unhide HP).mono ?_
    rintro e2 w2 ⟨s, rfl, hss, hb2⟩
    have B2 : Below w.heap.size w w2 := B1.trans (hb2.mono B1.size)
    have hX2 := hX1.below hb2 hX1.lt
    obtain ⟨pa, pc, rfl, hpc, hlv⟩ := hss.lv (unhide SA).2.2.2
    have HLV := hide hlv
    have HSL := hide hsl
    rw [hsl] at hpc ⊢
    clear hss hlv hb2 HP B1 hX1 hsl
    go_wp2_with fail
    go_loopg [4, 6] (M.arity p 0) (fun gh s4 s6 wr => ∃ (k : Nat) (o : ByteArray), Hid (gh = M.arity p 0 - k) ∧ s4 = .string o ∧ s6 = .int .i64 k ∧ k ≤ M.arity p 0 ∧ Hid (o = J.bytes (Pth.textK p k)) ∧ Below w2.heap.size w2 wr)
    case atStart => exact ⟨0, _, rfl, rfl, rfl, by omega, rfl, Below.refl _ _⟩
    case round =>
      obtain ⟨k, o, hg, rfl, rfl, hk, ho, hbel⟩ := hrel
      have BW : Below w.heap.size w wr := B2.trans (hbel.mono B2.size)
      have hX := hX2.below hbel hX2.lt
      have hosz : o.size ≤ 20000000 := by rw [ho.out, J.bytes_size]; exact (unhide RM) k hk
      by_cases hlt : k < M.arity p 0
      · have hltI : (k : Int) < (M.arity p 0 : Int) := by omega
        obtain ⟨g, pb, po, c, rfl, hgl, f0, hc, hpb, hr⟩ := ((unhide HLV).below hbel) k (by rw [unhide HSL]; exact hlt)
        have hval := (unhide SA).2.1 k (by rw [unhide HSL]; exact hlt)
        have hok' := hide ((unhide SA).2.2.1 k (by rw [unhide HSL]; exact hlt))
        have hel := (unhide EL) k hlt
        rw [(unhide HSG) k hlt] at f0 hc hr hval hok'
        have hline : Hid (J.bytes (Pth.textK p (k + 1)) = o ++ { data := #[91] } ++ J.bytes (J.encL 200 (part p (M.iter p k 1))) ++ { data := #[93] }) := by
          show _ = _
          rw [ho.out, Pth.textK, bytes_two, bytes_two, bytes_two, ByteArray.append_assoc, ByteArray.append_assoc]
          rfl
        generalize part p (M.iter p k 1) = u at *
        have HE := hide (l2Encode_all 200 u pb po c wr hval (M.fault_zero hval).2.1 hr hpb hc (unhide hok'))
        have hes : (J.bytes (J.encL 200 u)).size ≤ 80000 := by rw [J.bytes_size]; exact hel
        clear hval hr hel
        generalize J.bytes (J.encL 200 u) = E at *
        have hs1 : (o ++ { data := #[91] }).size ≤ 20000001 := by rw [ByteArray.size_append]; show _ + 1 ≤ _; omega
        have hs2 : (o ++ { data := #[91] } ++ E).size ≤ 20080001 := by rw [ByteArray.size_append]; omega
        go_wp2_with fail
        refine (unhide HE).mono ?_
        rintro e w3 ⟨rfl, hb3⟩
        have B3 : Below w2.heap.size w2 w3 := hbel.trans (hb3.mono hbel.size)
        clear hb3 HE f0
        go_wp2_with fail
        go_roundg (M.arity p 0 - (k + 1))
        case rel => exact ⟨k + 1, _, rfl, rfl, by go_num, by omega, by (show _ = _; rw [hline.out]), B3⟩
        case measure => have := hg.out; omega
      · have hge : ¬ (k : Int) < (M.arity p 0 : Int) := by omega
        have hke : k = M.arity p 0 := by omega
        have hq : Hid (J.bytes (Pth.textK p (M.arity p 0)) = o) := by show _ = _; rw [ho.out, hke]
        rw [hq.out] at fin
        clear hke
        have r0 := hX.cell 0
        have r1 := hX.cell 1
        have z0 := hX.frozen 0
        have z1 := hX.frozen 1
        simp only [List.getElem?_cons_zero, List.getElem?_cons_succ] at r0 r1
        go_wp2_with fail
        refine bodyPost_ret (v := .agg #[.int .i64 0, .string o]) (by simp [results, Tryd.results25, go_sem, r0, r1]) rfl ⟨by rw [unhide fin], ?_⟩
        exact (BW.setCell (Nat.le_refl _) _).setCell (Nat.le_refl _) _
  · have fin := hide ((Pth.text_no (by rw [hq]; exact hz)).trans (by rw [hq]))
    have hz' : (q == 0) = false := by simp [hz]
    have r0 := hX1.cell 0
    have r1 := hX1.cell 1
    have z0 := hX1.frozen 0
    have z1 := hX1.frozen 1
    simp only [List.getElem?_cons_zero, List.getElem?_cons_succ] at r0 r1
    clear hq hz
    go_wp2_with fail
    refine bodyPost_ret (v := .agg #[.int .i64 q, .string ByteArray.empty]) (by simp [results, Tryd.results25, go_sem, r0, r1]; try rfl) rfl ⟨by rw [unhide fin], ?_⟩
    exact (B1.setCell (Nat.le_refl _) _).setCell (Nat.le_refl _) _

set_option maxRecDepth 100000 in
set_option maxHeartbeats 2000000 in
theorem implPathText_any (p : List M.Cl) (b off cap : Nat) (w : World) (hrow : Row w b off p) (hb : b < w.heap.size) (hn : p.length ≤ 1048576) (hcap : p.length ≤ cap) (hc : cap ≤ 9223372036854775807) (hok : ∀ c ∈ p, c.ok) (htab : Lib.TabBelow Tryd.prog w.heap.size w "internal/strconv.uint64pow10" .u64 Lib.pow10Tab) :
    Calls Tryd.prog 49 #[.slice (some ⟨b, off, none⟩) p.length cap] w fun e w' => e = .returned (.agg #[.int .i64 (Pth.textOut p).1, .string (Pth.textOut p).2]) ∧ Below w.heap.size w w' := by
  have OK := hide hok
  have HR := hide hrow
  have HT := hide htab
  clear hok hrow htab
  obtain ⟨i0, hi, hz0, hz1, hz2⟩ := info_parts Tryd.info5
  obtain ⟨w0, hw0⟩ : ∃ w0, w0 = w.alloc (.cells #[.int .i64 0, .string ByteArray.empty] 25) := ⟨_, rfl⟩
  have B0 : Below w.heap.size w w0 := by rw [hw0]; exact (Below.refl _ _).alloc (Nat.le_refl _) _
  have hX0 : Own w0 w.heap.size 25 [.int .i64 0, .string ByteArray.empty] := by rw [hw0]; exact ⟨_, heap_alloc_new _ _, rfl⟩
  go_enter Tryd.func49, Tryd.ntmps49
  go_wp2_with fail
  try (rw [show (w.alloc (.cells #[.int .i64 0, .string { data := #[] }] 25)) = w0 from hw0.symm])
  refine (implPathFault_any p b off cap _ ((unhide HR).below B0 hb) (Nat.lt_of_lt_of_le hb B0.size) hn hcap hc (unhide OK)).mono ?_
  rintro e1 w1 ⟨rfl, hb1⟩
  have B1 : Below w.heap.size w w1 := B0.trans (hb1.mono B0.size)
  have hX1 := hX0.below hb1 hX0.lt
  clear hb1 B0 hX0 hw0
  generalize hq : Pth.fault p = q
  by_cases hz : q = 0
  · subst hz
    have hv := (Pth.fault_no hq).1
    have fin := hide (Pth.text_ok hq)
    have hl1 := (M.fault_zero hv).1
    have HPI := hide (M.places_in hv 0 (by omega))
    have RM := hide (fun (k : Nat) hk => Pth.textRoom hv (k := k) hk)
    have EL := hide (fun (k : Nat) hk => Pth.encLen (Pth.partVal hv (k := k) hk))
    have h200 : M.arity p 0 ≤ 200 := (unhide HPI).2.2.2
    obtain ⟨base, hbe⟩ : ∃ base, base = w1.heap.size := ⟨_, rfl⟩
    obtain ⟨w2, hw2⟩ : ∃ w2, w2 = w1.alloc (.cells #[.int .u8 46] 5) := ⟨_, rfl⟩
    have K2 : Bk base w1 w2 := by rw [hw2]; exact (Bk.refl _ _).alloc (by omega) _
    have O2 : w2.ownsRow base 5 1 (.slice (some ⟨base, 0, none⟩) 1 1) (Pth.textK p 0).length (J.bv (Pth.textK p 0)) := by
      rw [hw2, hbe]
      exact ⟨rfl, .inr ⟨w1.heap.size, 1, #[.int .u8 46], rfl, Nat.le_refl _, heap_alloc_new _ _, Nat.le_refl _, by simp [maxLen], rfl, rfl⟩⟩
    have hbb : b < base := by rw [hbe]; exact Nat.lt_of_lt_of_le hb B1.size
    have ROW := hide (fun W (h : Bk base w1 W) => ((unhide HR).below B1 hb).below h.1 hbb)
    have HCP := hide (childPlaces_any p b off cap 0 w2 hv (by omega) ((unhide ROW) _ K2) (Nat.lt_of_lt_of_le hbb (by rw [hbe]; exact K2.size)) hcap)
    have HAT := hide (fun W (h : Bk base w1 W) a (ha : a < p.length) hpl (tv : Value) (L : List UInt8) hL ho => appendText_any 200 p a b off cap base tv L W hv ha hpl ((unhide ROW) W h) hbb hcap (by have := h.size; omega) (Pth.room hL) ho (fun w' hb' => (unhide HT) w' (B1.trans (((h.1.trans hb').mono (by have := B1.size; omega))))))
    have HPLN := hide (fun (a : Nat) (ha : a < p.length) => show (part p a).length ≤ 200 by have := part_len hv ha; have := (end_gt hv ha).2; have := (M.fault_zero hv).2.1; omega)
    have HBE := hide hbe
    have hbase2 : base ≤ w2.heap.size := by have := K2.size; omega
    clear hq hv ROW hbe
    go_upto_region 5 with fail
    rw [← hw2]
    rw [← unhide HBE]
    clear hw2
    go_wp2_with fail
    refine (unhide HCP).mono ?_
    rintro e wp ⟨sp, rfl, hsp, hbp⟩
    have hfl := firstPl_length p 0 (M.arity p 0)
    obtain ⟨ap, cp, rfl⟩ := hsp.form2
    rw [hfl] at *
    have hkp : Bk base w1 wp := K2.below hbp hbase2
    have O3 := ownsRow_below (B := 0) O2 hbp
    have HSP := hide hsp
    clear hsp hbp hfl HCP O2 K2
    go_wp2_with fail
    go_loopg [4, 17] (M.arity p 0) (fun gn s4 s17 wr => ∃ k : Nat, Hid (gn = M.arity p 0 - k) ∧ s17 = .int .i64 k ∧ k ≤ M.arity p 0 ∧ wr.ownsRow base 5 1 s4 (Pth.textK p k).length (J.bv (Pth.textK p k)) ∧ Bk base w1 wr ∧ Bk base wp wr)
    case atStart => exact ⟨0, rfl, rfl, by omega, O3, hkp, Bk.refl _ _⟩
    case round =>
      clear O3
      obtain ⟨k, hg, rfl, hk, hown, hbel, hbelp⟩ := hrel
      have hll := (unhide RM) k hk
      obtain ⟨L, hL⟩ : ∃ L, L = Pth.textK p k := ⟨_, rfl⟩
      rw [← hL] at hown hll
      have HL := hide hL
      clear hL
      obtain ⟨xa, xn, xc, rfl⟩ := owns_shape hown
      by_cases hlt : k < M.arity p 0
      · have hltI : (k : Int) < (M.arity p 0 : Int) := by omega
        have hp1 := (unhide HPI).1 k hlt
        have hp2 := (unhide HPI).2.2.1
        simp only [Nat.zero_add] at hp1
        have hpv : M.iter p k 1 < p.length := by omega
        have hR := hbelp.resI (unhide HSP)
        obtain ⟨g, c, hgv, hgc, hoI⟩ := hR.some2 (by rw [firstPl_length]; omega)
        rw [firstPl_length] at hgv hgc
        obtain ⟨rfl, rfl⟩ : ap = some ⟨g, 0, none⟩ ∧ cp = c := by injection hgv with e1 e2 e3; exact ⟨e1, e3⟩
        have fp := hoI.cell (i := k) (by rw [firstPl_length]; exact hlt)
        rw [firstPl_getD p 0 _ k hlt] at fp
        simp only [Nat.zero_add] at fp
        have hps := hide (show Pth.textK p (k + 1) = Pth.textK p k ++ ([91] ++ (J.encL 200 (part p (M.iter p k 1)) ++ [93])) from rfl)
        have hel := (unhide EL) k hlt
        have hpl2 := hide ((unhide HPLN) _ hpv)
        have hbw : base ≤ wr.heap.size := by have := hbel.size; have := (unhide HBE); omega
        have hown1 := hide (fun o => hown.alloc o)
        have hone := hide (J.one_word wr 91)
        have honep := hide (J.one_plain 91)
        have hb63 : L.length + 1 ≤ maxLen := by unfold maxLen; omega
        have hby : (L.length + 1) * 1 ≤ 140737488355328 := by omega
        have hbase : base ≤ wr.heap.size + 1 := by omega
        have hbse := hide (J.owns_base hown)
        have hbsr := hide (fun o => J.owns_row (hown.alloc o))
        have HBEL := hide hbel
        clear hown hR hoI hgv hp1 hp2 hbel
        generalize M.iter p k 1 = a at *
        go_wp2_with (at_builtin; refine wpList_append_own _ rfl (.tmp 21) (.tmp 22) 46 rfl base 5 i0 (.int .u8 0) 1 1 Tryd.underlying46 hi hz0 hz1 hz2 rfl (by decide) _ L.length _ rfl ((unhide hown1) _) ⟨wr.heap.size, 0, none⟩ 1 1 [.int .u8 91] rfl rfl (unhide hone) (unhide honep) hb63 hby (by simpa using hbase) ?_)
        intro vx x1 x1h hgx _
        have x1b : Bk base wr x1 := ((Bk.refl base wr).alloc hbw _).grown hgx (by simpa using hbase) (unhide hbse) ((unhide hbsr) _)
        obtain ⟨L1, eL1⟩ : ∃ L', L' = L ++ [91] := ⟨_, rfl⟩
        have x1o : x1.ownsRow base 5 1 vx L1.length (J.bv L1) := by rw [eL1, List.length_append, ← J.bv_snoc]; exact x1h
        have lL1 : L1.length ≤ 20000001 := by rw [eL1, List.length_append]; show _ + 1 ≤ _; omega
        have EL1 := hide eL1
        clear hgx x1h eL1 hown1 hone honep hb63 hby hbase hbse hbsr
        obtain ⟨ya, yn, yc, rfl⟩ := owns_shape x1o
        have HC := hide ((unhide HAT) x1 ((unhide HBEL).trans x1b) a hpv (unhide hpl2) (.slice ya yn yc) L1 (by omega) x1o)
        clear x1o
        go_wp2_with fail
        refine (unhide HC).mono ?_
        rintro e x2 ⟨v2, rfl, x2o0, x2k⟩
        have x2b : Bk base wr x2 := x1b.trans x2k
        obtain ⟨L2, eL2⟩ : ∃ L', L' = L1 ++ J.encL 200 (part p a) := ⟨_, rfl⟩
        have x2o : x2.ownsRow base 5 1 v2 L2.length (J.bv L2) := by rw [eL2]; exact x2o0
        have lL2 : L2.length ≤ 20080001 := by rw [eL2, List.length_append]; omega
        have EL2 := hide eL2
        clear eL2 x2o0 x2k x1b HC
        obtain ⟨xa2, xn2, xc2, rfl⟩ := owns_shape x2o
        have hown1 := hide (fun o => (x2o).alloc o)
        have hone := hide (J.one_word x2 93)
        have honep := hide (J.one_plain 93)
        have hb63 : L2.length + 1 ≤ maxLen := by unfold maxLen; omega
        have hby : (L2.length + 1) * 1 ≤ 140737488355328 := by omega
        have hbase : base ≤ x2.heap.size + 1 := by have := (x2b).size; omega
        have hbse := hide (J.owns_base x2o)
        have hbsr := hide (fun o => J.owns_row ((x2o).alloc o))
        clear x2o
        go_wp2_with (at_builtin; refine wpList_append_own _ rfl (.tmp 27) (.tmp 28) 46 rfl base 5 i0 (.int .u8 0) 1 1 Tryd.underlying46 hi hz0 hz1 hz2 rfl (by decide) _ L2.length _ rfl ((unhide hown1) _) ⟨x2.heap.size, 0, none⟩ 1 1 [.int .u8 93] rfl rfl (unhide hone) (unhide honep) hb63 hby (by simpa using hbase) ?_)
        intro vz x3 x3h hgz _
        have x3b : Bk base wr x3 := ((x2b).alloc (by have := (x2b).size; omega) _).grown hgz (by simpa using hbase) (unhide hbse) ((unhide hbsr) _)
        have x3n := hide (show x3.ownsRow base 5 1 vz (Pth.textK p (k + 1)).length (J.bv (Pth.textK p (k + 1))) by
          have e : L2 ++ [93] = Pth.textK p (k + 1) := by
            rw [unhide EL2, unhide EL1, unhide hps, unhide HL]
            simp only [List.append_assoc]
          rw [← e, List.length_append, ← J.bv_snoc]
          exact x3h)
        have hsh := owns_shape (unhide x3n)
        obtain ⟨xa3, xn3, xc3, rfl⟩ := hsh
        clear hgz x3h hown1 hone honep hb63 hby hbase hbse hbsr
        go_wp2_with fail
        go_roundg (M.arity p 0 - (k + 1))
        case rel => exact ⟨k + 1, rfl, by go_num, by omega, unhide x3n, (unhide HBEL).trans x3b, hbelp.trans x3b⟩
        case measure => have := hg.out; omega
      · have hge : ¬ (k : Int) < (M.arity p 0 : Int) := by omega
        have hke : k = M.arity p 0 := by omega
        have fin2 := hide (show Pth.textOut p = (0, J.bytes L) by rw [unhide fin, unhide HL, hke])
        have hne : L ≠ [] := by rw [unhide HL]; exact Pth.textNe p k
        have BW : Below w.heap.size w wr := B1.trans (hbel.1.mono (by have := B1.size; have := unhide HBE; omega))
        have hX := hX1.below hbel.1 (by have := hX1.lt; have := unhide HBE; omega)
        have r0 := hX.cell 0
        have r1 := hX.cell 1
        have z0 := hX.frozen 0
        have z1 := hX.frozen 1
        simp only [List.getElem?_cons_zero, List.getElem?_cons_succ] at r0 r1
        rcases hown.2 with ⟨_, h0⟩ | ⟨g, cap2, cur, hsl, hgb, _⟩
        · exact absurd (List.length_eq_zero_iff.1 h0) hne
        simp only [Value.slice.injEq] at hsl
        obtain ⟨rfl, rfl, rfl⟩ := hsl
        have hcv := show (convert 46 9 (.slice (some ⟨g, 0, none⟩) L.length xc)).run Tryd.prog wr = .ok (.string (J.bytes L)) wr from
          run_convert_bytes_back _ _ _ 5 _ xc _ Tryd.underlying46 Tryd.underlying5 Tryd.underlying9 (J.owns_cells hown)
        clear hown hX hke hne HL fin
        generalize J.bytes L = q at *
        generalize L.length = n at *
        go_wp2_with fail
        refine bodyPost_ret (v := .agg #[.int .i64 0, .string q]) (by simp [results, Tryd.results49, go_sem, r0, r1]) rfl ⟨by rw [unhide fin2], ?_⟩
        exact (BW.setCell (Nat.le_refl _) _).setCell (Nat.le_refl _) _
  · have fin := hide ((Pth.text_no (by rw [hq]; exact hz)).trans (by rw [hq]))
    have hz' : (q == 0) = false := by simp [hz]
    have r0 := hX1.cell 0
    have r1 := hX1.cell 1
    have z0 := hX1.frozen 0
    have z1 := hX1.frozen 1
    simp only [List.getElem?_cons_zero, List.getElem?_cons_succ] at r0 r1
    clear hq hz
    go_wp2_with fail
    refine bodyPost_ret (v := .agg #[.int .i64 q, .string ByteArray.empty]) (by simp [results, Tryd.results49, go_sem, r0, r1]; try rfl) rfl ⟨by rw [unhide fin], ?_⟩
    exact (B1.setCell (Nat.le_refl _) _).setCell (Nat.le_refl _) _
end Go.Proofs.YtlbmpldknfcfhaaDoor
