/-
  spec.CodeText.
-/
import Derived.Test.YtfmljlhcaimafaaDoorInX
import Derived.Test.YtfmljlhcaimafaaDoorDigT
import Derived.Deep.RegionWith
import Derived.Deep.CutRange
namespace Go.Proofs.YtfmljlhcaimafaaDoor
open Go.RowKit
set_option linter.unusedVariables false
set_option linter.unusedSimpArgs false


theorem Ic.word_get (o : Nat) (h : o < 20) : (Ic.words.map Value.string)[o]? = some (.string (Ic.word o)) := by
  have hl : o < Ic.words.length := h
  rw [List.getElem?_map, List.getElem?_eq_getElem hl]
  unfold Ic.word
  rw [List.getD_eq_getElem?_getD, List.getElem?_eq_getElem hl]
  rfl

set_option maxRecDepth 100000 in
set_option maxHeartbeats 8000000 in
theorem specCodeText_any (b : Nat) (l : List Ic) (rg : Int) (w : World) (hrow : Ic.Row w b l) (hb : b < w.heap.size) (hsz : ∀ i, i < l.length → (l.getD i Ic.zero).val.length ≤ 1048576) (hok : ∀ c ∈ l, c.ok) (hn : l.length ≤ 1048576) :
    Calls Tryd.prog 21 #[.slice (some ⟨b, 0, none⟩) l.length l.length, .int .i64 rg] w fun e w' => e = .returned (.agg #[.int .i64 (Ic.textOut l rg).1, .string (Ic.textOut l rg).2]) ∧ Below w.heap.size w w' := by
  have HR := hide hrow
  have HK := hide hok
  obtain ⟨w0, hw0⟩ : ∃ w0, w0 = w.alloc (.cells #[.int .i64 0, .string ByteArray.empty] 41) := ⟨_, rfl⟩
  have B0 : Below w.heap.size w w0 := by rw [hw0]; exact (Below.refl _ _).alloc (Nat.le_refl _) _
  have hX0 : Own w0 w.heap.size 41 [.int .i64 0, .string ByteArray.empty] := by rw [hw0]; exact ⟨_, heap_alloc_new _ _, rfl⟩
  have HC := hide (specCode_any b l rg w0 (hrow.below B0 hb) (Nat.lt_of_lt_of_le hb B0.size) hsz hok hn)
  clear hrow hok
  go_enter Tryd.func21, Tryd.ntmps21
  go_wp2_with fail
  try (rw [show (w.alloc (.cells #[.int .i64 0, .string { data := #[] }] 41)) = w0 from hw0.symm])
  clear hw0
  refine (unhide HC).mono ?_
  rintro e w1 ⟨rfl, hb1⟩
  have B1 : Below w.heap.size w w1 := B0.trans (hb1.mono B0.size)
  have hX1 := hX0.below hb1 hX0.lt
  clear HC hb1 hX0 B0
  obtain ⟨fa, hfa⟩ : ∃ fa, fa = (Ic.fault l rg).2 := ⟨_, rfl⟩
  rw [← hfa]
  clear hfa
  have hfc := Ic.field_code2 (Ic.fault l rg).1 fa
  by_cases hf : (Ic.fault l rg).1 = 0
  case neg =>
    have fin := hide (show Ic.textOut l rg = ((Ic.fault l rg).1, ByteArray.empty) by unfold Ic.textOut; rw [if_pos hf])
    generalize (Ic.fault l rg).1 = q at *
    have g1 : (q != 0) = true := by simpa using hf
    have r0 := hX1.cell 0
    have r1 := hX1.cell 1
    have z0 := hX1.frozen 0
    have z1 := hX1.frozen 1
    simp only [List.getElem?_cons_zero, List.getElem?_cons_succ] at r0 r1
    go_wp2_with fail
    refine bodyPost_ret (v := .agg #[.int .i64 q, .string ByteArray.empty]) (by simp [results, Tryd.results21, go_sem, r0, r1]; try rfl) rfl ⟨by rw [unhide fin], ?_⟩
    exact (B1.setCell (Nat.le_refl _) _).setCell (Nat.le_refl _) _
  case pos =>
  obtain ⟨⟨hr0, hr1⟩, ⟨hl1, hl6⟩, hone, _⟩ := Ic.fault_parts hf
  have fin := hide (show Ic.textOut l rg = (0, J.bytes (Ic.linesT l l.length)) by unfold Ic.textOut; rw [if_neg (by simpa using hf)])
  have HO := hide hone
  rw [hf] at hfc ⊢
  clear hf hone
  obtain ⟨w2, hw2⟩ : ∃ w2, w2 = w1.alloc (.cells #[.string { data := #[] }, .string { data := #[100, 117, 112] }, .string { data := #[112, 111, 112] }, .string { data := #[112, 117, 115, 104] }, .string { data := #[115, 119, 97, 112] }, .string { data := #[98, 105, 110] }, .string { data := #[97, 116] }, .string { data := #[101, 97, 99, 104] }, .string { data := #[100, 111] }, .string { data := #[109, 101, 109, 98, 101, 114] }, .string { data := #[106, 117, 109, 112] }, .string { data := #[117, 110, 108, 101, 115, 115] }, .string { data := #[102, 111, 114, 107] }, .string { data := #[116, 114, 121] }, .string { data := #[97, 108, 116] }, .string { data := #[98, 97, 99, 107] }, .string { data := #[115, 116, 111, 114, 101] }, .string { data := #[108, 111, 97, 100] }, .string { data := #[97, 112, 112, 101, 110, 100] }, .string { data := #[101, 109, 105, 116] }] 9) := ⟨_, rfl⟩
  have B2 : Below w.heap.size w w2 := by rw [hw2]; exact B1.alloc B1.size _
  have hX2 : Own w2 w.heap.size 41 [.int .i64 0, .string ByteArray.empty] := by rw [hw2]; exact hX1.alloc _
  have OW : Own w2 w1.heap.size 9 (Ic.words.map Value.string) := by rw [hw2]; exact ⟨_, heap_alloc_new _ _, rfl⟩
  clear B1 hX1
  go_wp2_with fail
  rw [← hw2]
  clear hw2
  go_loopg [7, 8, 9, 10, 11] l.length (fun gh s7 s8 s9 s10 s11 wr => ∃ (k : Nat) (o : ByteArray), Hid (gh = l.length - k) ∧ s7 = .string o ∧ s8 = .int .i64 k ∧ k ≤ l.length ∧ Hid (o = J.bytes (Ic.linesT l k)) ∧ Below w2.heap.size w2 wr)
  case atStart => exact ⟨0, _, rfl, rfl, rfl, by omega, rfl, Below.refl _ _⟩
  case round =>
    obtain ⟨k, o, hg, rfl, rfl, hk, ho, hbel⟩ := hrel
    have BW : Below w.heap.size w wr := B2.trans (hbel.mono B2.size)
    have hX := hX2.below hbel hX2.lt
    have hosz : o.size ≤ 480600000 := by rw [ho.out, J.bytes_size]; exact Ic.lines_room (unhide HO) hl6 hr1 k hk
    by_cases hlt : k < l.length
    · have hltI : (k : Int) < (l.length : Int) := by omega
      obtain ⟨f0, f1, vg, f2, hvg, hvr⟩ := ((unhide HR).below BW hb) k hlt
      have hone1 := (unhide HO) k hlt
      have hop1 := (Ic.one_parts hone1).1
      have harg := Ic.one_arg hone1 hl6 hr1
      have hval := hide (fun h => Ic.one_val hone1 h)
      have hok1 := hide ((unhide HK) _ (Ic.mem_at l k hlt)).2.2
      have hline := hide (show Ic.linesT l (k + 1) = Ic.linesT l k ++ Ic.lineT k (l.getD k Ic.zero) from rfl)
      have hlv := hide (fun h => Ic.line_val (i := k) (c := l.getD k Ic.zero) h)
      have hla := hide (fun h h2 => Ic.line_arg (i := k) (c := l.getD k Ic.zero) h h2)
      have hlb := hide (fun h h2 => Ic.line_bare (i := k) (c := l.getD k Ic.zero) h h2)
      have HAR := hide (fun (W : World) (h : Below w.heap.size w W) => show Calls Tryd.prog 42 #[.slice (some ⟨b, 0, none⟩) l.length l.length, .int .i64 k, .int .i64 rg] W (fun e w' => ∃ x y : Int, e = .returned (.tuple #[.int .i64 x, .int .i64 y, .bool (Ic.argK (l.getD k Ic.zero).op != 0)]) ∧ w' = W) from (l8Args_any b l k rg W ((unhide HR).below h hb) hlt hl6 hr0 hr1).mono (fun e w' h => ⟨_, _, h.1, h.2⟩))
      clear hone1
      generalize l.getD k Ic.zero = n at *
      obtain ⟨nop, narg, nval⟩ := n
      dsimp only at *
      obtain ⟨op, rfl⟩ : ∃ op : Nat, nop = (op : Int) := ⟨nop.toNat, by omega⟩
      obtain ⟨u, rfl⟩ : ∃ u : Nat, narg = (u : Int) := ⟨narg.toNat, by omega⟩
      simp only [Int.toNat_natCast] at hlv hla hlb
      have hopl : op < 20 := by omega
      have hopI : (op : Int) < 20 := by omega
      have hop0 : (0 : Int) ≤ (op : Int) := by omega
      have hwl := Ic.word_len op hopl
      have cw := ((OW.below hbel OW.lt).cell op).trans (Ic.word_get op hopl)
      have hblt : b < wr.heap.size := Nat.lt_of_lt_of_le hb BW.size
      have howl : w1.heap.size < wr.heap.size := (OW.below hbel OW.lt).lt
      have HD := hide (l2Digits_any k (by omega))
      have hil := Lib.itoa_length_le (k : Int) (by omega) (by omega)
      have hdz : (⟨(Lib.decDigits k).toArray⟩ : ByteArray).size ≤ 21 := by rw [Ic.digits_itoa, J.bytes_size]; exact hil
      have hwz : (Ic.word op).size ≤ 6 := hwl
      have hP : Hid (((o ++ ⟨(Lib.decDigits k).toArray⟩) ++ { data := #[32] }) ++ Ic.word op = J.bytes (Ic.linesT l k ++ Ic.preT k op)) := by
        show _ = _
        rw [ho.out, Ic.digits_itoa, ← Ic.word_bytes, Ic.preT, bytes_two, bytes_two, bytes_two, ← ByteArray.append_assoc, ← ByteArray.append_assoc]
        rfl
      clear hil hwl hlt
      generalize (⟨(Lib.decDigits k).toArray⟩ : ByteArray) = D at *
      generalize Ic.word op = wo at *
      have hs1 : (o ++ D).size ≤ 480600021 := by rw [ByteArray.size_append]; omega
      have hs2 : ((o ++ D) ++ { data := #[32] } : ByteArray).size ≤ 480600022 := by rw [ByteArray.size_append]; show _ + 1 ≤ _; omega
      have hs3 : (((o ++ D) ++ { data := #[32] }) ++ wo : ByteArray).size ≤ 480600028 := by rw [ByteArray.size_append]; omega
      obtain ⟨P, hPe⟩ : ∃ P, P = ((o ++ D) ++ { data := #[32] }) ++ wo := ⟨_, rfl⟩
      have HPE := hide hPe
      rw [← hPe] at hP hs3
      clear hPe
      go_upto_region 9 with fail
      go_cut [7] from 21 to 75 (fun s7 wx => s7 = .string P ∧ Below wr.heap.size wr wx)
      case first =>
        go_region_with (go_at_call 39; refine ((unhide HD) _).mono ?_; rintro e w7 ⟨rfl, hb7⟩; have e0 := (hb7.cell (by exact hblt)).trans f0; have e1 := (hb7.cell (by exact howl)).trans cw; have HB7 : Below wr.heap.size wr w7 := (Below.refl wr.heap.size wr).drew.trans hb7)
        all_goals
          go_wp2_with fail
          go_meet
          case rel => exact ⟨congrArg Value.string (unhide HPE).symm, HB7⟩
      case rest =>
      obtain ⟨h7, hbc⟩ := hcut
      subst h7
      have BC : Below w2.heap.size w2 wc := hbel.trans (hbc.mono hbel.size)
      have BWC : Below w.heap.size w wc := B2.trans (BC.mono B2.size)
      have c0 := (hbc.cell (by exact hblt)).trans f0
      have c1 := (hbc.cell (by exact hblt)).trans f1
      have c2 := (hbc.cell (by exact hblt)).trans f2
      have HV := hide (hvr.below hbc hvg)
      have hvg2 : vg < wc.heap.size := Nat.lt_of_lt_of_le hvg hbc.size
      clear f0 f1 f2 hvr hs1 hs2 HD cw HPE
      go_wp2_with fail
      refine (l8Holds_any (op : Int) _).mono ?_
      rintro e w4 ⟨rfl, hw4⟩
      rw [hw4]
      clear hw4
      cases hv : Ic.holds (op : Int) with
      | true =>
        have hz := (unhide hval) hv
        have hk0 : (Ic.argK (op : Int) != 0) = false := by rw [Ic.holds_K hv]; rfl
        rw [hk0] at HAR
        have HE := hide (l2Encode_all 200 nval vg 0 nval.length _ hz (M.fault_zero hz).2.1 (unhide HV) hvg2 (Nat.le_refl _) (unhide hok1))
        have hes : (J.bytes (J.encL 200 nval)).size ≤ 80000 := by rw [J.bytes_size]; exact Ic.enc_len hz
        have hn2 : Hid (J.bytes (Ic.linesT l (k + 1)) = ((P ++ { data := #[32] }) ++ J.bytes (J.encL 200 nval)) ++ { data := #[10] }) := by
          show _ = _
          rw [unhide hline, (unhide hlv) hv, hP.out, ← List.append_assoc, ← List.append_assoc, ← List.append_assoc, bytes_two, bytes_two, bytes_two]
          rfl
        clear hz hval hline hlv hla hlb hk0
        generalize J.bytes (J.encL 200 nval) = E at *
        have hs4 : (P ++ { data := #[32] } : ByteArray).size ≤ 480600029 := by rw [ByteArray.size_append]; show _ + 1 ≤ _; omega
        have hs5 : ((P ++ { data := #[32] }) ++ E : ByteArray).size ≤ 480690029 := by rw [ByteArray.size_append]; omega
        go_wp2_with fail
        refine (unhide HE).mono ?_
        rintro e w5 ⟨rfl, hb5⟩
        have B5 : Below w2.heap.size w2 w5 := BC.trans (hb5.mono BC.size)
        clear HE hb5
        go_wp2_with fail
        refine ((unhide HAR) _ (B2.trans (B5.mono B2.size))).mono ?_
        rintro e w6 ⟨x, y, rfl, hw6⟩
        rw [hw6]
        clear hw6
        go_wp2_with fail
        go_roundg (l.length - (k + 1))
        case rel => exact ⟨k + 1, _, rfl, rfl, by go_num, by omega, by (show _ = _; rw [hn2.out]), B5⟩
        case measure => have := hg.out; omega
      | false =>
        by_cases hk0 : Ic.argK (op : Int) = 0
        · have hn2 : Hid (J.bytes (Ic.linesT l (k + 1)) = P ++ { data := #[10] }) := by
            show _ = _
            rw [unhide hline, (unhide hlb) hv hk0, hP.out, ← List.append_assoc, bytes_two]
            rfl
          rw [show (Ic.argK (op : Int) != 0) = false by rw [hk0]; rfl] at HAR
          clear hval hline hlv hla hlb hk0
          go_wp2_with fail
          refine ((unhide HAR) _ BWC).mono ?_
          rintro e w6 ⟨x, y, rfl, hw6⟩
          rw [hw6]
          clear hw6
          go_wp2_with fail
          go_roundg (l.length - (k + 1))
          case rel => exact ⟨k + 1, _, rfl, rfl, by go_num, by omega, by (show _ = _; rw [hn2.out]), BC⟩
          case measure => have := hg.out; omega
        · have HU := hide (l2Digits_any u (by omega))
          have hiu := Lib.itoa_length_le (u : Int) (by omega) (by omega)
          have huz : (⟨(Lib.decDigits u).toArray⟩ : ByteArray).size ≤ 21 := by rw [Ic.digits_itoa, J.bytes_size]; exact hiu
          have hn2 : Hid (J.bytes (Ic.linesT l (k + 1)) = ((P ++ { data := #[32] }) ++ ⟨(Lib.decDigits u).toArray⟩) ++ { data := #[10] }) := by
            show _ = _
            rw [unhide hline, (unhide hla) hv hk0, hP.out, Ic.digits_itoa, ← List.append_assoc, ← List.append_assoc, ← List.append_assoc, bytes_two, bytes_two, bytes_two]
            rfl
          rw [show (Ic.argK (op : Int) != 0) = true by simpa using hk0] at HAR
          clear hval hline hlv hla hlb hk0 hiu
          generalize (⟨(Lib.decDigits u).toArray⟩ : ByteArray) = E at *
          have hs4 : (P ++ { data := #[32] } : ByteArray).size ≤ 480600029 := by rw [ByteArray.size_append]; show _ + 1 ≤ _; omega
          have hs5 : ((P ++ { data := #[32] }) ++ E : ByteArray).size ≤ 480690029 := by rw [ByteArray.size_append]; omega
          go_wp2_with fail
          refine ((unhide HAR) _ BWC).mono ?_
          rintro e w6 ⟨x, y, rfl, hw6⟩
          rw [hw6]
          clear hw6
          go_wp2_with fail
          refine ((unhide HU) _).mono ?_
          rintro e w7 ⟨rfl, hb7⟩
          have B7 : Below w2.heap.size w2 w7 := BC.trans (hb7.mono BC.size)
          clear HU hb7
          go_wp2_with fail
          go_roundg (l.length - (k + 1))
          case rel => exact ⟨k + 1, _, rfl, rfl, by go_num, by omega, by (show _ = _; rw [hn2.out]), B7⟩
          case measure => have := hg.out; omega
    · have hge : ¬ (k : Int) < (l.length : Int) := by omega
      have hke : k = l.length := by omega
      have hq : Hid (J.bytes (Ic.linesT l l.length) = o) := by show _ = _; rw [ho.out, hke]
      rw [hq.out] at fin
      clear hke
      have r0 := hX.cell 0
      have r1 := hX.cell 1
      have z0 := hX.frozen 0
      have z1 := hX.frozen 1
      simp only [List.getElem?_cons_zero, List.getElem?_cons_succ] at r0 r1
      go_wp2_with fail
      refine bodyPost_ret (v := .agg #[.int .i64 0, .string o]) (by simp [results, Tryd.results21, go_sem, r0, r1]) rfl ⟨by rw [unhide fin], ?_⟩
      exact (BW.setCell (Nat.le_refl _) _).setCell (Nat.le_refl _) _

end Go.Proofs.YtfmljlhcaimafaaDoor
