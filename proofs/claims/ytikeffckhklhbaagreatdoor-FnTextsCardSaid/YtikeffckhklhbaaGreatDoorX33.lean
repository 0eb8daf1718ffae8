/-
  impl: an array.
-/
import Derived.Test.YtikeffckhklhbaaGreatDoorX21
import Derived.Test.YtikeffckhklhbaaGreatDoorX32
namespace Go.Proofs.YtikeffckhklhbaaGreatDoor
open Go.RowKit
set_option linter.unusedVariables false
set_option linter.unusedSimpArgs false

/-- What the program's loop over a list holds. -/
structure Am (rec : Nat → J.Rv) (s : ByteArray) (obj : Bool) (R : J.Rv) (w wr : World) (b d i g : Nat) (sk sl : Value) (ks : List ByteArray) (ps : List (List M.Cl)) : Prop where
  says : R = J.elemsR rec s obj (g + 1) (J.skip s i) ks ps
  fuel : s.size < g + 1 + i
  le : i ≤ s.size
  pl : J.Pl obj i ks ps
  vs : Vs w wr b s i d
  rows : Dc.Rw wr w.heap.size sk sl ks ps
/-- Behind an element. -/
structure At (rec : Nat → J.Rv) (s : ByteArray) (obj : Bool) (R : J.Rv) (i g : Nat) (ks : List ByteArray) (ps : List (List M.Cl)) : Prop where
  says : R = J.tailR rec s obj g i ks ps
  fuel : s.size < g + 1 + i
  le : i ≤ s.size
  pl : J.Pl obj i ks ps
theorem Am.next {rec : Nat → J.Rv} {s : ByteArray} {obj : Bool} {R : J.Rv} {w wr : World} {b d i g j e : Nat} {sk sl : Value} {ks key : List ByteArray} {ps : List (List M.Cl)} {v : List M.Cl} (h : Am rec s obj R w wr b d i g sk sl ks ps) (hh : J.headR s obj (J.skip s i) = .inr (key, j)) (hr : rec j = .inr (v, e)) (hf : J.Fit s j (.inr (v, e))) (hb : Bare v) : At rec s obj R (J.skip s e) g (ks ++ key) (ps ++ [v]) ∧ i < J.skip s e := by
  have f1 := J.headR_fit s obj (J.skip s i) (J.skip_le s i h.le)
  rw [hh] at f1
  obtain ⟨f2, f3, f4, f5⟩ := f1
  obtain ⟨e1, e2, e3, e4⟩ := hf
  have h1 := h.fuel
  have h3 := J.skip_ge s e
  have h4 := J.skip_ge s i
  exact ⟨⟨h.says.trans (J.elems_yes hh hr), by omega, J.skip_le s e e2, h.pl.next (by omega) ⟨e1, e2, e3, e4⟩ hb f5⟩, by omega⟩
theorem At.comma {rec : Nat → J.Rv} {s : ByteArray} {obj : Bool} {R : J.Rv} {w wr : World} {b d i g : Nat} {sk sl : Value} {ks : List ByteArray} {ps : List (List M.Cl)} (h : At rec s obj R i g ks ps) (hc : J.peek s i = 44) (hv : Vs w wr b s (i + 1) d) (hr : Dc.Rw wr w.heap.size sk sl ks ps) : ∃ g', Am rec s obj R w wr b d (i + 1) g' sk sl ks ps := by
  have h1 := h.fuel
  have h2 := J.peek_lt s i 44 (by decide) hc
  obtain ⟨g', rfl⟩ : ∃ g', g = g' + 1 := ⟨g - 1, by omega⟩
  exact ⟨g', h.says.trans (J.tail_comma hc), by omega, by omega, h.pl.mono (by omega), hv, hr⟩
theorem At.last {rec : Nat → J.Rv} {s : ByteArray} {obj : Bool} {R : J.Rv} {i g : Nat} {ks : List ByteArray} {ps : List (List M.Cl)} (h : At rec s obj R i g ks ps) (hc : J.peek s i = J.lastB obj) : R = .inr (J.madeV obj ks ps, i + 1) := h.says.trans (J.tail_last hc)
theorem At.no {rec : Nat → J.Rv} {s : ByteArray} {obj : Bool} {R : J.Rv} {i g : Nat} {ks : List ByteArray} {ps : List (List M.Cl)} (h : At rec s obj R i g ks ps) (hl : J.peek s i ≠ J.lastB obj) (hc : J.peek s i ≠ 44) : R = .inl (5, i) := h.says.trans (J.tail_no hl hc)

set_option maxRecDepth 100000 in
set_option maxHeartbeats 8000000 in
theorem array_any (rec : Nat → J.Rv) (b d : Nat) (s : ByteArray) (k : Nat) (w : World) (h : Rd w b 49 s k [.int .i64 (d : Int)]) (her : ErrCell w b) (hk : J.peek s k = 91) (hs : s.size ≤ 4000)
    (hval : ∀ j w, j ≤ s.size → Rd w b 49 s j [.int .i64 (d : Int)] → ErrCell w b → Calls Tryz.prog 37 #[.pointer (some ⟨b, 0, none⟩)] w (VLeft (J.skip s) (rec (J.skip s j)) w b s d))
    (hfit : ∀ j, j ≤ s.size → J.Fit s j (rec j)) (hbare : ∀ j v e, rec j = .inr (v, e) → Bare v) :
    Calls Tryz.prog 89 #[.pointer (some ⟨b, 0, none⟩)] w (VLeft id (J.manyR rec s false (J.skip s (k + 1))) w b s d) := by
  have hs' : s.size ≤ 1048576 := by omega
  have hlt := J.peek_lt s k 91 (by decide) hk
  have hbw := h.lt
  have V0 := Vs.start h
  have q1 := h.cell 1
  have z1 := h.frozen 1
  simp only [List.getElem?_cons_zero, List.getElem?_cons_succ] at q1
  have HVAL := hide hval
  have HFIT := hide hfit
  have HBARE := hide hbare
  have HER := hide her
  have hsk := J.skip_le s (k + 1) (by omega)
  have hskk := hide (J.skip_skip s (k + 1))
  obtain ⟨K, hK⟩ : ∃ K, K = J.skip s (k + 1) := ⟨_, rfl⟩
  rw [← hK] at hsk hskk
  have HML := hide (fun hl => J.many_last (rec := rec) (s := s) (obj := false) (i := J.skip s (k + 1)) hl)
  have HMG := hide (fun hl => J.many_go (rec := rec) (s := s) (obj := false) (i := J.skip s (k + 1)) hl)
  rw [← hK] at HML HMG
  rw [← hK]
  generalize J.manyR rec s false K = RR at *
  obtain ⟨i0, hi0, hz0, hz1, hz2⟩ := info_parts Tryz.info24
  obtain ⟨t0, ht0, hy0, hy1, hy2⟩ := info_parts Tryz.info9
  have V1 := V0.step
  clear hk hval hfit hbare her h V0
  go_enter Tryz.func89, Tryz.ntmps89
  go_wp2_with fail
  refine (skipBlanks_any b 49 s (k + 1) _ _ V1.rd (by omega) hs').mono ?_
  rintro e w1 ⟨rfl, hr1, ht1⟩
  rw [← hK] at hr1
  have V2 := V1.go hr1 ht1
  clear V1 hr1 ht1 q1 z1 hK
  by_cases hl : J.peek s K = 93
  · have fin := hide ((unhide HML) hl)
    go_wp2_with fail
    refine (take_yes b 49 s K 93 _ _ V2.rd hs' (by decide) hl).mono ?_
    rintro e w2 ⟨rfl, hr2, ht2⟩
    have V3 := V2.go hr2 ht2
    clear V2 hr2 ht2
    go_wp2_with fail
    refine (layArrayB_any none 0 [] _ (fun i hi => by simp at hi) (Nat.le_refl _) (by simp) (by simp [tot]) (fun j hj => by simp at hj)).mono ?_
    rintro e w3 ⟨sv, rfl, hr3, hb3⟩
    have V4 := V3.below hb3
    have hr4 := hr3.mono V3.tch.size
    obtain ⟨a9, n9, c9, rfl⟩ := hr3.shape
    clear V3 hr3 hb3
    go_wp2_with fail
    go_ret2
    exact .inl ⟨_, _, _, unhide fin, rfl, hr4, V4⟩
  · have HS := hide ((unhide HMG) hl)
    go_wp2_with fail
    refine (take_no b 49 s K 93 _ _ V2.rd hsk hs' hl).mono ?_
    rintro e w2 ⟨rfl, q2, hw2⟩
    have V3 : Vs w w2 b s K d := by rw [hw2]; exact V2.drewN q2
    have H0 := hide (show Am rec s false RR w w2 b d K s.size (.slice none 0 0) (.slice none 0 0) [] [] from ⟨by rw [unhide hskk]; exact unhide HS, by omega, hsk, J.Pl.start _ _, V3, ⟨Dc.ks_nil _ _, SS.nil _ _⟩⟩)
    clear V2 hw2 HS HML HMG V3
    go_wp2_with fail
    go_loopg [4] (s.size + 1 - K) (fun gh s4 wr => ∃ (i g : Nat) (ks : List ByteArray) (ps : List (List M.Cl)), Hid (gh = s.size + 1 - i) ∧ Hid (Am rec s false RR w wr b d i g (.slice none 0 0) s4 ks ps))
    case atStart => exact ⟨K, s.size, [], [], rfl, unhide H0⟩
    case round =>
      obtain ⟨i, g, ks, ps, hg, HM⟩ := hrel
      have hle := (unhide HM).le
      clear H0
      go_wp2_with fail
      refine ((unhide HVAL) i _ hle ((unhide HM).vs).rd (((unhide HM).vs).err (unhide HER))).mono ?_
      rintro e w5 hS
      rcases hS with ⟨v, m, sv, hq, rfl, hr, hv5⟩ | ⟨c, m, q, a5, n5, c5, hq, rfl, hqs, hv5⟩
      · have hfit := (unhide HFIT) (J.skip s i) (J.skip_le s i hle)
        rw [hq] at hfit
        obtain ⟨TA, hlt⟩ := (unhide HM).next (J.head_arr s (J.skip s i)) hq hfit ((unhide HBARE) _ _ _ hq)
        rw [List.append_nil] at TA
        have T7 := hide TA
        have V5 := (unhide HM).vs.trans hv5
        have R5 := (unhide HM).rows.tch hv5.tch (Nat.le_refl _) hbw
        have hr5 : Res w5 w.heap.size sv v := hr.mono (unhide HM).vs.tch.size
        have hpl0 := (unhide HM).pl.len
        obtain ⟨P, hP⟩ : ∃ P, P = J.skip s m := ⟨_, rfl⟩
        rw [← hP] at T7 V5 hlt
        obtain ⟨a5, n5, c5, rfl⟩ := hr.shape
        clear hr hfit hq hv5 TA HM hP
        obtain ⟨ss, hsl, hown, hres⟩ := (R5).list
        have hown' := hide (fun o => hown.alloc o)
        have hbse := hide (ownsRow_base hown)
        have hone := hide (one_val w5 (.slice a5 n5 c5) 24)
        have honep := hide (one_plain' a5 n5 c5)
        have HRN := hide (fun (W : World) v' o (hg : (w5.alloc o).grownBy W u4.ownBlock) ho => (R5).part (v' := v') hsl hown hres hr5 hg ho)
        have HVN := hide (fun (W : World) o (hg : (w5.alloc o).grownBy W u4.ownBlock) => ((V5).alloc o).grown hbw hg (unhide hbse))
        have hb63 : ps.length + 1 ≤ maxLen := by unfold maxLen; omega
        have hby : (ps.length + 1) * 24 ≤ 140737488355328 := by omega
        have hsz5 := (V5).tch.size
        clear hown hres hr5 hsl
        go_wp2_with (at_builtin; refine wpList_append_own _ rfl (.tmp 37) (.tmp 39) 108 rfl w.heap.size 24 i0 (.slice none 0 0) 1 24 Tryz.underlying108 hi0 hz0 hz1 hz2 rfl (by decide) _ ps.length ss rfl ((unhide hown') _) ⟨w5.heap.size, 0, none⟩ 1 1 [.slice a5 n5 c5] rfl rfl (unhide hone) (unhide honep) hb63 hby (by simp; omega) ?_)
        intro v7 w7 ho7 hg7 _
        have R7 := hide ((unhide HRN) w7 v7 _ hg7 ho7)
        have V7 := hide ((unhide HVN) w7 _ hg7)
        clear ho7 hg7 HRN HVN hown' hone honep hbse
        obtain ⟨ps2, hps2⟩ : ∃ q, q = ps ++ [v] := ⟨_, rfl⟩
        rw [← hps2] at T7 R7
        clear hps2
        by_cases hl : J.peek s P = 93
        · have fin := hide ((unhide T7).last hl)
          have hbare := (unhide T7).pl.bare
          have hpl1 := (unhide T7).pl.len
          have hpl2 := (unhide T7).pl.tot
          have hple := (unhide T7).le
          go_wp2_with fail
          refine (take_yes b 49 s P 93 _ _ (unhide V7).rd hs' (by decide) hl).mono ?_
          rintro e w8 ⟨rfl, hr8, ht8⟩
          have V8 := (unhide V7).go hr8 ht8
          have R8 := (unhide R7).tch ht8 (Nat.le_refl _) hbw
          obtain ⟨la, lc, hla, hlc, hlv⟩ := R8.list.lv (Dc.bare_ne hbare)
          have HC := hide (layArrayB_any la lc _ _ hlv hlc (by omega) (by omega) hbare)
          have h8 := V8.tch.size
          subst hla
          clear hlv hbare R8 hr8 ht8 V7 R7 T7
          go_wp2_with fail
          refine (unhide HC).mono ?_
          rintro e w9 ⟨sv, rfl, hr9, hb9⟩
          have V9 := V8.below hb9
          have hr99 := hr9.mono h8
          obtain ⟨a9, n9, c9, rfl⟩ := hr9.shape
          clear hr9 hb9 V8 HC
          go_wp2_with fail
          go_ret2
          exact .inl ⟨_, _, _, unhide fin, rfl, hr99, V9⟩
        · have hnl : J.peek s P ≠ J.lastB false := hl
          have hple := (unhide T7).le
          go_wp2_with fail
          refine (take_no b 49 s P 93 _ _ (unhide V7).rd hple hs' hl).mono ?_
          rintro e w8 ⟨rfl, q8, hw8⟩
          have V8 : Vs w w8 b s P d := by rw [hw8]; exact (unhide V7).drewN q8
          have T8 : Tch w7.heap.size b w7 w8 := by rw [hw8]; exact (Tch.refl _ _ _).drewN q8
          have R8 := (unhide R7).tch T8 (Nat.le_refl _) hbw
          clear hw8 V7 R7 T8
          by_cases hcm : J.peek s P = 44
          · go_wp2_with fail
            refine (take_yes b 49 s P 44 _ _ V8.rd hs' (by decide) hcm).mono ?_
            rintro e w9 ⟨rfl, hr9, ht9⟩
            have V9 := V8.go hr9 ht9
            have R9 := R8.tch ht9 (Nat.le_refl _) hbw
            obtain ⟨g2, H9⟩ := (unhide T7).comma hcm V9 R9
            have H9 := hide H9
            clear V8 R8 hr9 ht9 V9 R9 T7
            go_wp2_with fail
            go_roundg (s.size + 1 - (P + 1))
            case rel => exact ⟨P + 1, g2, _, _, rfl, unhide H9⟩
            case measure => have := hg.out; omega
          · have fin := hide ((unhide T7).no hnl hcm)
            go_wp2_with fail
            refine (take_no b 49 s P 44 _ _ V8.rd hple hs' hcm).mono ?_
            rintro e w9 ⟨rfl, q9, hw9⟩
            have V9 : Vs w w9 b s P d := by rw [hw9]; exact V8.drewN q9
            clear hw9 V8 R8
            go_wp2_with fail
            refine (stuck_any b 49 s P _ _ V9.rd).mono ?_
            rintro e wa ⟨rfl, hra, hta⟩
            have VA := V9.go hra hta
            clear V9 hra hta
            go_wp2_with fail
            go_ret2
            exact .inr ⟨5, P, P, none, 0, 0, unhide fin, rfl, hple, VA⟩
      · have fin := hide ((unhide HM).says.trans (J.elems_rec_no (J.head_arr s (J.skip s i)) hq))
        have V5 := (unhide HM).vs.trans hv5
        clear hv5 hq HM
        go_wp2_with fail
        go_ret2
        exact .inr ⟨c, m, q, none, 0, 0, unhide fin, rfl, hqs, V5⟩

end Go.Proofs.YtikeffckhklhbaaGreatDoor
