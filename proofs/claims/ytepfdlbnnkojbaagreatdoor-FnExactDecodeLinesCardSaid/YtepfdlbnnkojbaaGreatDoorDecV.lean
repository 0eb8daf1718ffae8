/-
  spec.l2Many of an array.
-/
import Derived.Test.YtepfdlbnnkojbaaGreatDoorDecL
import Derived.Test.YtepfdlbnnkojbaaGreatDoorDeiO
import Derived.Test.YtepfdlbnnkojbaaGreatDoorDecS
namespace Go.Proofs.YtepfdlbnnkojbaaGreatDoor
open Go.RowKit
set_option linter.unusedVariables false
set_option linter.unusedSimpArgs false


/-- What the model's loop over a list holds. -/
structure Mn (rec : Nat → J.Rv) (s : ByteArray) (obj fst : Bool) (R : J.Rv) (w wr : World) (i g : Nat) (sk sl : Value) (ks : List ByteArray) (ps : List (List M.Cl)) : Prop where
  says : R = J.headS rec s obj fst g i ks ps
  fuel : s.size < g + i
  le : i ≤ s.size
  pl : J.Pl obj i ks ps
  bel : Below w.heap.size w wr
  own : Own wr w.heap.size 36 [.slice none 0 0, .string ByteArray.empty, .int .i64 0, .int .i64 0, .int .i64 0]
  rows : Dc.Rw wr w.heap.size sk sl ks ps
/-- Ahead of an element. -/
structure Me (rec : Nat → J.Rv) (s : ByteArray) (obj : Bool) (R : J.Rv) (w wr : World) (i g : Nat) (sk sl : Value) (ks : List ByteArray) (ps : List (List M.Cl)) : Prop where
  says : R = J.elemsR rec s obj (g + 1) i ks ps
  fuel : s.size < g + 1 + i
  le : i ≤ s.size
  pl : J.Pl obj i ks ps
  bel : Below w.heap.size w wr
  own : Own wr w.heap.size 36 [.slice none 0 0, .string ByteArray.empty, .int .i64 0, .int .i64 0, .int .i64 0]
  rows : Dc.Rw wr w.heap.size sk sl ks ps
theorem Mn.first {rec : Nat → J.Rv} {s : ByteArray} {obj : Bool} {R : J.Rv} {w wr : World} {i g : Nat} {sk sl : Value} {ks : List ByteArray} {ps : List (List M.Cl)} (h : Mn rec s obj true R w wr i g sk sl ks ps) (hl : J.peek s i ≠ J.lastB obj) : ∃ g', g = g' + 1 ∧ Me rec s obj R w wr i g' sk sl ks ps := by
  have h1 := h.fuel
  have h2 := h.le
  obtain ⟨g', rfl⟩ : ∃ g', g = g' + 1 := ⟨g - 1, by omega⟩
  exact ⟨g', rfl, h.says.trans (J.headS_first hl), h1, h2, h.pl, h.bel, h.own, h.rows⟩
theorem Mn.comma {rec : Nat → J.Rv} {s : ByteArray} {obj : Bool} {R : J.Rv} {w wr : World} {i g : Nat} {sk sl : Value} {ks : List ByteArray} {ps : List (List M.Cl)} (h : Mn rec s obj false R w wr i g sk sl ks ps) (hc : J.peek s i = 44) : ∃ g', g = g' + 1 ∧ Me rec s obj R w wr (J.skip s (i + 1)) g' sk sl ks ps := by
  have h1 := h.fuel
  have h0 := h.le
  have h2 := J.peek_lt s i 44 (by decide) hc
  have h3 := J.skip_ge s (i + 1)
  have h4 := J.skip_le s (i + 1) (by omega)
  obtain ⟨g', rfl⟩ : ∃ g', g = g' + 1 := ⟨g - 1, by omega⟩
  exact ⟨g', rfl, h.says.trans (show J.tailR rec s obj (g' + 1) i ks ps = _ from J.tail_comma hc), by omega, h4, h.pl.mono (by omega), h.bel, h.own, h.rows⟩
theorem Mn.last {rec : Nat → J.Rv} {s : ByteArray} {obj fst : Bool} {R : J.Rv} {w wr : World} {i g : Nat} {sk sl : Value} {ks : List ByteArray} {ps : List (List M.Cl)} (h : Mn rec s obj fst R w wr i g sk sl ks ps) (hl : J.peek s i = J.lastB obj) : R = .inr (J.madeV obj ks ps, i + 1) := h.says.trans (J.headS_last hl)
theorem Mn.no {rec : Nat → J.Rv} {s : ByteArray} {obj : Bool} {R : J.Rv} {w wr : World} {i g : Nat} {sk sl : Value} {ks : List ByteArray} {ps : List (List M.Cl)} (h : Mn rec s obj false R w wr i g sk sl ks ps) (hl : J.peek s i ≠ J.lastB obj) (hc : J.peek s i ≠ 44) : R = .inl (5, i) := h.says.trans (show J.tailR rec s obj g i ks ps = _ from J.tail_no hl hc)
theorem Me.next {rec : Nat → J.Rv} {s : ByteArray} {obj : Bool} {R : J.Rv} {w wr w2 : World} {i g j e : Nat} {sk sl sk2 sl2 : Value} {ks key : List ByteArray} {ps : List (List M.Cl)} {v : List M.Cl} (h : Me rec s obj R w wr i g sk sl ks ps) (hh : J.headR s obj i = .inr (key, j)) (hr : rec j = .inr (v, e)) (hf : J.Fit s j (.inr (v, e))) (hb : Bare v) (hbel : Below w.heap.size w w2) (hown : Own w2 w.heap.size 36 [.slice none 0 0, .string ByteArray.empty, .int .i64 0, .int .i64 0, .int .i64 0]) (hrows : Dc.Rw w2 w.heap.size sk2 sl2 (ks ++ key) (ps ++ [v])) : Mn rec s obj false R w w2 (J.skip s e) g sk2 sl2 (ks ++ key) (ps ++ [v]) := by
  have f1 := J.headR_fit s obj i h.le
  rw [hh] at f1
  obtain ⟨f2, f3, f4, f5⟩ := f1
  obtain ⟨e1, e2, e3, e4⟩ := hf
  have h1 := h.fuel
  have h3 := J.skip_ge s e
  exact ⟨h.says.trans (J.elems_yes hh hr), by omega, J.skip_le s e e2, h.pl.next f2 ⟨e1, e2, e3, e4⟩ hb f5, hbel, hown, hrows⟩

set_option maxRecDepth 100000 in
set_option maxHeartbeats 8000000 in
theorem l2Arr_any (rec : Nat → J.Rv) (s : ByteArray) (k d : Nat) (w : World) (hk : J.peek s k = 91) (hs : s.size ≤ 4000) (hd : d ≤ 20)
    (hrec : ∀ j w, j ≤ s.size → Calls Tryz.prog 15 #[.string s, .int .i64 (j : Int), .int .i64 ((d : Int) + 1)] w fun e w' => RvSaid (rec j) w.heap.size e w' ∧ Below w.heap.size w w')
    (hfit : ∀ j, j ≤ s.size → J.Fit s j (rec j)) (hbare : ∀ j v e, rec j = .inr (v, e) → Bare v) :
    Calls Tryz.prog 29 #[.string s, .int .i64 k, .int .i64 d] w fun e w' => RvSaid (J.manyR rec s false (J.skip s (k + 1))) w.heap.size e w' ∧ Below w.heap.size w w' := by
  obtain ⟨w0, hw0⟩ : ∃ w0, w0 = w.alloc (.cells #[.slice none 0 0, .string ByteArray.empty, .int .i64 0, .int .i64 0, .int .i64 0] 36) := ⟨_, rfl⟩
  have B0 : Below w.heap.size w w0 := by rw [hw0]; exact (Below.refl _ _).alloc (Nat.le_refl _) _
  have O0 : Own w0 w.heap.size 36 [.slice none 0 0, .string ByteArray.empty, .int .i64 0, .int .i64 0, .int .i64 0] := by rw [hw0]; exact ⟨_, heap_alloc_new _ _, rfl⟩
  have HSZ := hide (show w0.heap.size = w.heap.size + 1 by rw [hw0, World.size_alloc])
  have hlt := J.peek_lt s k 91 (by decide) hk
  have hs' : s.size ≤ 1048576 := by omega
  have hltz : (k : Int) < (s.size : Int) := by omega
  have hcb : ((s[k].toNat : Int) == 123) = false := by rw [← J.peek_in s k hlt, hk]; rfl
  have HREC := hide hrec
  have HFIT := hide hfit
  have HBARE := hide hbare
  have HSK0 := hide (fun w => l2Skip_any s (k + 1) w (by omega) hs')
  have hsk0 := J.skip_le s (k + 1) (by omega)
  have HR0 := hide (J.headS_start rec s false (J.skip s (k + 1)))
  generalize J.manyR rec s false (J.skip s (k + 1)) = RR at *
  obtain ⟨i0, hi0, hz0, hz1, hz2⟩ := info_parts Tryz.info22
  obtain ⟨t0, ht0, hy0, hy1, hy2⟩ := info_parts Tryz.info9
  clear hk hrec hfit hbare
  go_enter Tryz.func29, Tryz.ntmps29
  go_wp2_with fail
  try (rw [show (w.alloc (.cells #[.slice none 0 0, .string { data := #[] }, .int .i64 0, .int .i64 0, .int .i64 0] 36)) = w0 from hw0.symm])
  clear hw0
  refine ((unhide HSK0) _).mono ?_
  rintro e wk ⟨rfl, hwk⟩
  rw [hwk]
  clear hwk HSK0
  go_wp2_with fail
  go_loopg [9, 10, 11, 12] (s.size + 1 - J.skip s (k + 1)) (fun gh s9 s10 s11 s12 wr => ∃ (i g : Nat) (fst : Bool) (ks : List ByteArray) (ps : List (List M.Cl)), Hid (gh = s.size + 1 - i) ∧ s11 = .int .i64 i ∧ s12 = .bool fst ∧ Hid (Mn rec s false fst RR w wr i g s9 s10 ks ps))
  case atStart =>
    refine ⟨J.skip s (k + 1), s.size + 1, true, [], [], rfl, rfl, rfl, ⟨unhide HR0, by omega, hsk0, J.Pl.start _ _, ?_, ?_, ⟨Dc.ks_alloc (Dc.ks_empty _ _ _ (unhide HSZ).symm (by omega)) _, SS.empty _ _ _ (by rw [World.size_alloc, unhide HSZ]) (by omega)⟩⟩⟩
    · exact (B0.alloc B0.size _).alloc (by rw [World.size_alloc, unhide HSZ]; omega) _
    · exact (O0.alloc _).alloc _
  case round =>
    obtain ⟨i, g, fst, ks, ps, hg, rfl, rfl, HM⟩ := hrel
    have hle := (unhide HM).le
    clear HR0 B0 O0 hsk0
    by_cases hlast : J.peek s i = 93
    · have hlast : J.peek s i = J.lastB false := hlast
      have fin := hide ((unhide HM).last hlast)
      have hlt := J.peek_lt s i 93 (by decide) hlast
      have hgez : ¬ (s.size : Int) ≤ (i : Int) := by omega
      have hltz : (i : Int) < (s.size : Int) := by omega
      have hcb : ((s[i].toNat : Int) != 93) = false := by rw [← J.peek_in s i hlt, hlast]; rfl
      have hpl := (unhide HM).pl
      have hbare := hpl.bare
      have hpl1 := hpl.len
      have hpl2 := hpl.tot
      obtain ⟨la, lc, hla, hlc, hlv⟩ := (unhide HM).rows.list.lv (Dc.bare_ne hbare)
      have OM := (unhide HM).own
      have BM := (unhide HM).bel
      have HC := hide (l1ArrayB_any la lc ps _ hlv hlc (by omega) (by omega) hbare)
      subst hla
      clear hlv hlast hpl hbare HM
      go_wp2_with fail
      refine (unhide HC).mono ?_
      rintro e wB ⟨sv, rfl, hr, hbB⟩
      have BB : Below w.heap.size w wB := BM.trans (hbB.mono BM.size)
      have OB := OM.below hbB OM.lt
      have hleB := BB.size
      have FR := hide (fun x0 x1 x2 x3 x4 => (hr.sets5 OM.lt x0 x1 x2 x3 x4).mono BM.size)
      obtain ⟨a, n, cp, rfl⟩ := hr.shape
      clear hr HC
      have c0 := OB.cell 0
      have c1 := OB.cell 1
      have c2 := OB.cell 2
      have c3 := OB.cell 3
      have c4 := OB.cell 4
      simp only [List.getElem?_cons_zero, List.getElem?_cons_succ] at c0 c1 c2 c3 c4
      have z0 := OB.frozen 0
      have z1 := OB.frozen 1
      have z2 := OB.frozen 2
      have z3 := OB.frozen 3
      have z4 := OB.frozen 4
      go_wp2_with fail
      refine bodyPost_ret (v := .agg #[.slice a n cp, .string ByteArray.empty, .int .i64 ((i : Int) + 1), .int .i64 0, .int .i64 0]) (by simp [results, Tryz.results29, go_sem, c0, c1, c2, c3, c4]; try rfl) rfl ⟨.inl ⟨_, i + 1, _, _, unhide fin, rfl, (unhide FR) _ _ _ _ _⟩, ?_⟩
      repeat (first | exact BB | refine Below.setCell ?_ (by simp <;> omega) _ | refine Below.alloc ?_ (by first | exact hleB | (simp <;> omega)) _)
    · have hnl : J.peek s i ≠ J.lastB false := hlast
      cases fst with
      | true =>
        obtain ⟨g', hg', HE⟩ := (unhide HM).first hnl
        have HE := hide HE
        clear hg' HM hnl
        by_cases hlt : i < s.size
        · have hgez : ¬ (s.size : Int) ≤ (i : Int) := by omega
          have hltz : (i : Int) < (s.size : Int) := by omega
          have hcb : ((s[i].toNat : Int) != 93) = true := by rw [← J.peek_in s i hlt]; simpa using hlast
          clear hlast
          have BE := (unhide HE).bel
          have OE := (unhide HE).own
          have RE := (unhide HE).rows
          have hpl1 := (unhide HE).pl.len
          go_wp2_with fail
          refine ((unhide HREC) i _ hle).mono ?_
          rintro e w5 ⟨hS, hb5⟩
          have B5 : Below w.heap.size w w5 := BE.trans (hb5.mono BE.size)
          have O5 := OE.below hb5 OE.lt
          have R5 := RE.below hb5
          rcases hS with ⟨v, e5, sv, tx, hq, rfl, hr⟩ | ⟨c, m9, hq, rfl⟩
          · have hfit := (unhide HFIT) i hle
            rw [hq] at hfit
            have he5 := hfit.2.1
            have HN := hide (fun (W : World) sk2 sl2 hbel hown hrows => (unhide HE).next (w2 := W) (sk2 := sk2) (sl2 := sl2) (J.head_arr s i) hq hfit ((unhide HBARE) _ _ _ hq) hbel hown hrows)
            have HSK := hide (fun w => l2Skip_any s e5 w he5 hs')
            have hr5 := hr.mono BE.size
            have hge5 : i < e5 := by have := hfit.1; omega
            have hsk5 := J.skip_ge s e5
            obtain ⟨a5, n5, c5, rfl⟩ := hr.shape
            clear hr hfit hq
            have OR : Own (w5.alloc (.cells #[.slice a5 n5 c5, .string tx, .int .i64 (e5 : Int), .int .i64 0, .int .i64 0] 36)) w5.heap.size 36 [.slice a5 n5 c5, .string tx, .int .i64 (e5 : Int), .int .i64 0, .int .i64 0] := ⟨_, heap_alloc_new _ _, rfl⟩
            have B6 : Below w.heap.size w (w5.alloc (.cells #[.slice a5 n5 c5, .string tx, .int .i64 (e5 : Int), .int .i64 0, .int .i64 0] 36)) := B5.alloc B5.size _
            have O6 : Own (w5.alloc (.cells #[.slice a5 n5 c5, .string tx, .int .i64 (e5 : Int), .int .i64 0, .int .i64 0] 36)) w.heap.size 36 [.slice none 0 0, .string ByteArray.empty, .int .i64 0, .int .i64 0, .int .i64 0] := O5.alloc _
            have R6 : Dc.Rw (w5.alloc (.cells #[.slice a5 n5 c5, .string tx, .int .i64 (e5 : Int), .int .i64 0, .int .i64 0] 36)) w.heap.size u9 u10 (ks ++ []) ps := by first | exact R5.alloc _ | (rw [List.append_nil]; exact R5.alloc _)
            have hr6 : Res (w5.alloc (.cells #[.slice a5 n5 c5, .string tx, .int .i64 (e5 : Int), .int .i64 0, .int .i64 0] 36)) w.heap.size (.slice a5 n5 c5) v := hr5.alloc _
            obtain ⟨ss, hsl, hown, hres⟩ := R6.list
            have hown' := hide (fun o => hown.alloc o)
            have hbse := hide (ownsRow_base hown)
            have hone := one_val (w5.alloc (.cells #[.slice a5 n5 c5, .string tx, .int .i64 (e5 : Int), .int .i64 0, .int .i64 0] 36)) (.slice a5 n5 c5) 22
            rw [World.size_alloc] at hone
            have hone := hide hone
            have honep := hide (one_plain' a5 n5 c5)
            have HNX := hide (fun (W : World) v' o (hg : ((w5.alloc (.cells #[.slice a5 n5 c5, .string tx, .int .i64 (e5 : Int), .int .i64 0, .int .i64 0] 36)).alloc o).grownBy W u10.ownBlock) ho hbel => (unhide HN) W _ v' hbel (grown_own hg (O6.alloc o) (other_block (hown.alloc o) (O6.alloc o) (by decide))) (R6.part (v' := v') hsl hown hres hr6 hg ho))
            have HOR := hide (fun (W : World) o (hg : ((w5.alloc (.cells #[.slice a5 n5 c5, .string tx, .int .i64 (e5 : Int), .int .i64 0, .int .i64 0] 36)).alloc o).grownBy W u10.ownBlock) => grown_own hg (OR.alloc o) (other_block (hown.alloc o) (OR.alloc o) (by decide)))
            have hb63 : ps.length + 1 ≤ maxLen := by unfold maxLen; omega
            have hby : (ps.length + 1) * 24 ≤ 140737488355328 := by omega
            have hsz6 := B5.size
            clear hb5 B5 O5 R5 hr5 hr6 R6 O6 hown hres HN hsl
            go_wp2_with (at_builtin; refine wpList_append_own _ rfl (.tmp 81) (.tmp 84) 29 rfl w.heap.size 22 i0 (.slice none 0 0) 1 24 Tryz.underlying29 hi0 hz0 hz1 hz2 rfl (by decide) _ ps.length ss rfl ((unhide hown') _) ⟨w5.heap.size + 1, 0, none⟩ 1 1 [.slice a5 n5 c5] rfl rfl (unhide hone) (unhide honep) hb63 hby (by simp; omega) ?_)
            intro v7 w7 ho7 hg7 _
            have B7 : Below w.heap.size w w7 := (B6.alloc B6.size _).grown hg7 (by simp; omega) (unhide hbse)
            have H7 := hide ((unhide HNX) w7 v7 _ hg7 ho7 B7)
            have O7 := (unhide HOR) w7 _ hg7
            have q2 := O7.cell 2
            simp only [List.getElem?_cons_zero, List.getElem?_cons_succ] at q2
            clear ho7 hg7 HNX HOR hown' hone honep OR B6
            go_wp2_with fail
            refine ((unhide HSK) _).mono ?_
            rintro e wk ⟨rfl, hwk⟩
            rw [hwk]
            clear hwk HSK
            go_wp2_with fail
            go_roundg (s.size + 1 - J.skip s e5)
            case rel => exact ⟨J.skip s e5, g', false, _, _, rfl, rfl, rfl, unhide H7⟩
            case measure => have := hg.out; omega
          · have fin := hide ((unhide HE).says.trans (J.elems_rec_no (J.head_arr s i) hq))
            have hc0 : (c != 0) = true := by have := (unhide HFIT) i hle; rw [hq] at this; simpa using this.1
            have OA := O5.below ((Below.refl _ _).alloc (Nat.le_refl _) (.cells #[.slice none 0 0, .string ByteArray.empty, .int .i64 0, .int .i64 c, .int .i64 (m9 : Int)] 36)) O5.lt
            have hleB := B5.size
            have c0 := OA.cell 0
            have c1 := OA.cell 1
            have c2 := OA.cell 2
            have c3 := OA.cell 3
            have c4 := OA.cell 4
            simp only [List.getElem?_cons_zero, List.getElem?_cons_succ] at c0 c1 c2 c3 c4
            have z0 := OA.frozen 0
            have z1 := OA.frozen 1
            have z2 := OA.frozen 2
            have z3 := OA.frozen 3
            have z4 := OA.frozen 4
            go_wp2_with fail
            refine bodyPost_ret (v := .agg #[.slice none 0 0, .string ByteArray.empty, .int .i64 0, .int .i64 c, .int .i64 (m9 : Int)]) (by simp [results, Tryz.results29, go_sem, c0, c1, c2, c3, c4]; try rfl) rfl ⟨.inr ⟨c, m9, unhide fin, rfl⟩, ?_⟩
            repeat (first | exact B5 | refine Below.setCell ?_ (by simp <;> omega) _ | refine Below.alloc ?_ (by first | exact hleB | (simp <;> omega)) _)
        · have hgez : (s.size : Int) ≤ (i : Int) := by omega
          clear hlast
          have BE := (unhide HE).bel
          have OE := (unhide HE).own
          have RE := (unhide HE).rows
          have hpl1 := (unhide HE).pl.len
          go_wp2_with fail
          refine ((unhide HREC) i _ hle).mono ?_
          rintro e w5 ⟨hS, hb5⟩
          have B5 : Below w.heap.size w w5 := BE.trans (hb5.mono BE.size)
          have O5 := OE.below hb5 OE.lt
          have R5 := RE.below hb5
          rcases hS with ⟨v, e5, sv, tx, hq, rfl, hr⟩ | ⟨c, m9, hq, rfl⟩
          · have hfit := (unhide HFIT) i hle
            rw [hq] at hfit
            have he5 := hfit.2.1
            have hd5 := hfit.1
            omega
          · have fin := hide ((unhide HE).says.trans (J.elems_rec_no (J.head_arr s i) hq))
            have hc0 : (c != 0) = true := by have := (unhide HFIT) i hle; rw [hq] at this; simpa using this.1
            have OA := O5.below ((Below.refl _ _).alloc (Nat.le_refl _) (.cells #[.slice none 0 0, .string ByteArray.empty, .int .i64 0, .int .i64 c, .int .i64 (m9 : Int)] 36)) O5.lt
            have hleB := B5.size
            have c0 := OA.cell 0
            have c1 := OA.cell 1
            have c2 := OA.cell 2
            have c3 := OA.cell 3
            have c4 := OA.cell 4
            simp only [List.getElem?_cons_zero, List.getElem?_cons_succ] at c0 c1 c2 c3 c4
            have z0 := OA.frozen 0
            have z1 := OA.frozen 1
            have z2 := OA.frozen 2
            have z3 := OA.frozen 3
            have z4 := OA.frozen 4
            go_wp2_with fail
            refine bodyPost_ret (v := .agg #[.slice none 0 0, .string ByteArray.empty, .int .i64 0, .int .i64 c, .int .i64 (m9 : Int)]) (by simp [results, Tryz.results29, go_sem, c0, c1, c2, c3, c4]; try rfl) rfl ⟨.inr ⟨c, m9, unhide fin, rfl⟩, ?_⟩
            repeat (first | exact B5 | refine Below.setCell ?_ (by simp <;> omega) _ | refine Below.alloc ?_ (by first | exact hleB | (simp <;> omega)) _)
      | false =>
        by_cases hcom : J.peek s i = 44
        · obtain ⟨g', hg', HE⟩ := (unhide HM).comma hcom
          have HE := hide HE
          have hlt := J.peek_lt s i 44 (by decide) hcom
          have hgez : ¬ (s.size : Int) ≤ (i : Int) := by omega
          have hltz : (i : Int) < (s.size : Int) := by omega
          have hcb : ((s[i].toNat : Int) != 93) = true := by rw [← J.peek_in s i hlt]; simpa using hlast
          have hcc : ((s[i].toNat : Int) != 44) = false := by rw [← J.peek_in s i hlt, hcom]; rfl
          have HSKi := hide (fun w => l2Skip_any s (i + 1) w (by omega) hs')
          have hle2 := J.skip_le s (i + 1) (by omega)
          have hge2 := J.skip_ge s (i + 1)
          obtain ⟨i2, hi2⟩ : ∃ i2, i2 = J.skip s (i + 1) := ⟨_, rfl⟩
          rw [← hi2] at HE HSKi hle2 hge2
          clear hg' HM hnl hlast hcom hi2
          go_wp2_with fail
          refine ((unhide HSKi) _).mono ?_
          rintro e wk ⟨rfl, hwk⟩
          rw [hwk]
          clear hwk HSKi
          have BE := (unhide HE).bel
          have OE := (unhide HE).own
          have RE := (unhide HE).rows
          have hpl1 := (unhide HE).pl.len
          go_wp2_with fail
          refine ((unhide HREC) i2 _ hle2).mono ?_
          rintro e w5 ⟨hS, hb5⟩
          have B5 : Below w.heap.size w w5 := BE.trans (hb5.mono BE.size)
          have O5 := OE.below hb5 OE.lt
          have R5 := RE.below hb5
          rcases hS with ⟨v, e5, sv, tx, hq, rfl, hr⟩ | ⟨c, m9, hq, rfl⟩
          · have hfit := (unhide HFIT) i2 hle2
            rw [hq] at hfit
            have he5 := hfit.2.1
            have HN := hide (fun (W : World) sk2 sl2 hbel hown hrows => (unhide HE).next (w2 := W) (sk2 := sk2) (sl2 := sl2) (J.head_arr s i2) hq hfit ((unhide HBARE) _ _ _ hq) hbel hown hrows)
            have HSK := hide (fun w => l2Skip_any s e5 w he5 hs')
            have hr5 := hr.mono BE.size
            have hge5 : i < e5 := by have := hfit.1; omega
            have hsk5 := J.skip_ge s e5
            obtain ⟨a5, n5, c5, rfl⟩ := hr.shape
            clear hr hfit hq
            have OR : Own (w5.alloc (.cells #[.slice a5 n5 c5, .string tx, .int .i64 (e5 : Int), .int .i64 0, .int .i64 0] 36)) w5.heap.size 36 [.slice a5 n5 c5, .string tx, .int .i64 (e5 : Int), .int .i64 0, .int .i64 0] := ⟨_, heap_alloc_new _ _, rfl⟩
            have B6 : Below w.heap.size w (w5.alloc (.cells #[.slice a5 n5 c5, .string tx, .int .i64 (e5 : Int), .int .i64 0, .int .i64 0] 36)) := B5.alloc B5.size _
            have O6 : Own (w5.alloc (.cells #[.slice a5 n5 c5, .string tx, .int .i64 (e5 : Int), .int .i64 0, .int .i64 0] 36)) w.heap.size 36 [.slice none 0 0, .string ByteArray.empty, .int .i64 0, .int .i64 0, .int .i64 0] := O5.alloc _
            have R6 : Dc.Rw (w5.alloc (.cells #[.slice a5 n5 c5, .string tx, .int .i64 (e5 : Int), .int .i64 0, .int .i64 0] 36)) w.heap.size u9 u10 (ks ++ []) ps := by first | exact R5.alloc _ | (rw [List.append_nil]; exact R5.alloc _)
            have hr6 : Res (w5.alloc (.cells #[.slice a5 n5 c5, .string tx, .int .i64 (e5 : Int), .int .i64 0, .int .i64 0] 36)) w.heap.size (.slice a5 n5 c5) v := hr5.alloc _
            obtain ⟨ss, hsl, hown, hres⟩ := R6.list
            have hown' := hide (fun o => hown.alloc o)
            have hbse := hide (ownsRow_base hown)
            have hone := one_val (w5.alloc (.cells #[.slice a5 n5 c5, .string tx, .int .i64 (e5 : Int), .int .i64 0, .int .i64 0] 36)) (.slice a5 n5 c5) 22
            rw [World.size_alloc] at hone
            have hone := hide hone
            have honep := hide (one_plain' a5 n5 c5)
            have HNX := hide (fun (W : World) v' o (hg : ((w5.alloc (.cells #[.slice a5 n5 c5, .string tx, .int .i64 (e5 : Int), .int .i64 0, .int .i64 0] 36)).alloc o).grownBy W u10.ownBlock) ho hbel => (unhide HN) W _ v' hbel (grown_own hg (O6.alloc o) (other_block (hown.alloc o) (O6.alloc o) (by decide))) (R6.part (v' := v') hsl hown hres hr6 hg ho))
            have HOR := hide (fun (W : World) o (hg : ((w5.alloc (.cells #[.slice a5 n5 c5, .string tx, .int .i64 (e5 : Int), .int .i64 0, .int .i64 0] 36)).alloc o).grownBy W u10.ownBlock) => grown_own hg (OR.alloc o) (other_block (hown.alloc o) (OR.alloc o) (by decide)))
            have hb63 : ps.length + 1 ≤ maxLen := by unfold maxLen; omega
            have hby : (ps.length + 1) * 24 ≤ 140737488355328 := by omega
            have hsz6 := B5.size
            clear hb5 B5 O5 R5 hr5 hr6 R6 O6 hown hres HN hsl
            go_wp2_with (at_builtin; refine wpList_append_own _ rfl (.tmp 81) (.tmp 84) 29 rfl w.heap.size 22 i0 (.slice none 0 0) 1 24 Tryz.underlying29 hi0 hz0 hz1 hz2 rfl (by decide) _ ps.length ss rfl ((unhide hown') _) ⟨w5.heap.size + 1, 0, none⟩ 1 1 [.slice a5 n5 c5] rfl rfl (unhide hone) (unhide honep) hb63 hby (by simp; omega) ?_)
            intro v7 w7 ho7 hg7 _
            have B7 : Below w.heap.size w w7 := (B6.alloc B6.size _).grown hg7 (by simp; omega) (unhide hbse)
            have H7 := hide ((unhide HNX) w7 v7 _ hg7 ho7 B7)
            have O7 := (unhide HOR) w7 _ hg7
            have q2 := O7.cell 2
            simp only [List.getElem?_cons_zero, List.getElem?_cons_succ] at q2
            clear ho7 hg7 HNX HOR hown' hone honep OR B6
            go_wp2_with fail
            refine ((unhide HSK) _).mono ?_
            rintro e wk ⟨rfl, hwk⟩
            rw [hwk]
            clear hwk HSK
            go_wp2_with fail
            go_roundg (s.size + 1 - J.skip s e5)
            case rel => exact ⟨J.skip s e5, g', false, _, _, rfl, rfl, rfl, unhide H7⟩
            case measure => have := hg.out; omega
          · have fin := hide ((unhide HE).says.trans (J.elems_rec_no (J.head_arr s i2) hq))
            have hc0 : (c != 0) = true := by have := (unhide HFIT) i2 hle2; rw [hq] at this; simpa using this.1
            have OA := O5.below ((Below.refl _ _).alloc (Nat.le_refl _) (.cells #[.slice none 0 0, .string ByteArray.empty, .int .i64 0, .int .i64 c, .int .i64 (m9 : Int)] 36)) O5.lt
            have hleB := B5.size
            have c0 := OA.cell 0
            have c1 := OA.cell 1
            have c2 := OA.cell 2
            have c3 := OA.cell 3
            have c4 := OA.cell 4
            simp only [List.getElem?_cons_zero, List.getElem?_cons_succ] at c0 c1 c2 c3 c4
            have z0 := OA.frozen 0
            have z1 := OA.frozen 1
            have z2 := OA.frozen 2
            have z3 := OA.frozen 3
            have z4 := OA.frozen 4
            go_wp2_with fail
            refine bodyPost_ret (v := .agg #[.slice none 0 0, .string ByteArray.empty, .int .i64 0, .int .i64 c, .int .i64 (m9 : Int)]) (by simp [results, Tryz.results29, go_sem, c0, c1, c2, c3, c4]; try rfl) rfl ⟨.inr ⟨c, m9, unhide fin, rfl⟩, ?_⟩
            repeat (first | exact B5 | refine Below.setCell ?_ (by simp <;> omega) _ | refine Below.alloc ?_ (by first | exact hleB | (simp <;> omega)) _)
        · have fin := hide ((unhide HM).no hnl hcom)
          have BM := (unhide HM).bel
          have OM := (unhide HM).own
          clear HM hnl
          by_cases hlt : i < s.size
          · have hgez : ¬ (s.size : Int) ≤ (i : Int) := by omega
            have hltz : (i : Int) < (s.size : Int) := by omega
            have hcb : ((s[i].toNat : Int) != 93) = true := by rw [← J.peek_in s i hlt]; simpa using hlast
            have hcc : ((s[i].toNat : Int) != 44) = true := by rw [← J.peek_in s i hlt]; simpa using hcom
            clear hlast hcom
            go_wp2_with fail
            refine (l2Bad_any 5 (i : Int) _).mono ?_
            rintro e wB ⟨rfl, hbB⟩
            have BB : Below w.heap.size w wB := BM.trans (hbB.mono BM.size)
            have OB := OM.below hbB OM.lt
            have hleB := BB.size
            have c0 := OB.cell 0
            have c1 := OB.cell 1
            have c2 := OB.cell 2
            have c3 := OB.cell 3
            have c4 := OB.cell 4
            simp only [List.getElem?_cons_zero, List.getElem?_cons_succ] at c0 c1 c2 c3 c4
            have z0 := OB.frozen 0
            have z1 := OB.frozen 1
            have z2 := OB.frozen 2
            have z3 := OB.frozen 3
            have z4 := OB.frozen 4
            go_wp2_with fail
            refine bodyPost_ret (v := .agg #[.slice none 0 0, .string ByteArray.empty, .int .i64 0, .int .i64 5, .int .i64 (i : Int)]) (by simp [results, Tryz.results29, go_sem, c0, c1, c2, c3, c4]; try rfl) rfl ⟨.inr ⟨5, _, unhide fin, rfl⟩, ?_⟩
            repeat (first | exact BB | refine Below.setCell ?_ (by simp <;> omega) _ | refine Below.alloc ?_ (by first | exact hleB | (simp <;> omega)) _)
          · have hgez : (s.size : Int) ≤ (i : Int) := by omega
            clear hlast hcom
            go_wp2_with fail
            refine (l2Bad_any 5 (i : Int) _).mono ?_
            rintro e wB ⟨rfl, hbB⟩
            have BB : Below w.heap.size w wB := BM.trans (hbB.mono BM.size)
            have OB := OM.below hbB OM.lt
            have hleB := BB.size
            have c0 := OB.cell 0
            have c1 := OB.cell 1
            have c2 := OB.cell 2
            have c3 := OB.cell 3
            have c4 := OB.cell 4
            simp only [List.getElem?_cons_zero, List.getElem?_cons_succ] at c0 c1 c2 c3 c4
            have z0 := OB.frozen 0
            have z1 := OB.frozen 1
            have z2 := OB.frozen 2
            have z3 := OB.frozen 3
            have z4 := OB.frozen 4
            go_wp2_with fail
            refine bodyPost_ret (v := .agg #[.slice none 0 0, .string ByteArray.empty, .int .i64 0, .int .i64 5, .int .i64 (i : Int)]) (by simp [results, Tryz.results29, go_sem, c0, c1, c2, c3, c4]; try rfl) rfl ⟨.inr ⟨5, _, unhide fin, rfl⟩, ?_⟩
            repeat (first | exact BB | refine Below.setCell ?_ (by simp <;> omega) _ | refine Below.alloc ?_ (by first | exact hleB | (simp <;> omega)) _)

end Go.Proofs.YtepfdlbnnkojbaaGreatDoor
