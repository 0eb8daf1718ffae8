/-
  impl.mergedOf of an object over another value (mk_mgj.py).
-/
import Derived.Test.YtlmibdddfjbbdaaM38
namespace Go.Proofs.Ytlmibdddfjbbdaa
open Go.RowKit
set_option linter.unusedVariables false
set_option linter.unusedSimpArgs false
namespace Mg
set_option maxRecDepth 100000 in
set_option maxHeartbeats 8000000 in
theorem mergedOf_not (f : Nat) (IH : Hid (MgSays f)) (A B : List M.Cl) (b off cap b' off' cap' : Nat) (w : World) (hv : M.valueFault A = 0) (hv' : M.valueFault B = 0) (hfl : B.length ≤ f + 1) (hrow : Row w b off A) (hb : b < w.heap.size) (hcap : A.length ≤ cap) (hrow' : Row w b' off' B) (hb' : b' < w.heap.size) (hcap' : B.length ≤ cap') (h6 : (B.getD 0 M.zero).kind = 6) (a6 : ¬ (A.getD 0 M.zero).kind = 6) :
    Calls Try.prog 21 #[.slice (some ⟨b, off, none⟩) A.length cap, .slice (some ⟨b', off', none⟩) B.length cap'] w fun e w' => ∃ s, e = .returned s ∧ Res w' w.heap.size s (merge (f + 1) A B) ∧ Below w.heap.size w w' := by
  have eqn : ∀ a n c W, (binOp .neq 24 (.slice a n c) (.slice none 0 0)).run Try.prog W = .ok (.bool (!a.isNone)) W := fun a n c W => neq_nil _ _ Try.underlying24 a n c W
  obtain ⟨t0, ht0, hy0, hy1, hy2⟩ := info_parts Try.info9
  obtain ⟨i0, hi, hz0, hz1, hz2⟩ := info_parts Try.info24
  have hl := (M.fault_zero hv').1
  have hla := (M.fault_zero hv).1
  have f0 := (hrow' 0 (by omega)).1
  have g0_ := (hrow 0 (by omega)).1
  simp only [Nat.zero_mul, Nat.add_zero] at f0 g0_
  rw [h6] at f0
  have HFA : mergeO (merge f) emptyO B = merge (f + 1) A B := by rw [merge_o h6]; unfold objOf; rw [if_neg a6]
  have a6' : ((A.getD 0 M.zero).kind == 6) = false := by simpa using a6
  generalize (A.getD 0 M.zero).kind = kd at *
  clear hrow hcap hv
  go_enter Try.func21, Try.ntmps21
  go_wp2_with fail
  refine (layObject_none none none 0 0 w).mono ?_
  rintro e w1 ⟨s1, rfl, hr1, B0⟩
  have hr1' : Res w1 w.heap.size s1 emptyO := hr1
  obtain ⟨eb, ec, rfl, hcA, hbA, hrowA⟩ := (show NR w1 w.heap.size s1 emptyO from .inr ⟨emptyO_ne, hr1'⟩).mem emptyO_ne
  have hv1 := empty_valid.1
  generalize emptyO = A1 at *
  clear hr1 hr1'
  have hal := (M.fault_zero hv1).2.1
  have hbl := (M.fault_zero hv').2.1
  have hnl := names_len A1 B hv1 hv'
  have HBARE := hide (show (∀ j, j < (laidK (fun k => pairM (merge f) (memV A1 k) (memV B k)) (names A1 B) (names A1 B).length).2.length → Bare ((laidK (fun k => pairM (merge f) (memV A1 k) (memV B k)) (names A1 B) (names A1 B).length).2.getD j [])) ∧ tot (laidK (fun k => pairM (merge f) (memV A1 k) (memV B k)) (names A1 B) (names A1 B).length).2 (laidK (fun k => pairM (merge f) (memV A1 k) (memV B k)) (names A1 B) (names A1 B).length).2.length ≤ 400 from by
    obtain ⟨h1, h2⟩ := laid_fit (merge_fit f) hv1 hv' hfl _ (Nat.le_refl _)
    exact ⟨fun j hj => (h1 j hj).1, by omega⟩)
  have HGF := hide (fun key => pair_fit (merge_fit f) hv1 hv' hfl key)
  have HLV := hide (fun (k : Nat) => (show memV A1 ((names A1 B).getD k ByteArray.empty) = [] ∨ M.valueFault (memV A1 ((names A1 B).getD k ByteArray.empty)) = 0 from (memV_val hv1 _).imp id (fun h => h.1)))
  have HRV := hide (fun (k : Nat) => (show memV B ((names A1 B).getD k ByteArray.empty) = [] ∨ (M.valueFault (memV B ((names A1 B).getD k ByteArray.empty)) = 0 ∧ (memV B ((names A1 B).getD k ByteArray.empty)).length ≤ f) from (memV_val hv' _).imp id (fun h => ⟨h.1, by omega⟩)))
  have HFIN : Hid (mergeO (merge f) A1 B = objV (laidK (fun k => pairM (merge f) (memV A1 k) (memV B k)) (names A1 B) (names A1 B).length).1 (laidK (fun k => pairM (merge f) (memV A1 k) (memV B k)) (names A1 B) (names A1 B).length).2) := hide rfl
  rw [HFA] at HFIN
  have HG0 := hide (fun (key : ByteArray) => (show (fun k => pairM (merge f) (memV A1 k) (memV B k)) key = pairM (merge f) (memV A1 key) (memV B key) from rfl))
  generalize (fun k => pairM (merge f) (memV A1 k) (memV B k)) = g0 at *
  generalize hNN : names A1 B = N at *
  have HNM := hide hNN
  clear hNN
  go_upto_region 5 with fail
  clear f0 g0_
  have HMP := hide (memberPairs_any A1 B eb 0 ec b' off' cap' w1 hv1 hrowA hbA hcA hv' (hrow'.below B0 hb') (Nat.lt_of_lt_of_le hb' B0.size) hcap')
  go_wp2_with fail
  refine (unhide HMP).mono ?_
  rintro e w2 ⟨sp, rfl, hpp, hb2⟩
  rw [unhide HNM] at hpp
  obtain ⟨px, pcp, rfl⟩ := hpp.shape
  have B2 : Below w.heap.size w w2 := B0.trans (hb2.mono B0.size)
  have hsA : w1.heap.size ≤ w2.heap.size := hb2.size
  have HPP := hide hpp
  obtain ⟨B1, hB1⟩ : ∃ B1, B1 = w1.heap.size := ⟨_, rfl⟩
  have hsw : w.heap.size ≤ B1 := by rw [hB1]; exact B0.size
  rw [← hB1] at hsA HPP
  have hnn : N.length ≤ 400 := hnl
  clear HMP hpp hb2 hB1
  go_wp2_with fail
  go_loopg [5, 6, 27] N.length (fun g s5 s6 s27 wr => ∃ (k m : Nat) (ss : List Value), Hid (g = N.length - k) ∧ s27 = .int .i64 k ∧ k ≤ N.length ∧ m ≤ k ∧ Hid ((laidK g0 N k).1.length = m ∧ (laidK g0 N k).2.length = m ∧ ss.length = m) ∧ Hid (wr.ownsRow B1 9 1 s5 m ((laidK g0 N k).1.map Value.string)) ∧ Hid (wr.ownsRow B1 24 1 s6 m ss) ∧ Hid (∀ i, i < m → Res wr B1 (ss.getD i (.slice none 0 0)) ((laidK g0 N k).2.getD i [])) ∧ Hid (PP wr B1 (.slice px N.length pcp) N A1 B) ∧ B1 ≤ wr.heap.size ∧ Below w.heap.size w wr)
  case atStart => exact ⟨0, 0, [], rfl, rfl, by omega, by omega, ⟨rfl, rfl, rfl⟩, World.ownsRow_nil _ _ _ _, World.ownsRow_nil _ _ _ _, fun i hi => absurd hi (by omega), unhide HPP, hsA, B2⟩
  case round =>
    clear HPP B2 hsA
    obtain ⟨k, m, ss, hg, rfl, hk, hmk, hlen, hkr, hsr, hres, hpp, hBr, hbel⟩ := hrel
    obtain ⟨ka_, kc_, rfl⟩ : ∃ a c, u5 = .slice a m c := by
      rcases hkr.out.2 with ⟨h1, h2⟩ | ⟨g, c, cur, h1, _⟩
      · exact ⟨none, 0, by rw [h1, h2]⟩
      · exact ⟨_, _, h1⟩
    obtain ⟨sa_, sc_, rfl⟩ : ∃ a c, u6 = .slice a m c := by
      rcases hsr.out.2 with ⟨h1, h2⟩ | ⟨g, c, cur, h1, _⟩
      · exact ⟨none, 0, by rw [h1, h2]⟩
      · exact ⟨_, _, h1⟩
    by_cases hlt : k < N.length
    · obtain ⟨pg, pc2, Lv, Rv, e0, hpg, q0, q1, q2, q3, q4, q5, q6, hL, hR⟩ := hpp.out.at hlt
      simp only [Value.slice.injEq] at e0
      obtain ⟨rfl, _, rfl⟩ := e0
      have hkI : (k : Int) < (N.length : Int) := by omega
      have hk0 : (0 : Int) ≤ (k : Int) := by omega
      have hHL := (unhide HLV) k
      have hHR := (unhide HRV) k
      have HNO := hide (fun h => laid_no (g := g0) (ks := N) (n := k) h)
      have HYES := hide (fun h => laid_yes (g := g0) (ks := N) (n := k) h)
      have HG := hide ((unhide HG0) (N.getD k ByteArray.empty))
      have HGB := hide ((unhide HGF) (N.getD k ByteArray.empty))
      generalize N.getD k ByteArray.empty = y at *
      obtain ⟨la, ln, lc, rfl⟩ := hL.shape
      obtain ⟨ra, rn, rc, rfl⟩ := hR.shape
      obtain ⟨W3, hW3⟩ : ∃ W3, W3 = wr.alloc (.cells #[.int .i64 4, .int .i64 0, .string y, .string { data := #[] }, .int .i64 0, .slice la ln lc, .slice ra rn rc] 59) := ⟨_, rfl⟩
      have b3 : Below wr.heap.size wr W3 := by rw [hW3]; exact (Below.refl _ _).alloc (Nat.le_refl _) _
      have O3 : Own W3 wr.heap.size 59 [.int .i64 4, .int .i64 0, .string y, .string { data := #[] }, .int .i64 0, .slice la ln lc, .slice ra rn rc] := by rw [hW3]; exact ⟨_, heap_alloc_new _ _, rfl⟩
      have hs3 := b3.size
      have HMP := hide (mergedPair_any f IH y (.slice la ln lc) (.slice ra rn rc) (memV A1 y) (memV B y) B1 W3 (by omega) (hL.below b3) (hR.below b3) hHL hHR)
      have c0 := O3.cell 0
      have c1 := O3.cell 1
      have c2 := O3.cell 2
      have c3 := O3.cell 3
      have c4 := O3.cell 4
      have c5 := O3.cell 5
      have c6 := O3.cell 6
      simp only [List.getElem?_cons_zero, List.getElem?_cons_succ] at c0 c1 c2 c3 c4 c5 c6
      have HO3 := hide O3
      clear hL hR O3
      go_upto_region 10 with fail
      rw [← hW3]
      clear hW3 q0 q1 q2 q3 q4 q5 q6
      go_wp2_with fail
      refine (unhide HMP).mono ?_
      rintro e w4 ⟨s4, rfl, hn4, hb4⟩
      have hb34 : Below W3.heap.size W3 w4 := hb4
      have b4 : Below wr.heap.size wr w4 := b3.trans (hb4.mono hs3)
      have hs4 := b4.size
      have hkr4 := ownsRow_below (B := 0) hkr.out b4
      have hsr4 := ownsRow_below (B := 0) hsr.out b4
      have hres4 := hide (fun i hi => (hres.out i hi).below b4)
      have hpp4 := hide (hpp.out.below b4)
      have B4 : Below w.heap.size w w4 := hbel.trans (b4.mono hbel.size)
      rw [← unhide HG] at hn4
      clear HMP hkr hsr hres hpp hb4 c0 c1 c2 c3 c4 c5 c6
      by_cases hz : g0 y = []
      · have HN := hide ((unhide HNO) hz)
        have hs0 : s4 = .slice none 0 0 := by
          rcases hn4 with ⟨_, h⟩ | ⟨h, _⟩
          · exact h
          · exact absurd hz h
        subst hs0
        have K4 := hide hkr4
        have S4 := hide hsr4
        clear HNO HYES hn4 hkr4 hsr4
        go_wp2_with fail
        go_roundg (N.length - (k + 1))
        case rel => exact ⟨k + 1, m, ss, rfl, by go_num, by omega, by omega, by rw [unhide HN]; exact hlen.out, by rw [unhide HN]; exact unhide K4, unhide S4, by rw [unhide HN]; exact unhide hres4, unhide hpp4, by omega, B4⟩
        case measure => have := hg.out; omega
      · have HN := hide ((unhide HYES) hz)
        obtain ⟨xb, xc, e4, hxc, hxb, hxr⟩ := hn4.mem hz
        subst e4
        have hr4 : Res w4 B1 (.slice (some ⟨xb, 0, none⟩) (g0 y).length xc) (g0 y) := by
          rcases hn4 with ⟨h, _⟩ | ⟨_, h⟩
          · exact absurd h hz
          · exact h
        have O4 := (unhide HO3).below (show Below W3.heap.size W3 w4 from hb34) (unhide HO3).lt
        have c2 := O4.cell 2
        simp only [List.getElem?_cons_zero, List.getElem?_cons_succ] at c2
        -- the key
        have hk1 := hide (fun o => hkr4.alloc o)
        have hkb := hide (ownsRow_base hkr4)
        have hone := hide (many_val w4 9 [.string y])
        have honep := hide (show ∀ u ∈ ([Value.string y] : List Value), u.oneCell' = true by intro u hu; rw [List.mem_singleton.1 hu]; rfl)
        have hb63 : m + 1 ≤ maxLen := by unfold maxLen; omega
        have hby : (m + 1) * 16 ≤ 140737488355328 := by omega
        have hby2 : (m + 1) * 24 ≤ 140737488355328 := by omega
        have hbs4 : B1 ≤ w4.heap.size + 1 := by omega
        have HR4 := hide hr4
        have HS4 := hide hsr4
        clear hn4 hkr4 hsr4 hxr HNO HYES O4 HO3 hr4
        go_wp2_with (at_builtin; refine wpList_append_own _ rfl (.tmp 35) (.tmp 39) 48 rfl B1 9 t0 (.string ByteArray.empty) 1 16 Try.underlying48 ht0 hy0 hy1 hy2 rfl (by decide) _ m _ rfl ((unhide hk1) _) ⟨w4.heap.size, 0, none⟩ 1 1 [.string y] rfl rfl (unhide hone) (unhide honep) hb63 hby (by simpa using hbs4) ?_)
        intro v5 w5 ho5 hg5 _
        have hrow5 := (unhide hk1) (.cells #[.string y] 9)
        have BA4 : Below w4.heap.size w4 (w4.alloc (.cells #[.string y] 9)) := (Below.refl _ _).alloc (Nat.le_refl _) _
        have B5 : Below w.heap.size w w5 := (B4.alloc B4.size _).grown hg5 (by have := B4.size; simp; omega) (fun q hq => by have := (unhide hkb) q hq; omega)
        have hs5 : w4.heap.size + 1 ≤ w5.heap.size := by have := hg5.size; simpa using this
        have hres5 := hide (fun i hi => grown_res hrow5 hg5 (((unhide hres4) i hi).below BA4) (by decide))
        have hr5 := hide (grown_res hrow5 hg5 ((unhide HR4).below BA4) (by decide))
        have hpp5 := hide (((unhide hpp4).below BA4).grown hrow5 (by decide) (by decide) hg5)
        have hsr5 := row_grown hrow5 (ownsRow_below (B := 0) (unhide HS4) BA4) (by decide) hg5
        have HK5 := hide ho5
        have hk1 := hide (fun o => hsr5.alloc o)
        have hsb := hide (ownsRow_base hsr5)
        have hone := hide (many_val w5 24 [.slice (some ⟨xb, 0, none⟩) (g0 y).length xc])
        have honep := hide (show ∀ u ∈ ([Value.slice (some ⟨xb, 0, none⟩) (g0 y).length xc] : List Value), u.oneCell' = true by intro u hu; rw [List.mem_singleton.1 hu]; rfl)
        have hbs5 : B1 ≤ w5.heap.size + 1 := by omega
        obtain ⟨ka5, kn5, kc5, rfl⟩ : ∃ a n c, v5 = .slice a n c := by
          rcases ho5.2 with ⟨h1, _⟩ | ⟨g, c, cur, h1, _⟩
          · exact ⟨_, _, _, h1⟩
          · exact ⟨_, _, _, h1⟩
        clear ho5 hg5 hrow5 hres4 HR4 hpp4 HS4 hsr5 BA4 B4
        go_wp2_with (at_builtin; refine wpList_append_own _ rfl (.tmp 41) (.tmp 43) 44 rfl B1 24 i0 (.slice none 0 0) 1 24 Try.underlying44 hi hz0 hz1 hz2 rfl (by decide) _ m _ rfl ((unhide hk1) _) ⟨w5.heap.size, 0, none⟩ 1 1 [.slice (some ⟨xb, 0, none⟩) (g0 y).length xc] rfl rfl (unhide hone) (unhide honep) hb63 hby2 (by simpa using hbs5) ?_)
        intro v6 w6 ho6 hg6 _
        have hrow6 := (unhide hk1) (.cells #[.slice (some ⟨xb, 0, none⟩) (g0 y).length xc] 24)
        have BA5 : Below w5.heap.size w5 (w5.alloc (.cells #[.slice (some ⟨xb, 0, none⟩) (g0 y).length xc] 24)) := (Below.refl _ _).alloc (Nat.le_refl _) _
        have B6 : Below w.heap.size w w6 := (B5.alloc B5.size _).grown hg6 (by have := B5.size; simp; omega) (fun q hq => by have := (unhide hsb) q hq; omega)
        have hs6 : w5.heap.size + 1 ≤ w6.heap.size := by have := hg6.size; simpa using this
        have keep := fun s l (h : Res w5 B1 s l) => grown_res hrow6 hg6 (h.below BA5) (by decide)
        have hlen1 := hlen.out
        have FRES := hide (show ∀ i, i < m + 1 → Res w6 B1 ((ss ++ [Value.slice (some ⟨xb, 0, none⟩) (g0 y).length xc]).getD i (.slice none 0 0)) ((laidK g0 N (k + 1)).2.getD i []) from fun i hi => by
          rw [unhide HN]
          by_cases e : i < m
          · rw [List.getD_eq_getElem?_getD, List.getElem?_append_left (by omega), ← List.getD_eq_getElem?_getD, List.getD_eq_getElem?_getD (l := (laidK g0 N k).2 ++ _), List.getElem?_append_left (by omega), ← List.getD_eq_getElem?_getD]
            exact keep _ _ ((unhide hres5) i e)
          · have e2 : i = m := by omega
            subst e2
            rw [List.getD_eq_getElem?_getD, List.getElem?_append_right (by omega), show i - ss.length = 0 by omega, List.getD_eq_getElem?_getD (l := (laidK g0 N k).2 ++ _), List.getElem?_append_right (by omega), show i - (laidK g0 N k).2.length = 0 by omega]
            exact keep _ _ (unhide hr5))
        have FKEY := hide (show w6.ownsRow B1 9 1 (.slice ka5 kn5 kc5) (m + 1) ((laidK g0 N (k + 1)).1.map Value.string) from by
          rw [unhide HN, List.map_append]
          exact row_grown hrow6 (ownsRow_below (B := 0) (unhide HK5) BA5) (by decide) hg6)
        have FPP := hide (((unhide hpp5).below BA5).grown hrow6 (by decide) (by decide) hg6)
        have FLEN := hide (show (laidK g0 N (k + 1)).1.length = m + 1 ∧ (laidK g0 N (k + 1)).2.length = m + 1 ∧ (ss ++ [Value.slice (some ⟨xb, 0, none⟩) (g0 y).length xc]).length = m + 1 from by
          rw [unhide HN]; simp only [List.length_append, List.length_singleton]; omega)
        have HS6 := hide ho6
        clear ho6 hg6 hrow6 BA5 keep hres5 hr5 hpp5 HK5 hk1 hsb hone honep B5 hlen hlen1
        go_wp2_with fail
        go_roundg (N.length - (k + 1))
        case rel => exact ⟨k + 1, m + 1, _, rfl, by go_num, by omega, by omega, unhide FLEN, unhide FKEY, unhide HS6, unhide FRES, unhide FPP, by omega, B6⟩
        case measure => have := hg.out; omega
    · have hke : k = N.length := by omega
      subst hke
      generalize (laidK g0 N N.length).1 = KK at *
      generalize (laidK g0 N N.length).2 = QQ at *
      obtain ⟨h1, h2, h3⟩ := hlen.out
      have hks : KS wr B1 (.slice ka_ m kc_) KK := by unfold KS; rw [h1]; exact hkr.out
      have hss : SS wr B1 (.slice sa_ m sc_) QQ := ⟨ss, by rw [h3, h2], by rw [h2]; exact hsr.out, by rw [h2]; exact hres.out⟩
      have HBAR := unhide HBARE
      obtain ⟨ka2, kc2, ek, hkc, htv⟩ := hks.tv
      obtain ⟨sa2, sc2, es, hsc, hlv⟩ := hss.lv (fun i hi e => by have := (HBAR.1 i hi).1; rw [e] at this; simp at this)
      simp only [Value.slice.injEq] at ek es
      obtain ⟨rfl, em, rfl⟩ := ek
      obtain ⟨rfl, em2, rfl⟩ := es
      have HLO := layObjectB_any ka_ sa_ kc_ sc_ _ _ wr htv hlv hkc hsc (by rw [h1, h2]) (by rw [h1]; omega) (by have := HBAR.2; omega) HBAR.1
      rw [h1, h2, ← unhide HFIN] at HLO
      have HLO2 := hide HLO
      clear HLO hkr hsr hres hpp hks hss htv hlv HBAR HBARE h1 h2 h3 hlen hkc hsc em em2
      go_wp2_with fail
      refine (unhide HLO2).mono ?_
      rintro e w9 ⟨s9, rfl, hr9, hb9⟩
      have FIN := hide (hr9.mono hbel.size)
      have B9 : Below w.heap.size w w9 := hbel.trans (hb9.mono hbel.size)
      obtain ⟨xa, xn, xc, rfl⟩ := hr9.shape
      clear hr9 hb9 HLO2
      go_wp2_with fail
      go_ret
      exact ⟨_, rfl, unhide FIN, B9⟩
end Mg
end Go.Proofs.Ytlmibdddfjbbdaa
