/-
  spec.CutStream.
-/
import Derived.Test.YthaabakpcokomaaQ20
import Derived.Test.YthaabakpcokomaaQ28
import Derived.Test.YthaabakpcokomaaQ31
import Derived.Test.YthaabakpcokomaaQ42
namespace Go.Proofs.Ythaabakpcokomaa
open Go.RowKit
set_option linter.unusedVariables false
set_option linter.unusedSimpArgs false
namespace Sev
/-- The ledger of CutStream. -/
structure Lc (w W wr : World) (sv : Value) (ps : List (List M.Cl)) : Prop where
  rs : Own wr w.heap.size 46 [.int .i64 0, .slice none 0 0]
  gt : Own wr W.heap.size 46 [.int .i64 0, sv]
  ss : SS wr (W.heap.size + 1) sv ps
  bel : Below W.heap.size W wr
  lo : w.heap.size < W.heap.size
  low : Below w.heap.size w W
theorem Lc.start {w W : World} (hr : Own W w.heap.size 46 [.int .i64 0, .slice none 0 0]) (hB : Below w.heap.size w W) : Lc w W (W.alloc (.cells #[.int .i64 0, .slice none 0 0] 46)) (.slice none 0 0) [] :=
  ⟨hr.alloc _, ⟨_, heap_alloc_new _ _, rfl⟩, SS.nil _ _, (Below.refl _ _).alloc (Nat.le_refl _) _, hr.lt, hB⟩
theorem Lc.next {w W wr W2 W3 : World} {sv s v' : Value} {ps : List (List M.Cl)} {p : List M.Cl} (h : Lc w W wr sv ps) (ss : List Value) (hl : ss.length = ps.length)
    (hown : wr.ownsRow (W.heap.size + 1) 28 1 sv ps.length ss) (hres : ∀ i, i < ps.length → Res wr (W.heap.size + 1) (ss.getD i (.slice none 0 0)) (ps.getD i [])) (hb : Below wr.heap.size wr W2) (hs : Res W2 wr.heap.size s p)
    (ho : W3.ownsRow (W.heap.size + 1) 28 1 v' (ps.length + 1) (ss ++ [s])) (hg : (W2.alloc (.cells #[s] 28)).grownBy W3 sv.ownBlock) :
    Lc w W (W3.setCell ⟨W.heap.size, 1, none⟩ v') v' (ps ++ [p]) := by
  have hge := ownsRow_base hown
  have hsz : W.heap.size < wr.heap.size := h.gt.lt
  have hbA : Below W2.heap.size W2 (W2.alloc (.cells #[s] 28)) := (Below.refl _ _).alloc (Nat.le_refl _) _
  have b1 : Below (W.heap.size + 1) wr W3 := ((hb.trans (hbA.mono hb.size)).mono (by omega)).grown hg (by have := hb.size; simp; omega) hge
  have hss := SS.snoc (o := .cells #[s] 28) (k := ps.length) rfl hl (Al.row_below hown hb) (fun i hi => (hres i hi).below hb) (hs.mono (by omega)) hg ho
  refine ⟨?_, ?_, ?_, ?_, h.lo, h.low⟩
  · exact (h.rs.below b1 (by have := h.lo; omega)).setOther _ _ (by have := h.lo; show w.heap.size ≠ W.heap.size; omega)
  · exact (h.gt.below b1 (by omega)).set 1 v'
  · exact hss.keepB (fun k hk => heap_setCell_other _ ⟨W.heap.size, 1, none⟩ k v' (by show k ≠ W.heap.size; omega))
  · exact (h.bel.trans (b1.mono (by omega))).setCell (Nat.le_refl _) _

theorem Lc.below {w W wr wr' : World} {sv : Value} {ps : List (List M.Cl)} (h : Lc w W wr sv ps) (hb : Below wr.heap.size wr wr') : Lc w W wr' sv ps :=
  ⟨h.rs.below hb h.rs.lt, h.gt.below hb h.gt.lt, h.ss.below hb, h.bel.trans (hb.mono h.bel.size), h.lo, h.low⟩
/-- The steps of a path, as parts. -/
theorem pathPartsR (p : List M.Cl) (hp : Pth.fault p = 0) (b o vc : Nat) (w : World) (hr : Row w b o p) (hb : b < w.heap.size) (hcap : p.length ≤ vc) (hok : ∀ c ∈ p, c.ok) :
    Calls Try.prog 74 #[.slice (some ⟨b, o, none⟩) p.length vc] w fun e w' => ∃ a c, e = .returned (.slice a (p.drop 1).length c) ∧ (p.drop 1).length ≤ c ∧ c ≤ 9223372036854775807 ∧ Pth.PL w' a (p.drop 1) ∧ Below w.heap.size w w' := by
  have hpv := (Pth.fault_no hp).1
  have hst := Pth.steps hp
  refine (l1Parts_any p b o vc w hpv hr hb hcap hok).mono ?_
  rintro e w1 ⟨s, rfl, hss, hb1⟩
  have hcm : ∀ a n c, s = .slice a n c → c ≤ 9223372036854775807 := by
    intro a n c e
    subst e
    obtain ⟨ss, _, ⟨_, h2 | ⟨g, c2, cur, h3, _, _, _, h7, _⟩⟩, _⟩ := hss
    · simp only [Value.slice.injEq] at h2; omega
    · simp only [Value.slice.injEq] at h3; unfold maxLen at h7; omega
  obtain ⟨a, c, rfl, hac, hlv⟩ := hss.lv (subs_all hpv hok).2.2.2
  rw [hst.1] at hac hcm ⊢
  exact ⟨a, c, rfl, hac, hcm _ _ _ rfl, Pth.pl_of hst.1 hst.2.1 hlv, hb1⟩
theorem set_cutE {D : Nat} {l : List M.Cl} (h : Evt l) : arrV ((subs l 0).set 0 (Al.pathC (((P l 0).drop 1).drop D))) = cutE D l := by
  rcases h.n12 with e | e
  · have hl := parts_n (n := 1) e
    rw [cutE_one e, show laid (((P l 0).drop 1).drop D) [] = arrV [Al.pathC (((P l 0).drop 1).drop D)] from rfl]
    generalize Al.pathC (((P l 0).drop 1).drop D) = q
    generalize subs l 0 = ps at hl ⊢
    match ps, hl with
    | [x], _ => rfl
  · have hl := parts_n (n := 2) e
    rw [cutE_two e, show laid (((P l 0).drop 1).drop D) [P l 1] = arrV [Al.pathC (((P l 0).drop 1).drop D), (subs l 0).getD 1 []] from rfl]
    generalize Al.pathC (((P l 0).drop 1).drop D) = q
    generalize subs l 0 = ps at hl ⊢
    match ps, hl with
    | [x, y], _ => rfl
theorem set_valid {ps : List (List M.Cl)} {q : List M.Cl} (h : ∀ j, j < ps.length → M.valueFault (ps.getD j []) = 0) (hq : M.valueFault q = 0) : ∀ j, j < (ps.set 0 q).length → M.valueFault ((ps.set 0 q).getD j []) = 0 := by
  intro j hj
  rw [List.length_set] at hj
  by_cases e : j = 0
  · subst e; rw [List.getD_eq_getElem?_getD, List.getElem?_set_self hj]; exact hq
  · rw [List.getD_eq_getElem?_getD, List.getElem?_set_ne (by omega), ← List.getD_eq_getElem?_getD]; exact h j hj

set_option maxRecDepth 100000 in
set_option maxHeartbeats 8000000 in
theorem specCut_any (g : Nat) (L : List (List M.Cl)) (d : Int) (w : World) (hL : LR w g L) (hn : L.length ≤ 1048576) (hln : tot L L.length ≤ 1048576) (hok : OkS L) :
    Calls Try.prog 43 #[.slice (some ⟨g, 0, none⟩) L.length L.length, .int .i64 d] w (_root_.Go.Proofs.Ythaabakpcokomaa.AnsS w (cutOut L d)) := by
  have HB0 := hide (fun o => (show Below w.heap.size w (w.alloc o) from (Below.refl _ _).alloc (Nat.le_refl _) o))
  have HF := hide (fun o => specStream_any g L (w.alloc o) (hL.below ((Below.refl _ _).alloc (Nat.le_refl _) _)) hn hln hok)
  have HLR := hide (fun W (h : Below w.heap.size w W) => hL.below h)
  have OK := hide hok
  clear hL hok hln
  obtain ⟨i0, hi, hz0, hz1, hz2⟩ := info_parts Try.info28
  go_enter Try.func43, Try.ntmps43
  go_wp2_with fail
  refine ((unhide HF) _).mono ?_
  rintro e w1 ⟨sv, rfl, hrs, hb1⟩
  have hR : Own w1 w.heap.size 46 [.int .i64 0, .slice none 0 0] := Own.below ⟨_, heap_alloc_new _ _, rfl⟩ hb1 (by simp)
  have B1 : Below w.heap.size w w1 := ((unhide HB0) _).trans (hb1.mono (by simp))
  obtain ⟨fa, fn, fc, rfl⟩ := hrs.shape
  clear hb1 hrs HF HB0
  have FB := hide (fun h => cut_bad (L := L) (d := d) h)
  have FR := hide (fun h hd => cut_range (L := L) (d := d) h hd)
  have FO := hide (fun h (D : Nat) hd => cut_ok (L := L) (d := D) h hd)
  have FN := hide (fun h => faults_no (l := L) h)
  generalize (faults L).2.1 = at_ at *
  generalize (faults L).1 = q at *
  obtain ⟨W2, hW2⟩ : ∃ W2, W2 = w1.alloc (.cells #[.int .i64 q, .int .i64 at_, .slice fa fn fc] 53) := ⟨_, rfl⟩
  have B2 : Below w.heap.size w W2 := by rw [hW2]; exact B1.alloc B1.size _
  have hR2 : Own W2 w.heap.size 46 [.int .i64 0, .slice none 0 0] := by rw [hW2]; exact hR.alloc _
  have r0 := hR2.cell 0
  have r1 := hR2.cell 1
  have z0 := hR2.frozen 0
  have z1 := hR2.frozen 1
  simp only [List.getElem?_cons_zero, List.getElem?_cons_succ] at r0 r1
  have s0 : ∀ o, (w1.alloc o).cell? ⟨w.heap.size, 0, none⟩ = some (.int .i64 0) := fun o => (hR.alloc o).cell 0
  have s1 : ∀ o, (w1.alloc o).cell? ⟨w.heap.size, 1, none⟩ = some (.slice none 0 0) := fun o => (hR.alloc o).cell 1
  have y0 : ∀ o, (w1.alloc o).frozen? ⟨w.heap.size, 0, none⟩ = false := fun o => (hR.alloc o).frozen 0
  have y1 : ∀ o, (w1.alloc o).frozen? ⟨w.heap.size, 1, none⟩ = false := fun o => (hR.alloc o).frozen 1
  clear hR B1
  by_cases hz : q = 0
  · subst hz
    by_cases hd0 : d < 0 ∨ 20 < d
    · have fin := hide ((unhide FR) rfl hd0)
      have HIN := hide (fun W => l1In_no d 0 20 W hd0)
      clear FR FB FO FN s0 s1 y0 y1
      go_wp2_with fail
      refine ((unhide HIN) _).mono ?_
      rintro e w3 ⟨rfl, hw3⟩
      have hw4 : W2 = w3 := hW2.trans hw3.symm
      subst hw4
      clear hw3 hW2 HIN
      go_wp2_with fail
      refine bodyPost_ret (v := .agg #[.int .i64 3, .slice none 0 0]) (by simp [results, Try.results43, go_sem, r0, r1]) rfl (ansS_of (unhide fin) (.inl ⟨rfl, rfl⟩) (store_below B2 _ _))
    obtain ⟨D, rfl⟩ := Int.eq_ofNat_of_zero_le (show 0 ≤ d by omega)
    have hD : D ≤ 20 := by omega
    have FIN := hide ((unhide FO) rfl D hD)
    have HIN := hide (fun W => l1In_yes (D : Int) 0 20 W (by omega) (by omega))
    obtain ⟨hn1, hn2, hev⟩ := (unhide FN) rfl
    have HEV := hide (fun k (hk : k < L.length) => evt_of ((unhide OK) k hk) (hev k hk))
    have HCL := hide (fun k => (show (cutL D (L.take k)).length ≤ 200 from Nat.le_trans (cut_le D (L.take k)) (by rw [List.length_take]; omega)))
    clear FR FB FO FN hev s0 s1 y0 y1 hd0
    generalize hnl : L.length = n at *
    have HNL := hide hnl
    clear hnl
    have hnI : (n : Int) ≤ 200 := by omega
    go_wp2_with fail
    refine ((unhide HIN) _).mono ?_
    rintro e w3 ⟨rfl, hw3⟩
    have hw4 : W2 = w3 := hW2.trans hw3.symm
    subst hw4
    clear hw3 hW2 HIN r0 r1 z0 z1
    have L0 := hide (Lc.start hR2 B2)
    go_wp2_with fail
    generalize hW4 : W2.alloc (.cells #[.int .i64 0, .slice none 0 0] 46) = w4 at *
    clear hW4 hR2
    go_loopg [7] n (fun gh s7 wr => ∃ (k : Nat) (sv : Value), Hid (gh = n - k) ∧ s7 = .int .i64 (k : Int) ∧ k ≤ n ∧ Hid (Lc w W2 wr sv (cutL D (L.take k))))
    case atStart => exact ⟨0, .slice none 0 0, rfl, rfl, by omega, by rw [List.take_zero]; exact unhide L0⟩
    case round =>
      clear L0
      obtain ⟨k, sv, hg, rfl, hk, hLc⟩ := hrel
      by_cases hlt : k < n
      · have hlt' : k < L.length := by rw [unhide HNL]; exact hlt
        obtain ⟨b, f0, hb, hr⟩ := ((unhide HLR) wr (hLc.out.low.trans (hLc.out.bel.mono hLc.out.low.size))).2 k hlt'
        have hev := (unhide HEV) k hlt
        have hko := (unhide OK) k hlt'
        have HSU := hide (cut_succ D L k hlt')
        have HKP := hide (show keeps D (L.getD k []) = decide (D < ((P (L.getD k []) 0).drop 1).length) from rfl)
        have hpo := part_ok hev.val hko (j := 0) (by rcases hev.n12 with e | e; have := parts_n (n := 1) e; omega; have := parts_n (n := 2) e; omega)
        have hpn : 1 ≤ (subs (L.getD k []) 0).length ∧ (subs (L.getD k []) 0).length ≤ 2 := by rcases hev.n12 with e | e; (have := parts_n (n := 1) e; omega); (have := parts_n (n := 2) e; omega)
        have HPAR := hide (l1Parts_any (L.getD k []) b 0 (L.getD k []).length wr hev.val hr hb (Nat.le_refl _) hko)
        have HNE := hide (subs_all hev.val hko).2.2.2
        have HVAL := hide (subs_all hev.val hko).2.1
        have HSET := hide (set_cutE (D := D) hev)
        have HPP := hide (fun b o vc W hr hb hcap => pathPartsR (P (L.getD k []) 0) hev.path b o vc W hr hb hcap hpo.2.1)
        have HP0 := hide (show (subs (L.getD k []) 0).getD 0 [] = P (L.getD k []) 0 from rfl)
        have hslen := hev.len
        have hstp := hev.stp
        have hltI : (k : Int) < (n : Int) := by omega
        have hk0 : (0 : Int) ≤ (k : Int) := by omega
        clear hev hko hr hlt' hpo
        generalize L.getD k [] = l at *
        go_wp2_with fail
        refine (unhide HPAR).mono ?_
        rintro e w3 ⟨s, rfl, hs, hb3⟩
        obtain ⟨pa, pcap, rfl, hac, hlv⟩ := hs.lv (unhide HNE)
        obtain ⟨g3, b0, o0, c0, rfl, hg3, k0, hc0, hb0, hr0⟩ := hlv 0 (by omega)
        rw [unhide HP0] at k0 hc0 hr0
        have HP2 := hide ((unhide HPP) b0 o0 c0 w3 hr0 hb0 hc0)
        have HS := hide hs
        have HB3 := hide hb3
        generalize subs l 0 = ps at *
        generalize (P l 0).drop 1 = cs at *
        generalize P l 0 = p at *
        have hm1I : (1 : Int) ≤ (ps.length : Int) := by omega
        clear hs hlv hb3 HPP HPAR hr0 f0
        go_wp2_with fail
        refine (unhide HP2).mono ?_
        rintro e w4' ⟨qa, qc, rfl, hqc, hqm, hpl, hb4⟩
        by_cases hkp : D < cs.length
        · have HSU2 := hide (show cutL D (L.take (k + 1)) = cutL D (L.take k) ++ [cutE D l] by rw [unhide HSU, unhide HKP, decide_eq_true hkp]; rfl)
          have hkpI : ¬ (cs.length : Int) ≤ (D : Int) := by omega
          have hD0 : (0 : Int) ≤ (D : Int) := by omega
          obtain h0 | ⟨g4, o4, rfl, hg4, hx⟩ := hpl
          · rw [h0] at hkp; simp at hkp
          have hdl : (cs.drop D).length = cs.length - D := List.length_drop
          have hPLD : Pth.PL w4' (some ⟨g4, o4 + D, none⟩) (cs.drop D) := .inr ⟨g4, o4 + D, rfl, hg4, fun i hi => by
            rw [hdl] at hi
            obtain ⟨b, off, c, h1, h2, h3, h4⟩ := hx (D + i) (by omega)
            refine ⟨b, off, c, by rw [Nat.add_assoc]; exact h1, h2, h3, ?_⟩
            rwa [show (cs.drop D).getD i M.zero = cs.getD (D + i) M.zero by rw [List.getD_eq_getElem?_getD, List.getD_eq_getElem?_getD, List.getElem?_drop]]⟩
          have hdstp : ∀ c ∈ cs.drop D, Pth.Stp c := fun c hc => hstp c (List.mem_of_mem_drop hc)
          have HAR := hide (Al.l1ArrayPL_any (some ⟨g4, o4 + D, none⟩) (qc - D) (cs.drop D) w4' hPLD (by omega) (by omega) hdstp)
          have hqv := (Al.pathC_ok hdstp (by omega)).1
          have hq1 := Al.pathC_length (cs.drop D)
          rw [hdl] at HAR
          have hkle : D ≤ cs.length := by omega
          have hcd : D < qc := by omega
          have hne9 : ¬ qc = D := by omega
          have hm200 : (cutL D (L.take k)).length + 1 ≤ 200 := by
            have e1 := (unhide HCL) (k + 1)
            rw [unhide HSU2, List.length_append] at e1
            simpa using e1
          have HB4 := hide hb4
          have HQV := hide hqv
          have HQ1 := hide hq1
          clear HSU HKP hPLD hdstp hx hdl hb4 hqv hq1
          generalize Al.pathC (cs.drop D) = r at *
          go_wp2_with fail
          refine (unhide HAR).mono ?_
          rintro e w5 ⟨s5, rfl, hr5, hb5⟩
          obtain ⟨xa, xn, xc, rfl⟩ := hr5.shape
          have B45 := (unhide HB4).trans (hb5.mono (unhide HB4).size)
          have B35 := (unhide HB3).trans (B45.mono (unhide HB3).size)
          have S5 := (unhide HS).below B45
          have hgge : wr.heap.size ≤ g3 := by
            obtain ⟨ss2, _, ⟨_, ⟨z1, _⟩ | ⟨g2, c2, cur, z1, z2, z3, _⟩⟩, _⟩ := S5
            · cases z1
            · simp only [Value.slice.injEq, Option.some.injEq, Addr.mk.injEq, and_true, true_and] at z1; omega
          obtain ⟨W6, hW6⟩ : ∃ W6, W6 = w5.setCell ⟨g3, 0, none⟩ (.slice xa xn xc) := ⟨_, rfl⟩
          have fg : ∃ z, w5.cell? ⟨g3, 0, none⟩ = some z := by
            obtain ⟨gg, cc, sx, e1, e2, e3, e4⟩ := SS.at (i := 0) S5 (by omega)
            simp only [Value.slice.injEq, Option.some.injEq, Addr.mk.injEq, and_true] at e1
            rw [← e1.1] at e3
            exact ⟨_, e3⟩
          obtain ⟨zz, fg⟩ := fg
          have fz : w5.frozen? ⟨g3, 0, none⟩ = false := by
            obtain ⟨_, _, ⟨_, ⟨z1, _⟩ | ⟨g2, c2, cur, z1, z2, z3, _⟩⟩, _⟩ := S5
            · cases z1
            · simp only [Value.slice.injEq, Option.some.injEq, Addr.mk.injEq, and_true] at z1
              rw [← z1.1] at z3
              exact Own.frozen ⟨_, z3, rfl⟩ 0
          have hrne : r ≠ [] := Pth.val_ne (unhide HQV)
          have SS6 : SS W6 wr.heap.size (.slice (some ⟨g3, 0, none⟩) ps.length pcap) (ps.set 0 r) := by
            rw [hW6]
            exact SS.put S5 (by omega) (unhide HNE) (hr5.mono (by have := (unhide HB4).size; have := (unhide HB3).size; omega)) hrne
          have B6 : Below wr.heap.size wr W6 := by rw [hW6]; exact B35.setCell hgge _
          have HV6 := hide (set_valid (unhide HVAL) (unhide HQV))
          have hll : (ps.set 0 r).length = ps.length := List.length_set
          obtain ⟨la6, lc6, hsh6, hlc6, hLV6⟩ := SS6.lv (fun i hi => Pth.val_ne ((unhide HV6) i hi))
          rw [hll] at hsh6 hlc6
          simp only [Value.slice.injEq, true_and] at hsh6
          obtain ⟨rfl, rfl⟩ := hsh6
          have HAR2 := hide (fun W (hW : Below W6.heap.size W6 W) => l1ArrayV_any (some ⟨g3, 0, none⟩) pcap (ps.set 0 r) W (hLV6.below hW) (by rw [hll]; exact hlc6) (by rw [hll]; omega) (unhide HV6))
          rw [hll, unhide HSET] at HAR2
          have HL6 := hide (Lc.below (unhide hLc) B6)
          obtain ⟨ss, hsl, hown, hres⟩ := (unhide HL6).ss
          have hge := ownsRow_base hown
          have HO := hide hown
          have HRS := hide hres
          have HSL := hide hsl
          have HGE := hide hge
          have g1 := (unhide HL6).gt.cell 1
          simp only [List.getElem?_cons_zero, List.getElem?_cons_succ] at g1
          have hgtl := (unhide HL6).gt.lt
          have KEEP := hide (show ∀ W : World, W.heap[W2.heap.size]? = W6.heap[W2.heap.size]? → W.cell? ⟨W2.heap.size, 1, none⟩ = some sv from fun W hW => (Al.cell_block hW).trans g1)
          obtain ⟨va, vn, vc, hvs⟩ := Al.row_shape hown
          subst hvs
          clear hown hres hsl hge g1 SS6 hLV6 hlc6 hll S5 B35 B45 hr5 hb5 HAR HB3 HB4 HS HNE HVAL HSET HV6 HQV HQ1 B6 hgge hrne hLc HP2 HP0
          generalize cutL D (L.take k) = q at *
          go_upto_region 14 with fail
          rw [← hW6]
          clear hW6
          refine Z.region 7 (fun W => W.heap[W2.heap.size]? = W6.heap[W2.heap.size]?) (by kernel_rfl) rfl (fun hHeld => ?_)
          refine Z.take (i := 0) (d := 48) (v := .pointer (some ⟨W2.heap.size, 1, none⟩)) rfl rfl (by kernel_rfl) (by kernel_rfl) (by kernel_rfl) (by kernel_rfl) (fun _ _ _ h => h) (Or.inl ⟨by rfl, ?_⟩) hHeld ?_
          · intro w' hSw; go_simp
          simp only [Act.put, List.setIfInBounds_toArray, List.set_cons_zero, List.set_cons_succ]
          refine Z.take (i := 1) (d := 49) (v := .slice va vn vc) rfl rfl (by kernel_rfl) (by kernel_rfl) (by kernel_rfl) (by kernel_rfl) (fun _ _ _ h => h) (Or.inl ⟨by rfl, ?_⟩) hHeld ?_
          · intro w' hSw; have g1 := (unhide KEEP) _ hSw; go_simp
          simp only [Act.put, List.setIfInBounds_toArray, List.set_cons_zero, List.set_cons_succ]
          refine Z.take (i := 2) (d := 50) (v := .slice (some ⟨g3, 0, none⟩) ps.length pcap) rfl rfl (by kernel_rfl) (by kernel_rfl) (by kernel_rfl) (by kernel_rfl) (fun _ _ _ h => h) (Or.inl ⟨by rfl, ?_⟩) hHeld ?_
          · intro w' hSw; go_simp
          simp only [Act.put, List.setIfInBounds_toArray, List.set_cons_zero, List.set_cons_succ]
          refine Z.only (i := 3) (d := 51) rfl rfl (by kernel_rfl) (by rfl) (fun K hK => ?_)
          go_simp
          refine ((unhide HAR2) _ (Below.refl _ _).drew).mono ?_
          rintro e W7 ⟨s51, rfl, hr51, hb51⟩
          have B67 : Below W6.heap.size W6 W7 := (Below.refl _ _).drew.trans (hb51.mono (Nat.le_refl _))
          obtain ⟨ya, yn, yc, hy51⟩ := hr51.shape
          subst hy51
          have HR51 := hide (show Res W7 W6.heap.size (.slice ya yn yc) (cutE D l) from hr51)
          go_simp
          refine hK.out (.slice ya yn yc) W7 (B67.block _ hgtl) ?_
          clear hK K hr51 hb51
          simp only [Act.put, List.setIfInBounds_toArray, List.set_cons_zero, List.set_cons_succ]
          obtain ⟨W8, hW8⟩ : ∃ W8, W8 = W7.alloc (.cells #[.slice ya yn yc] 28) := ⟨_, rfl⟩
          have B78 : Below W7.heap.size W7 W8 := by rw [hW8]; exact (Below.refl _ _).alloc (Nat.le_refl _) _
          have hN8 : ∀ j u, ([Value.slice ya yn yc] : List Value)[j]? = some u → W8.cell? ((⟨W7.heap.size, 0, none⟩ : Addr).add j) = some u := by rw [hW8]; exact one_val W7 _ _
          have HW8 := hide hW8
          have B68 : Below W6.heap.size W6 W8 := B67.trans (B78.mono B67.size)
          refine Z.ready (rs := [4]) (by kernel_rfl) (by simp) (Z.val_cons (i := 4) (d := 52) (v := .slice (some ⟨W7.heap.size, 0, none⟩) 1 1) (w' := W8) rfl (by rfl) (fun K hK => ?_) (fun _ => B68.block _ hgtl) ?_ Z.All.nil)
          · go_simp
            rw [← hW8]
            exact hK.out
          simp only [Act.put, List.setIfInBounds_toArray, List.set_cons_zero, List.set_cons_succ]
          clear hW8
          have HO8 := hide (Al.row_below (unhide HO) B68)
          refine Z.only (i := 5) (d := 53) rfl rfl (by kernel_rfl) (by rfl) (fun K hK => ?_)
          refine Al.wp_row _ (.tmp 49) (.tmp 52) 24 rfl 28 i0 (.slice none 0 0) 24 Try.underlying24 hi hz0 hz1 hz2 rfl (W2.heap.size + 1) (.slice va vn vc) q.length ss rfl (unhide HO8) (.slice (some ⟨W7.heap.size, 0, none⟩) 1 1) rfl [.slice ya yn yc] (.inr ⟨_, 1, rfl, hN8⟩) (by intro u hu; rw [List.mem_singleton.1 hu]; rfl) (by unfold maxLen; simp; omega) (by simp; omega) (by have := B68.size; omega) ?_
          intro v53 W9 ho9 hg9
          have S9 : W9.heap[W2.heap.size]? = W6.heap[W2.heap.size]? := (hg9.block _ (by have := B68.size; omega) (fun e => by have := (unhide HGE) _ e.symm; omega)).trans (B68.block _ hgtl)
          have NEXT := hide (Lc.next (unhide HL6) ss (unhide HSL) (unhide HO) (unhide HRS) B67 (unhide HR51) (v' := v53) (W3 := W9) ho9 (by rw [← unhide HW8]; exact hg9))
          obtain ⟨za, zn, zc, hz9⟩ := Al.row_shape ho9
          subst hz9
          refine hK.out (.slice za zn zc) W9 S9 ?_
          clear hK K ho9 hg9
          simp only [Act.put, List.setIfInBounds_toArray, List.set_cons_zero, List.set_cons_succ]
          have c1 : W9.cell? ⟨W2.heap.size, 1, none⟩ = some (.slice va vn vc) := (unhide KEEP) W9 S9
          have z1 : W9.frozen? ⟨W2.heap.size, 1, none⟩ = false := by
            have h := (show Own W9 W2.heap.size 46 _ from by obtain ⟨c, h1, h2⟩ := (unhide HL6).gt; exact ⟨c, S9.trans h1, h2⟩)
            exact h.frozen 1
          refine Z.take (i := 6) (d := 54) (v := .pointer (some ⟨W2.heap.size, 1, none⟩)) rfl rfl (by kernel_rfl) (by kernel_rfl) (by kernel_rfl) (by kernel_rfl) (fun _ _ _ h => h) (Or.inl ⟨by rfl, ?_⟩) S9 ?_
          · intro w' hSw; go_simp
          simp only [Act.put, List.setIfInBounds_toArray, List.set_cons_zero, List.set_cons_succ]
          refine Z.last_at (w' := W9.setCell ⟨W2.heap.size, 1, none⟩ (.slice za zn zc)) rfl (by kernel_rfl) (by rfl) (fun K hK => ?_) ?_
          · go_simp
            exact hK.out
          refine Z.done (by kernel_rfl) ?_ _
          generalize W9.setCell ⟨W2.heap.size, 1, none⟩ (.slice za zn zc) = W10 at *
          clear c1 z1 S9 HO8 B68 HW8 hN8 B78 HR51 B67 KEEP HO HRS HSL HGE HAR2 HL6
          go_wp2_with fail
          go_roundg (n - (k + 1))
          case rel => exact ⟨k + 1, _, rfl, by go_num, by omega, by rw [unhide HSU2]; exact unhide NEXT⟩
          case measure => have := hg.out; omega
        · have HSU2 := hide (show cutL D (L.take (k + 1)) = cutL D (L.take k) by rw [unhide HSU, unhide HKP, decide_eq_false hkp, if_neg (by simp), List.append_nil])
          have hkpI : (cs.length : Int) ≤ (D : Int) := by omega
          have NEXT := hide (Lc.below (unhide hLc) ((unhide HB3).trans (hb4.mono (unhide HB3).size)))
          clear HSU HKP hkp hLc hpl hb4 HB3 HS k0
          go_wp2_with fail
          go_roundg (n - (k + 1))
          case rel => exact ⟨k + 1, sv, rfl, by go_num, by omega, by rw [unhide HSU2]; exact unhide NEXT⟩
          case measure => have := hg.out; omega
      · have hke : k = n := by omega
        have hLk : L.take k = L := by rw [hke, ← unhide HNL, List.take_length]
        have hL := hLc.out
        rw [hLk] at hL
        obtain ⟨va, vn, vc, hvs⟩ : ∃ a m c, sv = .slice a m c := by obtain ⟨ss, _, ho, _⟩ := hL.ss; exact Al.row_shape ho
        subst hvs
        have hne : ∀ i, i < (cutL D L).length → (cutL D L).getD i [] ≠ [] := fun i hi h => by
          have hm2 : (cutL D L).getD i [] ∈ cutL D L := by rw [List.getD_eq_getElem?_getD, List.getElem?_eq_getElem hi]; exact List.getElem_mem hi
          unfold cutL at hm2
          obtain ⟨l, _, hl⟩ := List.mem_map.1 hm2
          unfold cutL at h
          rw [h] at hl
          unfold cutE laid arrV arrK at hl
          cases hl
        have BB := hide (hL.low.trans (hL.bel.mono hL.low.size))
        have hlo := hL.lo
        have HPS := hide (hL.ss.ps hne)
        have E := hide (show ∀ x y, PS ((wr.setCell ⟨w.heap.size, 0, none⟩ x).setCell ⟨w.heap.size, 1, none⟩ y) w.heap.size ((wr.setCell ⟨w.heap.size, 0, none⟩ x).setCell ⟨w.heap.size, 1, none⟩ y).heap.size (.slice va vn vc) (cutL D L) from fun x y => by
          rw [size_setCell2]
          exact ((unhide HPS).keep fun k h1 _ _ => heap_setCell2 wr _ x y k (by omega)).mono (by omega) (Nat.le_refl _))
        have q0 := hL.gt.cell 0
        have q1 := hL.gt.cell 1
        have p0 := hL.rs.cell 0
        have p1 := hL.rs.cell 1
        have y0 := hL.rs.frozen 0
        have y1 := hL.rs.frozen 1
        simp only [List.getElem?_cons_zero, List.getElem?_cons_succ] at q0 q1 p0 p1
        clear hke hL hne HPS hLk hLc
        go_wp2_with fail
        refine bodyPost_ret (v := .agg #[.int .i64 0, .slice va vn vc]) (by simp [results, Try.results43, go_sem, p0, p1]) rfl (ansS_of (unhide FIN) ((unhide E) _ _) (store_below (unhide BB) _ _))
  · have fin := hide ((unhide FB) hz)
    have hz' : (q == 0) = false := by simp [hz]
    clear FR FB FO FN hz
    go_wp2_with fail
    rw [← hW2]
    clear hW2
    refine bodyPost_ret (v := .agg #[.int .i64 q, .slice none 0 0]) (by simp [results, Try.results43, go_sem, r0, r1]) rfl (ansS_of (unhide fin) (.inl ⟨rfl, rfl⟩) (store_below B2 _ _))
end Sev
end Go.Proofs.Ythaabakpcokomaa
