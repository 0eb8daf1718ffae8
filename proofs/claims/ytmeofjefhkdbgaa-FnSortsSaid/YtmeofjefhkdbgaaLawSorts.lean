/-
  Proved: whatever bytes it is given, laws.FnSorts returns true: what is sorted is in order, and has all that it had. No condition.
-/
import Derived.Test.YtmeofjefhkdbgaaQ52
import Derived.ChangeOld
import Derived.Deep.RegionHeld3
import Derived.OpenShut
import Derived.ProofKit
import Derived.ShutString
namespace Go.Proofs.Ytmeofjefhkdbgaa
open Go.ChangeShapes Go.WideShapes Go.ChangeAt Go.RowKit
set_option linter.unusedVariables false
set_option linter.unusedSimpArgs false

set_option maxRecDepth 100000 in
set_option maxHeartbeats 4000000 in
theorem lawSorts_walk (a : Option Addr) (len cap : Nat) (w : World) (hB : BytR w a len cap) :
    Calls Try.prog 3 #[.slice a len cap] w fun e w' => e = .returned (.bool true) ∧ Below w.heap.size w w' := by
  by_cases hbig : 1048576 < len
  · go_enter Try.func3, Try.ntmps3
    go_wp2_with fail
    refine (lwBig_any a len cap _).mono ?_
    rintro e w1 ⟨rfl, hw1⟩
    rw [hw1, decide_eq_true hbig]
    clear hw1
    go_wp2_with fail
    go_ret
    exact ⟨rfl, Below.refl _ _⟩
  have HD := hide (drawSort_any a len cap w hB.1 (by omega))
  clear hB
  go_enter Try.func3, Try.ntmps3
  go_wp2_with fail
  refine (lwBig_any a len cap _).mono ?_
  rintro e w1 ⟨rfl, hw1⟩
  rw [hw1, decide_eq_false hbig]
  clear hw1
  go_wp2_with fail
  refine (unhide HD).mono ?_
  rintro e V0 ⟨s1, l, rfl, G1, BW⟩
  have HG := hide G1
  have FIN := hide (fun (V : World) (hV : Below V0.heap.size V0 V) => BW.trans (hV.mono BW.size))
  obtain ⟨g1, c1, rfl, hg1, hc1, hrow1⟩ := G1.at
  have hok := G1.2.2.2
  have hl3 := G1.2.2.1
  clear HD BW
  by_cases hx : (sortOut l).1 = 0
  · obtain ⟨hv, hso, hR, heR, hel, hag, hn2, hps, hss, hcmp, hsame⟩ := So.told hok hx
    have HCNT := hide (fun f => So.cnt_sorted f (subs l 0))
    have hlS := sortedP_length (subs l 0)
    obtain ⟨R, hRd⟩ : ∃ R, R = arrV (sortedP (subs l 0)) := ⟨_, rfl⟩
    rw [← hRd] at hso hR heR hag hsame
    have hRl := (M.fault_zero hR)
    have HSO := hide (Dv.soi (unhide HG) (Below.refl _ _) hso)
    have HEL := hide (fun V hV => Dv.eci (unhide HG) (V := V) hV hel)
    have HEQ := hide heR
    have HAG := hide hag
    have HSM := hide hsame
    have HPS := hide hps
    have HSS := hide hss
    have HCM := hide hcmp
    have HR := hide hR
    clear hx hRd hso heR hel hag hsame hps hss hcmp hR hv hok
    generalize sortedP (subs l 0) = S at *
    generalize subs l 0 = ps at *
    obtain ⟨n, hn⟩ : ∃ n, n = ps.length := ⟨_, rfl⟩
    rw [← hn] at hlS hn2 HPS HSS HCM
    have HLS := hide hlS
    have HLP := hide hn.symm
    go_wp2_with fail
    refine (unhide HSO).mono ?_
    rintro e V1 ⟨s2, rfl, hr2, hb2⟩
    obtain ⟨b2, c2, rfl, hc2, hlt2, hrow2⟩ := hr2.rowedD (fun e => by rw [e] at hRl; simp at hRl)
    obtain ⟨w3, hw3⟩ : ∃ w3, w3 = V1.alloc (.cells #[.int .i64 0, .slice (some ⟨b2, 0, none⟩) R.length c2] 27) := ⟨_, rfl⟩
    have B13 : Below V1.heap.size V1 w3 := by rw [hw3]; exact (Below.refl _ _).alloc (Nat.le_refl _) _
    have B03 : Below V0.heap.size V0 w3 := hb2.trans (B13.mono hb2.size)
    have O3 : Own w3 V1.heap.size 27 [.int .i64 0, .slice (some ⟨b2, 0, none⟩) R.length c2] := by rw [hw3]; exact ⟨_, heap_alloc_new _ _, rfl⟩
    have hrow3 := hrow2.below B13 hlt2
    have hlt3 : b2 < w3.heap.size := Nat.lt_of_lt_of_le hlt2 B13.size
    have HO := hide (fun V (h : Below w3.heap.size w3 V) => O3.below h O3.lt)
    have HRW := hide (fun V (h : Below w3.heap.size w3 V) => hrow3.below h hlt3)
    have HEA := hide (So.each R b2 0 c2 w3 hrow3 hlt3 (by omega) hc2 (So.oks (unhide HR)) (unhide HEQ))
    rw [unhide HLS] at HEA
    have c30 := O3.cell 0
    have c31 := O3.cell 1
    simp only [List.getElem?_cons_zero, List.getElem?_cons_succ] at c30 c31
    clear hr2 hb2 hrow2 B13 hrow3 O3 HSO HEQ hlS hn hrow1
    rw [hw3] at c30 c31
    go_wp2_with fail
    rw [← hw3]
    clear hw3 c30 c31
    refine (unhide HEA).mono ?_
    rintro e w4 ⟨a4, c4, rfl, hc4, hlv4, hb4⟩
    have B34 : Below w3.heap.size w3 w4 := hb4
    have B04 : Below V0.heap.size V0 w4 := B03.trans (hb4.mono B03.size)
    have hfq := fun W => fldPR1 0 a4 n c4 W
    have HE2 := hide ((unhide HEL) w4 B04)
    rw [unhide HLP] at HE2
    clear hb4 HEA HEL
    go_wp2_with fail
    refine (unhide HE2).mono ?_
    rintro e w5 ⟨a5, c5, rfl, hc5, hlv5, hb5⟩
    have B35 : Below w3.heap.size w3 w5 := B34.trans (hb5.mono B34.size)
    have hlv45 := hlv4.below hb5
    have hfq := fun W => fldPR1 0 a5 n c5 W
    have hne : ((n : Int) != (n : Int)) = false := by simp
    have c51 := ((unhide HO) w5 B35).cell 1
    simp only [List.getElem?_cons_zero, List.getElem?_cons_succ] at c51
    have HVF := hide (implFault_any R b2 0 c2 w5 ((unhide HRW) w5 B35) (Nat.lt_of_lt_of_le hlt3 B35.size) (by omega) hc2 (So.oks (unhide HR)))
    rw [unhide HR] at HVF
    clear hb5 HE2 hlv4 B04 B34
    go_wp2_with fail
    refine (unhide HVF).mono ?_
    rintro e w6 ⟨rfl, hb6⟩
    have B36 : Below w3.heap.size w3 w6 := B35.trans (hb6.mono B35.size)
    have LS := hide (fun V (h : Below w6.heap.size w6 V) => (hlv45.below hb6).below h)
    have LP := hide (fun V (h : Below w6.heap.size w6 V) => (hlv5.below hb6).below h)
    clear hb6 HVF hlv45 hlv5 c51 hfq B35 hne
    go_wp2_with fail
    go_loopg [7] n (fun gh s7 wr => ∃ i : Nat, Hid (gh = n - i) ∧ s7 = .int .i64 (i : Int) ∧ i ≤ n ∧ Below w6.heap.size w6 wr)
    case atStart => exact ⟨0, rfl, rfl, by omega, Below.refl _ _⟩
    case round =>
      obtain ⟨i, hg, rfl, hi, hbel⟩ := hrel
      by_cases hlt : i < n
      · have hltI : (i : Int) < (n : Int) := by omega
        have hi0 : (0 : Int) ≤ (i : Int) := by omega
        have HGO := hide hg.out
        have HIL := hide hlt
        by_cases hz : i = 0
        · have hn0 : decide ((i : Int) > 0) = false := decide_eq_false (by omega)
          have hn1 : decide ((0 : Int) < (i : Int)) = false := decide_eq_false (by omega)
          have hn2' : ¬ 0 < i := by omega
          have hn3' : decide (0 < i) = false := decide_eq_false hn2'
          clear hz
          go_wp2_with fail
          go_quiet (fail)
          have BIN : Below w6.heap.size w6 (wr.drewN nq) := below_drewN hbel nq
          clear hbel
          go_wp2_with fail
          obtain ⟨f, hf⟩ : ∃ f, f = sameOut (S.getD i []) := ⟨_, rfl⟩
          have HF := hide (show ∀ q, sameOut (S.getD i []) q = f q from fun q => by rw [hf])
          clear hf
          go_loopg [8, 9, 10] n (fun gh s8 s9 s10 wr => ∃ k : Nat, Hid (gh = n - k) ∧ s8 = .int .i64 ((So.cnt f S k : Nat) : Int) ∧ s9 = .int .i64 ((So.cnt f ps k : Nat) : Int) ∧ s10 = .int .i64 (k : Int) ∧ k ≤ n ∧ Below w6.heap.size w6 wr)
          case atStart => exact ⟨0, rfl, by rw [So.cnt_zero]; rfl, by rw [So.cnt_zero]; rfl, rfl, by omega, BIN⟩
          case round =>
            clear BIN
            obtain ⟨k, hg, rfl, rfl, rfl, hk, hbl⟩ := hrel
            have a1 := So.cnt_le f S k
            have a2 := So.cnt_le f ps k
            by_cases hkl : k < n
            · have hkI : (k : Int) < (n : Int) := by omega
              have hk0 : (0 : Int) ≤ (k : Int) := by omega
              have HKL := hide hkl
              obtain ⟨g1', b1, o1, d1, g2, b2', o2, d2, q1, q2, hg1', hg2, x1, x2, hs, _⟩ := So.two ((unhide LS) wr hbl) ((unhide LS) wr hbl) (i := i) (k := k) (by rw [unhide HLS]; exact unhide HIL) (by rw [unhide HLS]; exact hkl) ((unhide HSS) i (unhide HIL)) ((unhide HSS) k hkl)
              obtain ⟨yy1, hy1⟩ : ∃ y, f (S.getD k []) = y := ⟨_, rfl⟩
              rw [(unhide HF) (S.getD k []), hy1] at hs
              have HC := hide (fun V hV => hs V hV)
              cases q1
              cases q2
              have BD := (Below.refl wr.heap.size wr).drew
              clear hs hkl
              generalize hA : So.cnt f S k = A at *
              generalize hC : So.cnt f ps k = C at *
              go_wp2_with fail
              go_region_held3 (fun w' => w'.cell? ⟨g1', i, none⟩ = some (.slice (some ⟨b1, o1, none⟩) (S.getD i []).length d1) ∧ w'.cell? ⟨g1', k, none⟩ = some (.slice (some ⟨b2', o2, none⟩) (S.getD k []).length d2))
                (first | (simp [go_sem, x1, x2]; done) | exact ⟨(hbq.cell (by exact hg1')).trans x1, (hbq.cell (by exact hg1')).trans x2⟩)
                (first | (go_at_call 12; refine ((unhide HC) _ BD).mono ?_; rintro e wq ⟨rfl, hbq⟩))

              clear x1 x2 HC BD
              have HY1 := hide hy1
              clear hy1
              cases yy1
              · have e1 := hide (So.cnt_no (L := S) (by rw [unhide HLS]; exact unhide HKL) (unhide HY1))
                rw [hA] at e1
                clear HY1
                have BD := (Below.refl wq.heap.size wq).drew
                have HB2 := hide (show Below w6.heap.size w6 wq from hbl.drew.trans (hbq.mono hbl.size))
                obtain ⟨g3, b3, o3, d3, g4, b4, o4, d4, q1, q2, hg3, hg4, y1, y2, hs2, _⟩ := So.two ((unhide LS) wq (unhide HB2)) ((unhide LP) wq (unhide HB2)) (i := i) (k := k) (by rw [unhide HLS]; exact unhide HIL) (by rw [unhide HLP]; exact unhide HKL) ((unhide HSS) i (unhide HIL)) ((unhide HPS) k (unhide HKL))
                obtain ⟨yy2, hy⟩ : ∃ y, f (ps.getD k []) = y := ⟨_, rfl⟩
                rw [(unhide HF) (ps.getD k []), hy] at hs2
                have HC2 := hide (fun V hV => hs2 V hV)
                cases q1
                cases q2
                clear hs2 hbq
                generalize hpk : (ps.getD k []).length = lk at *
                generalize hpi2 : (S.getD i []).length = li2 at *
                have HY2 := hide hy
                clear hy

                go_wp2_with fail
                go_region_held3 (fun w' => w'.cell? ⟨g1', i, none⟩ = some (.slice (some ⟨b3, o3, none⟩) li2 d3) ∧ w'.cell? ⟨g4, k, none⟩ = some (.slice (some ⟨b4, o4, none⟩) lk d4))
                  (first | (simp [go_sem, y1, y2]; done) | exact ⟨(hbq.cell (by exact hg3)).trans y1, (hbq.cell (by exact hg4)).trans y2⟩)
                  (first | (go_at_call 12; refine ((unhide HC2) _ BD).mono ?_; rintro e wq ⟨rfl, hbq⟩))
                have HB3 := hide (show Below w6.heap.size w6 wq from (unhide HB2).drew.trans (hbq.mono (unhide HB2).size))
                clear hbq
                cases yy2
                · have e2 := hide (So.cnt_no (L := ps) (by rw [unhide HLP]; exact unhide HKL) (unhide HY2))
                  rw [hC] at e2
                  clear HY2
                  go_wp2_with fail
                  go_roundg (n - (k + 1))
                  case rel => exact ⟨k + 1, rfl, by rw [unhide e1] <;> go_num, by rw [unhide e2] <;> go_num, by go_num, by have := unhide HKL; omega, unhide HB3⟩
                  case measure => have := hg.out; have := unhide HKL; omega
                · have e2 := hide (So.cnt_yes (L := ps) (by rw [unhide HLP]; exact unhide HKL) (unhide HY2))
                  rw [hC] at e2
                  clear HY2
                  go_wp2_with fail
                  go_roundg (n - (k + 1))
                  case rel => exact ⟨k + 1, rfl, by rw [unhide e1] <;> go_num, by rw [unhide e2] <;> go_num, by go_num, by have := unhide HKL; omega, unhide HB3⟩
                  case measure => have := hg.out; have := unhide HKL; omega

              · have e1 := hide (So.cnt_yes (L := S) (by rw [unhide HLS]; exact unhide HKL) (unhide HY1))
                rw [hA] at e1
                clear HY1
                have BD := (Below.refl wq.heap.size wq).drew
                have HB2 := hide (show Below w6.heap.size w6 wq from hbl.drew.trans (hbq.mono hbl.size))
                obtain ⟨g3, b3, o3, d3, g4, b4, o4, d4, q1, q2, hg3, hg4, y1, y2, hs2, _⟩ := So.two ((unhide LS) wq (unhide HB2)) ((unhide LP) wq (unhide HB2)) (i := i) (k := k) (by rw [unhide HLS]; exact unhide HIL) (by rw [unhide HLP]; exact unhide HKL) ((unhide HSS) i (unhide HIL)) ((unhide HPS) k (unhide HKL))
                obtain ⟨yy2, hy⟩ : ∃ y, f (ps.getD k []) = y := ⟨_, rfl⟩
                rw [(unhide HF) (ps.getD k []), hy] at hs2
                have HC2 := hide (fun V hV => hs2 V hV)
                cases q1
                cases q2
                clear hs2 hbq
                generalize hpk : (ps.getD k []).length = lk at *
                generalize hpi2 : (S.getD i []).length = li2 at *
                have HY2 := hide hy
                clear hy

                go_wp2_with fail
                go_region_held3 (fun w' => w'.cell? ⟨g1', i, none⟩ = some (.slice (some ⟨b3, o3, none⟩) li2 d3) ∧ w'.cell? ⟨g4, k, none⟩ = some (.slice (some ⟨b4, o4, none⟩) lk d4))
                  (first | (simp [go_sem, y1, y2]; done) | exact ⟨(hbq.cell (by exact hg3)).trans y1, (hbq.cell (by exact hg4)).trans y2⟩)
                  (first | (go_at_call 12; refine ((unhide HC2) _ BD).mono ?_; rintro e wq ⟨rfl, hbq⟩))
                have HB3 := hide (show Below w6.heap.size w6 wq from (unhide HB2).drew.trans (hbq.mono (unhide HB2).size))
                clear hbq
                cases yy2
                · have e2 := hide (So.cnt_no (L := ps) (by rw [unhide HLP]; exact unhide HKL) (unhide HY2))
                  rw [hC] at e2
                  clear HY2
                  go_wp2_with fail
                  go_roundg (n - (k + 1))
                  case rel => exact ⟨k + 1, rfl, by rw [unhide e1] <;> go_num, by rw [unhide e2] <;> go_num, by go_num, by have := unhide HKL; omega, unhide HB3⟩
                  case measure => have := hg.out; have := unhide HKL; omega
                · have e2 := hide (So.cnt_yes (L := ps) (by rw [unhide HLP]; exact unhide HKL) (unhide HY2))
                  rw [hC] at e2
                  clear HY2
                  go_wp2_with fail
                  go_roundg (n - (k + 1))
                  case rel => exact ⟨k + 1, rfl, by rw [unhide e1] <;> go_num, by rw [unhide e2] <;> go_num, by go_num, by have := unhide HKL; omega, unhide HB3⟩
                  case measure => have := hg.out; have := unhide HKL; omega
            · have hke : k = n := by omega
              have hab := hide (show So.cnt f S k = So.cnt f ps k by
                have := (unhide HCNT) f
                rw [unhide HLS, unhide HLP] at this
                rw [hke]; exact this)
              rw [unhide hab]
              generalize So.cnt f ps k = C at *
              have hcc : ((C : Int) != (C : Int)) = false := by simp
              clear hab hke
              go_wp2_with fail
              go_roundg (n - (i + 1))
              case rel => exact ⟨i + 1, rfl, by go_num, by have := unhide HIL; omega, hbl⟩
              case measure => have := unhide HGO; have := unhide HIL; omega
        · obtain ⟨m, hm⟩ : ∃ m, i = m + 1 := ⟨i - 1, by omega⟩
          have hsub : (i : Int) - 1 = (m : Int) := by omega
          have hm0 : (0 : Int) ≤ (m : Int) := by omega
          have hmI : (m : Int) < (n : Int) := by omega
          have hi1 : decide ((0 : Int) < (i : Int)) = true := decide_eq_true (by omega)
          have hi2 : decide ((i : Int) > 0) = true := decide_eq_true (by omega)
          have hi3 : (0 : Int) < (i : Int) := by omega
          have hi4 : 0 < i := by omega
          have hi5 : decide (0 < i) = true := decide_eq_true hi4
          have hw1 : IntKind.i64.wrap ((i : Int) - 1) = (m : Int) := by rw [hsub]; exact IntWalk.i64_in _ ⟨by omega, by omega⟩
          have hw2 : IntKind.i64.wrap (m : Int) = (m : Int) := IntWalk.i64_in _ ⟨by omega, by omega⟩
          have HQ := hide (show cmpOut (S.getD m []) (S.getD i []) ≤ 0 by rw [hm]; exact (unhide HCM) m (by omega))
          obtain ⟨g1', b1, o1, d1, g2, b2', o2, d2, q1, q2, hg1', hg2, x1, x2, _, hc⟩ := So.two ((unhide LS) wr hbel) ((unhide LS) wr hbel) (i := m) (k := i) (by rw [unhide HLS]; omega) (by rw [unhide HLS]; exact hlt) ((unhide HSS) m (by omega)) ((unhide HSS) i hlt)
          have HC := hide (fun V hV => hc V hV)
          cases q1
          cases q2
          have BD := (Below.refl wr.heap.size wr).drew
          clear hc hm hz hlt
          generalize cmpOut (S.getD m []) (S.getD i []) = qq at *
          go_wp2_with fail
          go_region_held3 (fun w' => w'.cell? ⟨g1', m, none⟩ = some (.slice (some ⟨b1, o1, none⟩) (S.getD m []).length d1) ∧ w'.cell? ⟨g1', i, none⟩ = some (.slice (some ⟨b2', o2, none⟩) (S.getD i []).length d2))
            (first | (simp [go_sem, x1, x2]; done) | exact ⟨(hbq.cell (by exact hg1')).trans x1, (hbq.cell (by exact hg1')).trans x2⟩)
            (first | (go_at_call 11; refine ((unhide HC) _ BD).mono ?_; rintro e wq ⟨rfl, hbq⟩))
          have BIN : Below w6.heap.size w6 wq := hbel.drew.trans (hbq.mono hbel.size)
          have hqq : ¬ (0 < qq) := by have := unhide HQ; omega
          clear hbq hbel x1 x2 HC BD hsub HQ
          go_wp2_with fail
          obtain ⟨f, hf⟩ : ∃ f, f = sameOut (S.getD i []) := ⟨_, rfl⟩
          have HF := hide (show ∀ q, sameOut (S.getD i []) q = f q from fun q => by rw [hf])
          clear hf
          go_loopg [8, 9, 10] n (fun gh s8 s9 s10 wr => ∃ k : Nat, Hid (gh = n - k) ∧ s8 = .int .i64 ((So.cnt f S k : Nat) : Int) ∧ s9 = .int .i64 ((So.cnt f ps k : Nat) : Int) ∧ s10 = .int .i64 (k : Int) ∧ k ≤ n ∧ Below w6.heap.size w6 wr)
          case atStart => exact ⟨0, rfl, by rw [So.cnt_zero]; rfl, by rw [So.cnt_zero]; rfl, rfl, by omega, BIN⟩
          case round =>
            clear BIN
            obtain ⟨k, hg, rfl, rfl, rfl, hk, hbl⟩ := hrel
            have a1 := So.cnt_le f S k
            have a2 := So.cnt_le f ps k
            by_cases hkl : k < n
            · have hkI : (k : Int) < (n : Int) := by omega
              have hk0 : (0 : Int) ≤ (k : Int) := by omega
              have HKL := hide hkl
              obtain ⟨g1', b1, o1, d1, g2, b2', o2, d2, q1, q2, hg1', hg2, x1, x2, hs, _⟩ := So.two ((unhide LS) wr hbl) ((unhide LS) wr hbl) (i := i) (k := k) (by rw [unhide HLS]; exact unhide HIL) (by rw [unhide HLS]; exact hkl) ((unhide HSS) i (unhide HIL)) ((unhide HSS) k hkl)
              obtain ⟨yy1, hy1⟩ : ∃ y, f (S.getD k []) = y := ⟨_, rfl⟩
              rw [(unhide HF) (S.getD k []), hy1] at hs
              have HC := hide (fun V hV => hs V hV)
              cases q1
              cases q2
              have BD := (Below.refl wr.heap.size wr).drew
              clear hs hkl
              generalize hA : So.cnt f S k = A at *
              generalize hC : So.cnt f ps k = C at *
              go_wp2_with fail
              go_region_held3 (fun w' => w'.cell? ⟨g1', i, none⟩ = some (.slice (some ⟨b1, o1, none⟩) (S.getD i []).length d1) ∧ w'.cell? ⟨g1', k, none⟩ = some (.slice (some ⟨b2', o2, none⟩) (S.getD k []).length d2))
                (first | (simp [go_sem, x1, x2]; done) | exact ⟨(hbq.cell (by exact hg1')).trans x1, (hbq.cell (by exact hg1')).trans x2⟩)
                (first | (go_at_call 12; refine ((unhide HC) _ BD).mono ?_; rintro e wq ⟨rfl, hbq⟩))

              clear x1 x2 HC BD
              have HY1 := hide hy1
              clear hy1
              cases yy1
              · have e1 := hide (So.cnt_no (L := S) (by rw [unhide HLS]; exact unhide HKL) (unhide HY1))
                rw [hA] at e1
                clear HY1
                have BD := (Below.refl wq.heap.size wq).drew
                have HB2 := hide (show Below w6.heap.size w6 wq from hbl.drew.trans (hbq.mono hbl.size))
                obtain ⟨g3, b3, o3, d3, g4, b4, o4, d4, q1, q2, hg3, hg4, y1, y2, hs2, _⟩ := So.two ((unhide LS) wq (unhide HB2)) ((unhide LP) wq (unhide HB2)) (i := i) (k := k) (by rw [unhide HLS]; exact unhide HIL) (by rw [unhide HLP]; exact unhide HKL) ((unhide HSS) i (unhide HIL)) ((unhide HPS) k (unhide HKL))
                obtain ⟨yy2, hy⟩ : ∃ y, f (ps.getD k []) = y := ⟨_, rfl⟩
                rw [(unhide HF) (ps.getD k []), hy] at hs2
                have HC2 := hide (fun V hV => hs2 V hV)
                cases q1
                cases q2
                clear hs2 hbq
                generalize hpk : (ps.getD k []).length = lk at *
                generalize hpi2 : (S.getD i []).length = li2 at *
                have HY2 := hide hy
                clear hy

                go_wp2_with fail
                go_region_held3 (fun w' => w'.cell? ⟨g1', i, none⟩ = some (.slice (some ⟨b3, o3, none⟩) li2 d3) ∧ w'.cell? ⟨g4, k, none⟩ = some (.slice (some ⟨b4, o4, none⟩) lk d4))
                  (first | (simp [go_sem, y1, y2]; done) | exact ⟨(hbq.cell (by exact hg3)).trans y1, (hbq.cell (by exact hg4)).trans y2⟩)
                  (first | (go_at_call 12; refine ((unhide HC2) _ BD).mono ?_; rintro e wq ⟨rfl, hbq⟩))
                have HB3 := hide (show Below w6.heap.size w6 wq from (unhide HB2).drew.trans (hbq.mono (unhide HB2).size))
                clear hbq
                cases yy2
                · have e2 := hide (So.cnt_no (L := ps) (by rw [unhide HLP]; exact unhide HKL) (unhide HY2))
                  rw [hC] at e2
                  clear HY2
                  go_wp2_with fail
                  go_roundg (n - (k + 1))
                  case rel => exact ⟨k + 1, rfl, by rw [unhide e1] <;> go_num, by rw [unhide e2] <;> go_num, by go_num, by have := unhide HKL; omega, unhide HB3⟩
                  case measure => have := hg.out; have := unhide HKL; omega
                · have e2 := hide (So.cnt_yes (L := ps) (by rw [unhide HLP]; exact unhide HKL) (unhide HY2))
                  rw [hC] at e2
                  clear HY2
                  go_wp2_with fail
                  go_roundg (n - (k + 1))
                  case rel => exact ⟨k + 1, rfl, by rw [unhide e1] <;> go_num, by rw [unhide e2] <;> go_num, by go_num, by have := unhide HKL; omega, unhide HB3⟩
                  case measure => have := hg.out; have := unhide HKL; omega

              · have e1 := hide (So.cnt_yes (L := S) (by rw [unhide HLS]; exact unhide HKL) (unhide HY1))
                rw [hA] at e1
                clear HY1
                have BD := (Below.refl wq.heap.size wq).drew
                have HB2 := hide (show Below w6.heap.size w6 wq from hbl.drew.trans (hbq.mono hbl.size))
                obtain ⟨g3, b3, o3, d3, g4, b4, o4, d4, q1, q2, hg3, hg4, y1, y2, hs2, _⟩ := So.two ((unhide LS) wq (unhide HB2)) ((unhide LP) wq (unhide HB2)) (i := i) (k := k) (by rw [unhide HLS]; exact unhide HIL) (by rw [unhide HLP]; exact unhide HKL) ((unhide HSS) i (unhide HIL)) ((unhide HPS) k (unhide HKL))
                obtain ⟨yy2, hy⟩ : ∃ y, f (ps.getD k []) = y := ⟨_, rfl⟩
                rw [(unhide HF) (ps.getD k []), hy] at hs2
                have HC2 := hide (fun V hV => hs2 V hV)
                cases q1
                cases q2
                clear hs2 hbq
                generalize hpk : (ps.getD k []).length = lk at *
                generalize hpi2 : (S.getD i []).length = li2 at *
                have HY2 := hide hy
                clear hy

                go_wp2_with fail
                go_region_held3 (fun w' => w'.cell? ⟨g1', i, none⟩ = some (.slice (some ⟨b3, o3, none⟩) li2 d3) ∧ w'.cell? ⟨g4, k, none⟩ = some (.slice (some ⟨b4, o4, none⟩) lk d4))
                  (first | (simp [go_sem, y1, y2]; done) | exact ⟨(hbq.cell (by exact hg3)).trans y1, (hbq.cell (by exact hg4)).trans y2⟩)
                  (first | (go_at_call 12; refine ((unhide HC2) _ BD).mono ?_; rintro e wq ⟨rfl, hbq⟩))
                have HB3 := hide (show Below w6.heap.size w6 wq from (unhide HB2).drew.trans (hbq.mono (unhide HB2).size))
                clear hbq
                cases yy2
                · have e2 := hide (So.cnt_no (L := ps) (by rw [unhide HLP]; exact unhide HKL) (unhide HY2))
                  rw [hC] at e2
                  clear HY2
                  go_wp2_with fail
                  go_roundg (n - (k + 1))
                  case rel => exact ⟨k + 1, rfl, by rw [unhide e1] <;> go_num, by rw [unhide e2] <;> go_num, by go_num, by have := unhide HKL; omega, unhide HB3⟩
                  case measure => have := hg.out; have := unhide HKL; omega
                · have e2 := hide (So.cnt_yes (L := ps) (by rw [unhide HLP]; exact unhide HKL) (unhide HY2))
                  rw [hC] at e2
                  clear HY2
                  go_wp2_with fail
                  go_roundg (n - (k + 1))
                  case rel => exact ⟨k + 1, rfl, by rw [unhide e1] <;> go_num, by rw [unhide e2] <;> go_num, by go_num, by have := unhide HKL; omega, unhide HB3⟩
                  case measure => have := hg.out; have := unhide HKL; omega
            · have hke : k = n := by omega
              have hab := hide (show So.cnt f S k = So.cnt f ps k by
                have := (unhide HCNT) f
                rw [unhide HLS, unhide HLP] at this
                rw [hke]; exact this)
              rw [unhide hab]
              generalize So.cnt f ps k = C at *
              have hcc : ((C : Int) != (C : Int)) = false := by simp
              clear hab hke
              go_wp2_with fail
              go_roundg (n - (i + 1))
              case rel => exact ⟨i + 1, rfl, by go_num, by have := unhide HIL; omega, hbl⟩
              case measure => have := unhide HGO; have := unhide HIL; omega
      · have hltI : ¬ (i : Int) < (n : Int) := by omega
        have B3r : Below w3.heap.size w3 wr := B36.trans (hbel.mono B36.size)
        have c1r := ((unhide HO) wr B3r).cell 1
        simp only [List.getElem?_cons_zero, List.getElem?_cons_succ] at c1r
        have HAGC := hide (implSortOf_any R b2 0 c2 wr ((unhide HRW) wr B3r) (Nat.lt_of_lt_of_le hlt3 B3r.size) (by omega) hc2 (So.oks (unhide HR)))
        rw [unhide HAG] at HAGC
        go_wp2_with fail
        refine (unhide HAGC).mono ?_
        rintro e w7 ⟨s7, rfl, hr7, hb7⟩
        obtain ⟨b7, c7, rfl, hc7, hlt7, hrow7⟩ := hr7.rowedD (fun (e : R = []) => by rw [e] at hRl; simp at hRl)
        obtain ⟨w8, hw8⟩ : ∃ w8, w8 = w7.alloc (.cells #[.int .i64 0, .slice (some ⟨b7, 0, none⟩) R.length c7] 27) := ⟨_, rfl⟩
        have B78 : Below w7.heap.size w7 w8 := by rw [hw8]; exact (Below.refl _ _).alloc (Nat.le_refl _) _
        have B38 : Below w3.heap.size w3 w8 := (B3r.trans (hb7.mono B3r.size)).trans (B78.mono (B3r.trans (hb7.mono B3r.size)).size)
        have O8 : Own w8 w7.heap.size 27 [.int .i64 0, .slice (some ⟨b7, 0, none⟩) R.length c7] := by rw [hw8]; exact ⟨_, heap_alloc_new _ _, rfl⟩
        have d0 := O8.cell 0
        have d1 := O8.cell 1
        have d2 := ((unhide HO) w8 B38).cell 1
        simp only [List.getElem?_cons_zero, List.getElem?_cons_succ] at d0 d1 d2
        have HS8 := hide (implSame_any R R b7 0 c7 b2 0 c2 w8 (hrow7.below B78 hlt7) (Nat.lt_of_lt_of_le hlt7 B78.size) (by omega) hc7 (So.oks (unhide HR)) ((unhide HRW) w8 B38) (Nat.lt_of_lt_of_le hlt3 B38.size) (by omega) hc2 (So.oks (unhide HR)))
        rw [unhide HSM] at HS8
        have B08 : Below V0.heap.size V0 w8 := B03.trans (B38.mono B03.size)
        rw [hw8] at d0 d1 d2
        clear hr7 hb7 hrow7 B78 B38 O8 c1r HAGC B3r
        go_wp2_with fail
        rw [← hw8]
        clear hw8 d0 d1 d2
        refine (unhide HS8).mono ?_
        rintro e w9 ⟨rfl, hb9⟩
        go_wp2_with fail
        go_ret
        exact ⟨ret_bool (by simp), unhide FIN _ (B08.trans (hb9.mono B08.size))⟩
  · obtain ⟨⟨x, r⟩, hq⟩ : ∃ q, sortOut l = q := ⟨_, rfl⟩
    rw [hq] at hx
    simp only at hx
    have g0 : (x != 0) = true := by simpa using hx
    go_wp2_with fail
    refine (Dv.soi (unhide HG) (Below.refl _ _) hq).mono ?_
    rintro e V1 ⟨s2, rfl, hr2, hb2⟩
    obtain ⟨a2, n2, c2, rfl⟩ := hr2.shape
    obtain ⟨w3, hw3⟩ : ∃ w3, w3 = V1.alloc (.cells #[.int .i64 x, .slice a2 n2 c2] 27) := ⟨_, rfl⟩
    have O3 : Own w3 V1.heap.size 27 [.int .i64 x, .slice a2 n2 c2] := by rw [hw3]; exact ⟨_, heap_alloc_new _ _, rfl⟩
    have B3 : Below V0.heap.size V0 w3 := by rw [hw3]; exact hb2.alloc hb2.size _
    have HS := hide (fun (V : World) (hV : Below V0.heap.size V0 V) => Dv.sos (unhide HG) hV hq)
    have c0 := O3.cell 0
    simp only [List.getElem?_cons_zero] at c0
    clear hr2 hb2 hx
    go_wp2_with fail
    rw [← hw3]
    clear hw3
    go_region_with (go_at_call 8; refine ((unhide HS) _ B3.drew).mono ?_; rintro e w4 ⟨s4, rfl, hr4, hb4⟩; obtain ⟨a4, n4, c4, rfl⟩ := hr4.shape; have hf0 := fun W => fldVR x a4 n4 c4 W; have cc := ((show Own w3.drew V1.heap.size 27 [.int .i64 x, .slice a2 n2 c2] from O3).below hb4 O3.lt).cell 0; simp only [List.getElem?_cons_zero] at cc)
    all_goals
      go_wp2_with fail
      go_ret
      exact ⟨ret_bool (by simp), unhide FIN _ (B3.drew.trans (hb4.mono B3.size))⟩

namespace lawSorts
theorem own : ownKnob Try.prog.godebug = none := by kernel_rfl
theorem laidOut : laidOutB Try.prog = true := by kernel_rfl

set_option maxRecDepth 100000 in
theorem lifted (os : Os) (started : os.Started) (H : Type) (enc : TypeId × Value → H) :
    ReturnsInHanded {} Try.checked os 3 .any (Rows.fnSortsSpec.pre6 enc Try.prog Try.f3 Rows.fnSortsRow.domain false) (Rows.fnSortsSpec.post enc Try.prog Try.f3 false true false false) := by
  refine returnsInHanded_of_change (C := Try.checked) own started (by kernel_rfl) Try.func3
    (ChangeSpec.witness6 (enc := enc) (C := Try.checked) false ⟨#[], #[.slice none 0 0], []⟩ 8 (by kernel_rfl) (by kernel_rfl) (by kernel_rfl) (by kernel_rfl)) ?_
  intro W base args ds gs before hval0 hW hcnd _
  have hval : ∀ (j : Nat) t v, Try.f3.params[j]? = some t → args[j]? = some v → Value.okWide Try.prog W .any base t v := hval0
  have hW' := hW
  obtain ⟨p, q, hA0, hV, rfl, hfz, hnd⟩ := hW
  have hA : DataW.TrodAll enc Try.prog W 0 (fun _ => true) true Try.f3.params.toList args.toList ds p := hA0
  rw [Try.params3] at hA hval
  obtain ⟨v0, vs0, d0, ds0, p0, q0, hargs, rfl, rfl, h0, r0⟩ := trodAll_cons hA
  obtain ⟨rfl, rfl, rfl⟩ := trodAll_nil r0
  obtain rfl : args = #[v0] := by cases args; simp_all
  obtain ⟨rfl, rfl⟩ := trodVars_none hV
  obtain ⟨a0, len0, cap0, rfl⟩ := okWide_slice Try.underlying22 (hval 0 22 v0 rfl rfl)
  have k0 := h0
  have lt0 : ∀ x ∈ p0, x.block < W.heap.size := by obtain ⟨m, hm⟩ := k0; exact DataW.trod_lt m _ _ _ hm
  have w0 : BytR W a0 len0 cap0 := by
    obtain ⟨fuel, hf⟩ := h0
    exact open_bytR hf
  clear hA0 hval0
  refine (lawSorts_walk a0 len0 cap0 W w0).mono fun e W' ⟨he, bel⟩ => ?_
  subst he
  exact ⟨_, rfl, _, _, _, [], _, [], hW', trodAll_mk1 (shut_bool Try.underlying4 _), (trodAll_cons_mk (Below.trod laidOut (by kernel_rfl) (of_decide_eq_true (by kernel_rfl)) k0 bel lt0) trodAll_mk0), rfl, bel.frame _, fun h => by cases h⟩

theorem over : Rows.fnSortsRow.holds Try.pinned (OpenSpec.ofChange Rows.fnSortsSpec) :=
  OpenClaim.holds_of_wide 3 Try.f3 rfl rfl rfl rfl rfl rfl rfl ⟨rfl, rfl, rfl, rfl, rfl⟩ rfl rfl rfl rfl rfl (by kernel_rfl) Try.func3 (by kernel_rfl)
    (of_decide_eq_true (by kernel_rfl)) (by unfold Func.isWrapper; first | (rw [if_pos (by decide +kernel)]; kernel_rfl) | (rw [if_neg (by decide +kernel)]; exact ⟨rfl, rfl⟩))
    (fun os started H enc _ => lifted os started H enc)
end lawSorts

/-- The statement. -/
theorem lawSorts_holds : Rows.FnSortsSaid := lawSorts.over
#print axioms lawSorts_holds

end Go.Proofs.Ytmeofjefhkdbgaa
