/-
  Proved: whatever bytes it is given, laws.FnAllPaths returns true: each value within one has its path, and is got there. The library's listed tables are tied.
-/
import Derived.Test.YtfcglmkbfdfaeaaDoorT17
import Derived.Test.YtfcglmkbfdfaeaaDoorT24
import Derived.Test.YtfcglmkbfdfaeaaDoorT25
import Derived.Test.YtfcglmkbfdfaeaaDoorT26
import Derived.Test.YtfcglmkbfdfaeaaDoorT34
import Derived.Test.YtfcglmkbfdfaeaaDoorT39
import Derived.Test.YtfcglmkbfdfaeaaDoorT49
import Derived.ChangeOld
import Derived.Deep.RegionHeld3
import Derived.LaidMore
import Derived.Lib.AppendIntMem
import Derived.Lib.LaidTab
import Derived.Lib.SmallJoins
import Derived.MakeChecks
import Derived.OpenShut
import Derived.ProofKit
import Derived.SevenTiedAt
import Derived.ShutString
import Derived.Stop.Joined
import Derived.Stop.LaidErr
import Derived.Test.YtfcglmkbfdfaeaaDoorCards
import Derived.Test.YtfcglmkbfdfaeaaDoorTie
namespace Go.Proofs.YtfcglmkbfdfaeaaDoor
open Go.ChangeShapes Go.WideShapes Go.ChangeAt Go.RowKit
set_option linter.unusedVariables false
set_option linter.unusedSimpArgs false

namespace Ap
/-- What stands of the paths of a value. -/
structure Aps (l : List M.Cl) (L T : List (List M.Cl)) : Prop where
  ok : M.valueFault l = 0
  out : Al.pathsOut false l = (0, L)
  lout : Al.pathsOut true l = (0, T)
  len : L.length = l.length
  tlen : T.length ≤ l.length
  tpos : 0 < T.length
  at_ : ∀ i, i < l.length → Pth.getOutP l (L.getD i []) = (0, part l i) ∧ M.valueFault (part l i) = 0 ∧ partOut l i = (0, part l i) ∧ (Pth.textOut (L.getD i [])).1 = 0 ∧ (L.getD i []).length ≤ 300 ∧ (∀ c ∈ L.getD i [], c.ok) ∧ sameOut (part l i) (part l i) = true
theorem aps_of {l : List M.Cl} (h : (Al.pathsOut false l).1 = 0) : ∃ L T, Aps l L T := by
  have hv : M.valueFault l = 0 := by
    by_cases hv : M.valueFault l = 0
    · exact hv
    · rw [Al.paths_bad hv] at h; exact absurd h hv
  have hl1 := (M.fault_zero hv).1
  have hl2 := (M.fault_zero hv).2.1
  obtain ⟨q1, q2⟩ := Al.here l.length l [] hv (Nat.le_refl _)
  have q3 := Al.all_len true l.length l [] hv
  have q4 := Al.leaf_some l.length l [] hv (Nat.le_refl _)
  refine ⟨_, _, hv, Al.paths_ok hv, Al.paths_ok hv, by rw [List.length_map]; exact q1, by rw [List.length_map]; exact q3, by rw [List.length_map]; exact List.length_pos_iff.2 q4, fun i hi => ?_⟩
  have hi' : i < (Al.steps false l).length := by unfold Al.steps; omega
  obtain ⟨s1, s2, _⟩ := Al.steps_at false hv hi'
  obtain ⟨q, e1, e2⟩ := q2 i hi
  rw [List.nil_append] at e1
  have e3 : (Al.steps false l).getD i [] = q := e1
  have hm : ((Al.steps false l).map Al.pathC).getD i [] = Al.pathC q := by
    rw [← e3, List.getD_eq_getElem?_getD, List.getElem?_map, List.getElem?_eq_getElem hi', List.getD_eq_getElem?_getD, List.getElem?_eq_getElem hi']; rfl
  rw [e3] at s1 s2
  obtain ⟨p1, p2, p3⟩ := Al.pathC_ok s1 (by omega)
  have hpv := part_valid hv hi
  rw [hm]
  refine ⟨?_, hpv, ?_, ?_, by rw [Al.pathC_length]; omega, Pth.oks p1, ?_⟩
  · rw [Pth.getP_ok (by rw [Pth.asked_ok hv]; exact p2), p3, e2]
  · rw [_root_.Go.Proofs.YtfcglmkbfdfaeaaDoor.part_ok (asked_in hv (by omega) (by omega))]; simp
  · rw [Pth.text_ok p2]
  · rw [Od.same_eq hpv hpv, Od.out_self hpv]; rfl
theorem fldP (x : Int) (a : Option Addr) (n c : Nat) (w : World) : (Instr.field 28 (.agg #[.int .i64 x, .slice a n c]) 0).run Tryd.prog w = .ok (.int .i64 x) w := by kernel_rfl
theorem fldV1 (x : Int) (a : Option Addr) (n c : Nat) (w : World) : (Instr.field 31 (.agg #[.int .i64 x, .slice a n c]) 1).run Tryd.prog w = .ok (.slice a n c) w := by kernel_rfl
theorem fldT (x : Int) (t : ByteArray) (w : World) : (Instr.field 36 (.agg #[.int .i64 x, .string t]) 0).run Tryd.prog w = .ok (.int .i64 x) w := by kernel_rfl
theorem rowed {w : World} {B : Nat} {s : Value} {l : List M.Cl} (h : Res w B s l) (hne : l ≠ []) : ∃ b cap, s = .slice (some ⟨b, 0, none⟩) l.length cap ∧ l.length ≤ cap ∧ b < w.heap.size ∧ Row w b 0 l := by
  obtain ⟨hn, ⟨h1, h2⟩ | ⟨b, cap, h1, h2, h3, h4⟩⟩ := h
  · exact absurd h2 hne
  · exact ⟨b, cap, h1, h3, h4.lt, h4.row⟩
theorem ne_of {l : List M.Cl} (h : M.valueFault l = 0) : l ≠ [] := by intro e; have := (M.fault_zero h).1; rw [e] at this; simp at this
end Ap
set_option maxRecDepth 100000 in
set_option maxHeartbeats 4000000 in
theorem drawPaths_any (a : Option Addr) (len cap : Nat) (w : World) (hB : Byts w a len cap) (hl : len ≤ 1048600) : Calls Tryd.prog 5 #[.slice a len cap] w fun e w' => ∃ s l, e = .returned s ∧ Dv.Got w' w.heap.size s l ∧ Below w.heap.size w w' := by
  have HS := hide (l1Source_any a len cap w hB.2 hB.1 hl)
  clear hB
  go_enter Tryd.func5, Tryd.ntmps5
  go_wp2_with fail
  refine (unhide HS).mono ?_
  rintro e w1 ⟨rfl, S1, B1⟩
  go_wp2_with fail
  refine (l1Bent_any w.heap.size len cap 0 a w1 S1 (by omega)).mono ?_
  rintro e w2 ⟨s, l, at2, rfl, hr, hl3, hok, S2, _, T2, g, gc, rfl⟩
  have BF : Below w.heap.size w w2 := B1.trans (T2.below B1.size (Nat.le_refl _))
  have HG := hide (show Dv.Got w2 w.heap.size (.slice (some ⟨g, 0, none⟩) l.length gc) l from ⟨⟨g, gc, rfl⟩, hr.mono B1.size, hl3, hok⟩)
  clear hr hok S1 S2 T2
  go_wp2_with fail
  go_ret
  exact ⟨_, l, rfl, unhide HG, BF⟩

set_option maxRecDepth 100000 in
set_option maxHeartbeats 8000000 in
theorem lawAllPaths_walk (a : Option Addr) (len cap : Nat) (w : World) (hB : Byts w a len cap) (htab : Lib.TabIs Tryd.prog w "internal/strconv.uint64pow10" .u64 Lib.pow10Tab) :
    Calls Tryd.prog 3 #[.slice a len cap] w fun e w' => e = .returned (.bool true) ∧ Below w.heap.size w w' := by
  by_cases hbig : 1048576 < len
  · go_enter Tryd.func3, Tryd.ntmps3
    go_wp2_with fail
    refine (lwBig_any a len cap _).mono ?_
    rintro e w1 ⟨rfl, hw1⟩
    rw [hw1, decide_eq_true hbig]
    clear hw1
    go_wp2_with fail
    go_ret
    exact ⟨rfl, Below.refl _ _⟩
  have HD := hide (drawPaths_any a len cap w hB (by omega))
  have HT := hide (Lib.tabBelow_of_tabIs htab)
  clear hB htab
  go_enter Tryd.func3, Tryd.ntmps3
  go_wp2_with fail
  refine (lwBig_any a len cap _).mono ?_
  rintro e w1 ⟨rfl, hw1⟩
  rw [hw1, decide_eq_false hbig]
  clear hw1
  go_wp2_with fail
  refine (unhide HD).mono ?_
  rintro e V0 ⟨s1, l, rfl, G1, BW⟩
  have FIN := hide (fun (V : World) (hV : Below V0.heap.size V0 V) => BW.trans (hV.mono BW.size))
  obtain ⟨g1, c1, rfl, hg1, hc1, hrow1⟩ := G1.at
  have hok := G1.2.2.2
  have hl3 := G1.2.2.1
  have HPT := hide (fun (V : World) (hV : Below V0.heap.size V0 V) (p : List M.Cl) b off c (hr : Row V b off p) (hb : b < V.heap.size) (hn : p.length ≤ 300) (hc : p.length ≤ c) (hcm : c ≤ 9223372036854775807) (hk : ∀ c ∈ p, c.ok) => implPathText_any p b off c V hr hb (by omega) hc hcm hk (fun w' hb' => (unhide HT) w' (((unhide FIN) V hV).trans (hb'.mono ((unhide FIN) V hV).size))))
  have HRW := hide (fun (V : World) (hV : Below V0.heap.size V0 V) => (show Row V g1 0 l ∧ g1 < V.heap.size from ⟨hrow1.below hV hg1, Nat.lt_of_lt_of_le hg1 hV.size⟩))
  have HPI := hide (Al.implPathsIn_any l g1 0 c1 V0 hrow1 hg1 (by omega) hc1 hok)
  clear HD BW G1 HT
  by_cases hx : (Al.pathsOut false l).1 = 0
  · obtain ⟨L, T, A⟩ := Ap.aps_of hx
    have hlen := A.len
    have htl := A.tlen
    have htp := A.tpos
    have hl1 := (M.fault_zero A.ok).1
    have hl2 := (M.fault_zero A.ok).2.1
    have HA := hide A.at_
    have HLI := hide (fun V (hV : Below V0.heap.size V0 V) => (show Calls Tryd.prog 8 #[.slice (some ⟨g1, 0, none⟩) l.length c1] V (Al.AnsQ V (0, T)) by rw [← A.lout]; exact Al.implLeavesIn_any l g1 0 c1 V ((unhide HRW) V hV).1 ((unhide HRW) V hV).2 (by omega) hc1 hok))
    rw [A.out] at HPI
    have HOK := hide hok
    clear hx A hok hrow1
    go_wp2_with fail
    refine (unhide HPI).mono ?_
    rintro e V1 ⟨s2, rfl, hq, hb1⟩
    obtain ⟨a2, c2, rfl⟩ := hq.shapeN
    simp only at hq ⊢
    have HQ := hide hq
    rw [hlen]
    obtain ⟨w3, hw3⟩ : ∃ w3, w3 = V1.alloc (.cells #[.int .i64 0, .slice a2 l.length c2] 28) := ⟨_, rfl⟩
    have B13 : Below V1.heap.size V1 w3 := by rw [hw3]; exact (Below.refl _ _).alloc (Nat.le_refl _) _
    have B03 : Below V0.heap.size V0 w3 := hb1.trans (B13.mono hb1.size)
    have HO3 := hide (show Own w3 V1.heap.size 28 [.int .i64 0, .slice a2 l.length c2] by rw [hw3]; exact ⟨_, heap_alloc_new _ _, rfl⟩)
    have HQ3 := hide ((unhide HQ).below B13)
    have p0 : w3.cell? ⟨V1.heap.size, 0, none⟩ = some (.int .i64 0) := (unhide HO3).cell 0
    rw [hw3] at p0
    clear hq HQ hb1 B13 HPI
    go_wp2_with fail
    rw [← hw3]
    clear hw3
    refine ((unhide HLI) w3 B03).mono ?_
    rintro e V4 ⟨s5, rfl, hq5, hb4⟩
    obtain ⟨a5, c5, rfl⟩ := hq5.shapeN
    simp only at hq5 ⊢
    obtain ⟨n, hn⟩ : ∃ n, n = l.length := ⟨_, rfl⟩
    obtain ⟨tl, htl'⟩ : ∃ tl, tl = T.length := ⟨_, rfl⟩
    rw [← htl'] at htl htp ⊢
    obtain ⟨w5, hw5⟩ : ∃ w5, w5 = V4.alloc (.cells #[.int .i64 0, .slice a5 tl c5] 28) := ⟨_, rfl⟩
    have B45 : Below V4.heap.size V4 w5 := by rw [hw5]; exact (Below.refl _ _).alloc (Nat.le_refl _) _
    have B35 : Below w3.heap.size w3 w5 := hb4.trans (B45.mono hb4.size)
    have B05 : Below V0.heap.size V0 w5 := B03.trans (B35.mono B03.size)
    have HO5 := hide (show Own w5 V4.heap.size 28 [.int .i64 0, .slice a5 tl c5] by rw [hw5]; exact ⟨_, heap_alloc_new _ _, rfl⟩)
    have HO3' := hide ((unhide HO3).below B35 (unhide HO3).lt)
    have HQ5 := hide ((unhide HQ3).below B35)
    have p1 : w5.cell? ⟨V1.heap.size, 1, none⟩ = some (.slice a2 l.length c2) := (unhide HO3').cell 1
    have p2 : w5.cell? ⟨V4.heap.size, 0, none⟩ = some (.int .i64 0) := (unhide HO5).cell 0
    have p3 : w5.cell? ⟨V4.heap.size, 1, none⟩ = some (.slice a5 tl c5) := (unhide HO5).cell 1
    rw [hw5] at p1 p2 p3
    have e1 : ((l.length : Int) != (l.length : Int)) = false := by simp
    have e2 : ¬ (l.length : Int) < (tl : Int) := by omega
    have e3 : ((tl : Int) == 0) = false := by simp; omega
    have e4 : decide ((l.length : Int) < (tl : Int)) = false := decide_eq_false e2
    have HL := hide hlen
    clear hq5 hb4 B45 HO3 HQ3 p0 htl' hn htl htp HLI hlen
    go_wp2_with fail
    rw [← hw5]
    clear hw5 p1 p2 p3 e1 e2 e3 e4
    go_loopg [6] l.length (fun gh s6 wr => ∃ k : Nat, Hid (gh = l.length - k) ∧ s6 = .int .i64 (k : Int) ∧ k ≤ l.length ∧ Below w5.heap.size w5 wr)
    case atStart => exact ⟨0, rfl, rfl, by omega, Below.refl _ _⟩
    case round =>
      obtain ⟨k, hg, rfl, hk, hbel⟩ := hrel
      have BR : Below V0.heap.size V0 wr := B05.trans (hbel.mono B05.size)
      by_cases hlt : k < l.length
      · have hltI : (k : Int) < (l.length : Int) := by omega
        have hk0 : (0 : Int) ≤ (k : Int) := by omega
        obtain ⟨t1, t2, t3, t4, t5, t6, t7⟩ := (unhide HA) k hlt
        obtain ⟨gq, cq, bq, eq', hcq, hgq, fq, hbq, hrq⟩ := ((unhide HQ5).below hbel).at (i := k) (by rw [unhide HL]; exact hlt)
        rw [unhide HL] at eq' hcq
        cases eq'
        have ORr := (unhide HO3').below hbel (unhide HO3').lt
        have p1 : wr.cell? ⟨V1.heap.size, 1, none⟩ = some (.slice (some ⟨gq, 0, none⟩) l.length c2) := ORr.cell 1
        have hbase : V1.heap.size < w5.heap.size := (unhide HO3').lt
        have hgq5 : gq < w5.heap.size := by obtain ⟨g', c', b', e', _, h', _⟩ := (unhide HQ5).at (i := k) (by rw [unhide HL]; exact hlt); cases e'; exact h'
        have hbq5 : bq < wr.heap.size := hbq
        have HGP := hide (implGetPath_any l g1 0 c1 (L.getD k []) bq (tot L k * 5) (L.getD k []).length wr ((unhide HRW) wr BR).1 ((unhide HRW) wr BR).2 (by omega) hc1 (unhide HOK) hrq hbq (by omega) (Nat.le_refl _) (by omega) t6)
        rw [t1] at HGP
        have HPA := hide (fun V (hV : Below V0.heap.size V0 V) => (show Calls Tryd.prog 11 #[.slice (some ⟨g1, 0, none⟩) l.length c1, .int .i64 (k : Int)] V (Ans V (0, part l k)) by rw [← t3]; exact implPartAt_any l g1 0 c1 k V ((unhide HRW) V hV).1 ((unhide HRW) V hV).2 (by omega) hc1 (unhide HOK)))
        have hpn := Ap.ne_of t2
        have hpl := (M.fault_zero t2).2.1
        have hpo := Pth.oks t2
        obtain ⟨p, hp⟩ : ∃ p, p = L.getD k [] := ⟨_, rfl⟩
        rw [← hp] at t1 t4 t5 t6 fq hrq HGP
        have HSM := hide t7
        have HT4 := hide t4
        have HT6 := hide t6
        have HRQ := hide (fun V (hV : Below wr.heap.size wr V) => hrq.below hV hbq5)
        have HPO := hide hpo
        obtain ⟨u, hu⟩ : ∃ u, u = part l k := ⟨_, rfl⟩
        rw [← hu] at HGP HPA HSM hpn hpl HPO
        have hu2 : M.valueFault u = 0 := by rw [hu]; exact t2
        have HU2 := hide hu2
        clear t1 t2 t3 t4 t6 t7 hp hu hrq hpo hu2
        go_wp2_with fail
        refine (unhide HGP).mono ?_
        rintro e V6 ⟨s7, rfl, hr7, hb6⟩
        obtain ⟨b7, c7, rfl, hc7, hlt7, hrow7⟩ := Ap.rowed hr7 hpn
        simp only at hc7 hrow7 ⊢
        obtain ⟨w7, hw7⟩ : ∃ w7, w7 = V6.alloc (.cells #[.int .i64 0, .slice (some ⟨b7, 0, none⟩) u.length c7] 31) := ⟨_, rfl⟩
        have B67 : Below V6.heap.size V6 w7 := by rw [hw7]; exact (Below.refl _ _).alloc (Nat.le_refl _) _
        have B57 : Below w5.heap.size w5 w7 := hbel.trans ((hb6.trans (B67.mono hb6.size)).mono hbel.size)
        have Br7 : Below wr.heap.size wr w7 := hb6.trans (B67.mono hb6.size)
        have B07 : Below V0.heap.size V0 w7 := B05.trans (B57.mono B05.size)
        have HO7 := hide (show Own w7 V6.heap.size 31 [.int .i64 0, .slice (some ⟨b7, 0, none⟩) u.length c7] by rw [hw7]; exact ⟨_, heap_alloc_new _ _, rfl⟩)
        have ROW7 := hide (show Row w7 b7 0 u from hrow7.below B67 hlt7)
        have lt7 : b7 < w7.heap.size := Nat.lt_of_lt_of_le hlt7 B67.size
        have OR7 := (unhide HO3').below B57 (unhide HO3').lt
        have K0 := hide (fun W (h : Below w7.heap.size w7 W) => (show W.cell? ⟨V6.heap.size, 0, none⟩ = some (.int .i64 0) from (h.cell (unhide HO7).lt).trans ((unhide HO7).cell 0)))
        have K1 := hide (fun W (h : Below w7.heap.size w7 W) => (show W.cell? ⟨V6.heap.size, 1, none⟩ = some (.slice (some ⟨b7, 0, none⟩) u.length c7) from (h.cell (unhide HO7).lt).trans ((unhide HO7).cell 1)))
        have K2 := hide (fun W (h : Below w7.heap.size w7 W) => (show W.cell? ⟨V1.heap.size, 1, none⟩ = some (.slice (some ⟨gq, 0, none⟩) l.length c2) from (h.cell OR7.lt).trans (OR7.cell 1)))
        have K3 := hide (fun W (h : Below w7.heap.size w7 W) => (show W.cell? ⟨gq, k, none⟩ = some (.slice (some ⟨bq, tot L k * 5, none⟩) p.length p.length) from (h.cell (Nat.lt_of_lt_of_le hgq5 B57.size)).trans ((Br7.cell (show gq < wr.heap.size from hgq)).trans fq)))
        have HSA := hide (fun W (h : Below w7.heap.size w7 W) b c (hr : Row W b 0 u) (hb : b < W.heap.size) (hc : u.length ≤ c) => implSame_any u u b7 0 c7 b 0 c W ((unhide ROW7).below h lt7) (Nat.lt_of_lt_of_le lt7 h.size) (by omega) hc7 (unhide HPO) hr hb (by omega) hc (unhide HPO))
        rw [unhide HSM] at HSA
        have HTX := hide (fun W (h : Below w7.heap.size w7 W) => (unhide HPT) W (B07.trans (h.mono B07.size)) p bq (tot L k * 5) p.length ((unhide HRQ) W (Br7.trans (h.mono Br7.size))) (Nat.lt_of_lt_of_le hbq5 (Nat.le_trans Br7.size h.size)) t5 (Nat.le_refl _) (by omega) (unhide HT6))
        have HP7 := hide (fun W (h : Below w7.heap.size w7 W) => (unhide HPA) W (B07.trans (h.mono B07.size)))
        have hS0 : Below w7.heap.size w7 w7.drew := (Below.refl _ _).drew
        have HB57 := hide B57
        have hkb : k < c2 := by omega
        clear hr7 hb6 hrow7 hlt7 B67 HGP BR fq p1 ORr OR7 hbel B07 Br7 HPA HRQ HO7 ROW7
        go_wp2_with fail
        rw [← hw7]
        clear hw7
        refine Z.region 23 (fun W => Below w7.heap.size w7 W) (by kernel_rfl) hS0 (fun hHeld => ?_)
        refine Z.takeN (i := 0) (d := 64) (v := .pointer (some ⟨V6.heap.size, 0, none⟩)) rfl rfl (by kernel_rfl) (by kernel_rfl) (by kernel_rfl) (by rfl) (fun _ _ _ h => h) (Or.inl ⟨by rfl, ?_⟩) hHeld ?_
        · intro w' hSw; go_simp
        simp only [Act.put, List.setIfInBounds_toArray, List.set_cons_zero, List.set_cons_succ]
        refine Z.takeN (i := 1) (d := 65) (v := .int .i64 0) rfl rfl (by kernel_rfl) (by kernel_rfl) (by kernel_rfl) (by rfl) (fun _ _ _ h => h) (Or.inl ⟨by rfl, ?_⟩) hHeld ?_
        · intro w' hSw; have g1 := (unhide K0) _ hSw; go_simp
        simp only [Act.put, List.setIfInBounds_toArray, List.set_cons_zero, List.set_cons_succ]
        refine Z.takeN (i := 2) (d := 66) (v := .bool false) rfl rfl (by kernel_rfl) (by kernel_rfl) (by kernel_rfl) (by rfl) (fun _ _ _ h => h) (Or.inl ⟨by rfl, ?_⟩) hHeld ?_
        · intro w' hSw; go_simp
        simp only [Act.put, List.setIfInBounds_toArray, List.set_cons_zero, List.set_cons_succ]
        refine Z.takeN (i := 3) (d := 67) (v := .bool false) rfl rfl (by kernel_rfl) (by kernel_rfl) (by kernel_rfl) (by rfl) (fun _ _ _ h => h) (Or.inl ⟨by rfl, ?_⟩) hHeld ?_
        · intro w' hSw; go_simp
        simp only [Act.put, List.setIfInBounds_toArray, List.set_cons_zero, List.set_cons_succ]
        refine Z.takeN (i := 4) (d := 68) (v := .pointer (some ⟨V6.heap.size, 1, none⟩)) rfl rfl (by kernel_rfl) (by kernel_rfl) (by kernel_rfl) (by rfl) (fun _ _ _ h => h) (Or.inl ⟨by rfl, ?_⟩) hHeld ?_
        · intro w' hSw; go_simp
        simp only [Act.put, List.setIfInBounds_toArray, List.set_cons_zero, List.set_cons_succ]
        refine Z.takeN (i := 5) (d := 69) (v := .slice (some ⟨b7, 0, none⟩) u.length c7) rfl rfl (by kernel_rfl) (by kernel_rfl) (by kernel_rfl) (by rfl) (fun _ _ _ h => h) (Or.inl ⟨by rfl, ?_⟩) hHeld ?_
        · intro w' hSw; have g1 := (unhide K1) _ hSw; go_simp
        simp only [Act.put, List.setIfInBounds_toArray, List.set_cons_zero, List.set_cons_succ]
        refine Z.takeN (i := 6) (d := 70) (v := .slice (some ⟨g1, 0, none⟩) l.length c1) rfl rfl (by kernel_rfl) (by kernel_rfl) (by kernel_rfl) (by rfl) (fun _ _ _ h => h) (Or.inl ⟨by rfl, ?_⟩) hHeld ?_
        · intro w' hSw; go_simp
        simp only [Act.put, List.setIfInBounds_toArray, List.set_cons_zero, List.set_cons_succ]
        refine Z.takeN (i := 7) (d := 71) (v := .int .i64 (k : Int)) rfl rfl (by kernel_rfl) (by kernel_rfl) (by kernel_rfl) (by rfl) (fun _ _ _ h => h) (Or.inl ⟨by rfl, ?_⟩) hHeld ?_
        · intro w' hSw; go_simp
        simp only [Act.put, List.setIfInBounds_toArray, List.set_cons_zero, List.set_cons_succ]

        refine Z.only (i := 8) (d := 72) rfl rfl (by kernel_rfl) (by rfl) (fun K hK => ?_)
        go_simp
        refine ((unhide HP7) w7.drew hHeld).mono ?_
        rintro e W9 ⟨s9, rfl, hr9, hb9⟩
        obtain ⟨b9, c9, e9, hc9, hlt9, hrow9⟩ := Ap.rowed hr9 hpn
        subst e9
        have S9 : Below w7.heap.size w7 W9 := hHeld.trans (hb9.mono hHeld.size)
        have HS10 := hide ((unhide HSA) W9 S9 b9 c9 hrow9 hlt9 hc9)
        have hf9 := fun W => Ap.fldV1 0 (some ⟨b9, 0, none⟩) u.length c9 W
        go_simp
        refine hK.out _ W9 S9 ?_
        clear hK K hr9 hb9 hrow9
        simp only [Act.put, List.setIfInBounds_toArray, List.set_cons_zero, List.set_cons_succ]
        refine Z.takeN (i := 9) (d := 73) (v := .slice (some ⟨b9, 0, none⟩) u.length c9) rfl rfl (by kernel_rfl) (by kernel_rfl) (by kernel_rfl) (by rfl) (fun _ _ _ h => h) (Or.inl ⟨by rfl, ?_⟩) S9 ?_
        · intro w' hSw; first | (go_simp; done) | (go_simp; exact hf9 _) | (simp [go_sem, hf9]; done)
        simp only [Act.put, List.setIfInBounds_toArray, List.set_cons_zero, List.set_cons_succ]

        refine Z.only (i := 10) (d := 74) rfl rfl (by kernel_rfl) (by rfl) (fun K hK => ?_)
        go_simp
        refine (unhide HS10).mono ?_
        rintro e W11 ⟨rfl, hb11⟩
        have S11 : Below w7.heap.size w7 W11 := S9.trans (hb11.mono S9.size)
        have HT12 := hide ((unhide HTX) W11 S11)
        go_simp
        refine hK.out _ W11 S11 ?_
        clear hK K hb11 HS10 S9
        simp only [Act.put, List.setIfInBounds_toArray, List.set_cons_zero, List.set_cons_succ]
        refine Z.takeN (i := 11) (d := 75) (v := .bool false) rfl rfl (by kernel_rfl) (by kernel_rfl) (by kernel_rfl) (by rfl) (fun _ _ _ h => h) (Or.inl ⟨by rfl, ?_⟩) S11 ?_
        · intro w' hSw; go_simp
        simp only [Act.put, List.setIfInBounds_toArray, List.set_cons_zero, List.set_cons_succ]
        refine Z.takeN (i := 12) (d := 76) (v := .bool false) rfl rfl (by kernel_rfl) (by kernel_rfl) (by kernel_rfl) (by rfl) (fun _ _ _ h => h) (Or.inl ⟨by rfl, ?_⟩) S11 ?_
        · intro w' hSw; go_simp
        simp only [Act.put, List.setIfInBounds_toArray, List.set_cons_zero, List.set_cons_succ]
        refine Z.takeN (i := 13) (d := 77) (v := .bool false) rfl rfl (by kernel_rfl) (by kernel_rfl) (by kernel_rfl) (by rfl) (fun _ _ _ h => h) (Or.inl ⟨by rfl, ?_⟩) S11 ?_
        · intro w' hSw; go_simp
        simp only [Act.put, List.setIfInBounds_toArray, List.set_cons_zero, List.set_cons_succ]
        refine Z.takeN (i := 14) (d := 78) (v := .pointer (some ⟨V1.heap.size, 1, none⟩)) rfl rfl (by kernel_rfl) (by kernel_rfl) (by kernel_rfl) (by rfl) (fun _ _ _ h => h) (Or.inl ⟨by rfl, ?_⟩) S11 ?_
        · intro w' hSw; go_simp
        simp only [Act.put, List.setIfInBounds_toArray, List.set_cons_zero, List.set_cons_succ]
        refine Z.takeN (i := 15) (d := 79) (v := .slice (some ⟨gq, 0, none⟩) l.length c2) rfl rfl (by kernel_rfl) (by kernel_rfl) (by kernel_rfl) (by rfl) (fun _ _ _ h => h) (Or.inl ⟨by rfl, ?_⟩) S11 ?_
        · intro w' hSw; have g1 := (unhide K2) _ hSw; go_simp
        simp only [Act.put, List.setIfInBounds_toArray, List.set_cons_zero, List.set_cons_succ]
        refine Z.takeN (i := 16) (d := 80) (v := .int .i64 (k : Int)) rfl rfl (by kernel_rfl) (by kernel_rfl) (by kernel_rfl) (by rfl) (fun _ _ _ h => h) (Or.inl ⟨by rfl, ?_⟩) S11 ?_
        · intro w' hSw; go_simp
        simp only [Act.put, List.setIfInBounds_toArray, List.set_cons_zero, List.set_cons_succ]
        refine Z.takeN (i := 17) (d := 81) (v := .pointer (some ⟨gq, k, none⟩)) rfl rfl (by kernel_rfl) (by kernel_rfl) (by kernel_rfl) (by rfl) (fun _ _ _ h => h) (Or.inl ⟨by rfl, ?_⟩) S11 ?_
        · intro w' hSw; go_simp
        simp only [Act.put, List.setIfInBounds_toArray, List.set_cons_zero, List.set_cons_succ]
        refine Z.takeN (i := 18) (d := 82) (v := .slice (some ⟨bq, tot L k * 5, none⟩) p.length p.length) rfl rfl (by kernel_rfl) (by kernel_rfl) (by kernel_rfl) (by rfl) (fun _ _ _ h => h) (Or.inl ⟨by rfl, ?_⟩) S11 ?_
        · intro w' hSw; have g1 := (unhide K3) _ hSw; go_simp
        simp only [Act.put, List.setIfInBounds_toArray, List.set_cons_zero, List.set_cons_succ]

        refine Z.only (i := 19) (d := 83) rfl rfl (by kernel_rfl) (by rfl) (fun K hK => ?_)
        go_simp
        refine (unhide HT12).mono ?_
        rintro e W13 ⟨he13, hb13⟩
        rw [unhide HT4] at he13
        subst he13
        have S13 : Below w7.heap.size w7 W13 := S11.trans (hb13.mono S11.size)
        have hf13 := fun W => Ap.fldT 0 (Pth.textOut p).2 W
        go_simp
        refine hK.out _ W13 S13 ?_
        clear hK K hb13 HT12 S11
        simp only [Act.put, List.setIfInBounds_toArray, List.set_cons_zero, List.set_cons_succ]
        refine Z.takeN (i := 20) (d := 84) (v := .int .i64 0) rfl rfl (by kernel_rfl) (by kernel_rfl) (by kernel_rfl) (by rfl) (fun _ _ _ h => h) (Or.inl ⟨by rfl, ?_⟩) S13 ?_
        · intro w' hSw; first | (go_simp; done) | (go_simp; exact hf13 _) | (simp [go_sem, hf13]; done)
        simp only [Act.put, List.setIfInBounds_toArray, List.set_cons_zero, List.set_cons_succ]
        refine Z.takeN (i := 21) (d := 85) (v := .bool false) rfl rfl (by kernel_rfl) (by kernel_rfl) (by kernel_rfl) (by rfl) (fun _ _ _ h => h) (Or.inl ⟨by rfl, ?_⟩) S13 ?_
        · intro w' hSw; go_simp
        simp only [Act.put, List.setIfInBounds_toArray, List.set_cons_zero, List.set_cons_succ]

        refine Z.ready (rs := [22]) (by kernel_rfl) (by simp) (Z.val_cons (i := 22) (d := 86) (v := .bool false) (w' := W13) rfl (by rfl) (fun K hK => ?_) (fun _ => S13) ?_ Z.All.nil)
        · go_simp
          exact hK.out
        simp only [Act.put, List.setIfInBounds_toArray, List.set_cons_zero, List.set_cons_succ]
        refine Z.done (by kernel_rfl) ?_ _
        have B5q : Below w5.heap.size w5 W13 := (unhide HB57).trans (S13.mono (unhide HB57).size)
        clear S13 K0 K1 K2 K3 HSA HTX HP7 hHeld hS0
        go_wp2_with fail
        go_roundg (l.length - (k + 1))
        case rel => exact ⟨k + 1, rfl, by go_num, by omega, B5q⟩
        case measure => have := hg.out; omega

      · have hltI : ¬ (k : Int) < (l.length : Int) := by omega
        go_wp2_with fail
        go_ret
        exact ⟨rfl, unhide FIN _ BR⟩
  · obtain ⟨⟨q, r⟩, hq⟩ : ∃ q, Al.pathsOut false l = q := ⟨_, rfl⟩
    rw [hq] at hx HPI
    simp only at hx
    have g0 : (q != 0) = true := by simpa using hx
    have HSS := hide (fun V (hV : Below V0.heap.size V0 V) => (show Calls Tryd.prog 7 #[.slice (some ⟨g1, 0, none⟩) l.length c1] V (AnsS V (q, r)) by rw [← hq]; exact Al.specPathsIn_any l g1 0 c1 V ((unhide HRW) V hV).1 ((unhide HRW) V hV).2 (by omega) hc1 hok))
    go_wp2_with fail
    refine (unhide HPI).mono ?_
    rintro e V1 ⟨s3, rfl, hr2, hb2⟩
    obtain ⟨a2, n2, c3, rfl⟩ := hr2.shape
    simp only
    obtain ⟨w3, hw3⟩ : ∃ w3, w3 = V1.alloc (.cells #[.int .i64 q, .slice a2 n2 c3] 28) := ⟨_, rfl⟩
    have O3 : Own w3 V1.heap.size 28 [.int .i64 q, .slice a2 n2 c3] := by rw [hw3]; exact ⟨_, heap_alloc_new _ _, rfl⟩
    have B3 : Below V0.heap.size V0 w3 := by rw [hw3]; exact hb2.alloc hb2.size _
    have c0 := O3.cell 0
    simp only [List.getElem?_cons_zero] at c0
    clear hr2 hb2 hx HPI
    go_wp2_with fail
    rw [← hw3]
    clear hw3
    go_region_with (go_at_call 7; refine ((unhide HSS) _ B3.drew).mono ?_; rintro e w4 ⟨s4, rfl, hr4, hb4⟩; obtain ⟨a4, n4, c4, rfl⟩ := hr4.shape; simp only; have hf0 := fun W => Ap.fldP q a4 n4 c4 W; have cc := ((show Own w3.drew V1.heap.size 28 [.int .i64 q, .slice a2 n2 c3] from O3).below hb4 O3.lt).cell 0; simp only [List.getElem?_cons_zero] at cc)
    all_goals
      go_wp2_with fail
      go_ret
      exact ⟨ret_bool (by simp), unhide FIN _ (B3.drew.trans (hb4.mono B3.size))⟩

namespace lawAllPaths
theorem own : ownKnob Tryd.prog.godebug = none := by kernel_rfl
theorem laidOut : laidOutB Tryd.prog = true := by kernel_rfl
theorem gTab : Tryd.prog.globalNamed "internal/strconv.uint64pow10" = some 1 := by kernel_rfl
theorem gTabType : (Tryd.prog.globals[1]?).map (·.type) = some 113 := by kernel_rfl
theorem tabData_is : (Rows.laid_internal_strconv_uint64pow10 : DataW Unit) = Lib.tabData .u64 Lib.pow10Tab := by kernel_rfl
/-- What the condition gives the walk: the table. -/
theorem of_laid {W : World} (h : laidMetH Tryd.prog Rows.fnAllPathsRow.laid W) : Lib.TabIs Tryd.prog W "internal/strconv.uint64pow10" .u64 Lib.pow10Tab := by
  rw [MakeChecks.laidMetH_plain _ _ _ (by kernel_rfl)] at h
  have h3 : laidMet Tryd.prog [("internal/strconv.uint64pow10", Lib.tabData .u64 Lib.pow10Tab)] W := by rw [← tabData_is]; exact (laidMet.tail (laidMet.tail h))
  exact Lib.tabIs_of_head gTab gTabType Tryd.underlying113 Tryd.underlying103 (by kernel_rfl) (by kernel_rfl) h3

/-- The door's own heap meets the condition. -/
theorem door_met (os : Os) (args : Array Value) : laidMetH Tryd.prog Rows.fnAllPathsRow.laid ((World.doorLaid Tryd.prog 400 os).forCall (fun _ _ => 0) ⟨#[], args, []⟩).memory :=
  laidMetH_of_parts3 (fuel := 8) (laidMet_of_run' 8 (by kernel_rfl) (by kernel_rfl)) (by kernel_rfl) (by kernel_rfl)

set_option maxRecDepth 100000 in
theorem lifted (os : Os) (started : os.Started) (H : Type) (enc : TypeId × Value → H) :
    ReturnsInHanded {} Tryd.checked os 3 .any (fun w args => (Rows.fnAllPathsSpec.pre enc Tryd.prog Tryd.f3 [] false w args ∧ laidMetH Tryd.prog Rows.fnAllPathsRow.laid w) ∧ sizedMet enc Tryd.prog Tryd.f3 (OpenSpec.ofChange Rows.fnAllPathsSpec) false w args)
      (Rows.fnAllPathsSpec.post enc Tryd.prog Tryd.f3 false true false false) := by
  refine returnsInHanded_of_change_and (C := Tryd.checked) (X := fun w _ => laidMetH Tryd.prog Rows.fnAllPathsRow.laid w) (fun _ _ _ hh h => h.of_heap hh) own started (by kernel_rfl) Tryd.func3
    (ChangeSpec.witness_shaped (enc := enc) (C := Tryd.checked) (os := os) (X := fun w _ => laidMetH Tryd.prog Rows.fnAllPathsRow.laid w) false (World.doorLaid Tryd.prog 400 os) #[.slice none 0 0] 8 rfl (World.shaped_of_RefB (by kernel_rfl) (by kernel_rfl)) (by kernel_rfl) (by kernel_rfl) (by kernel_rfl) (door_met os _)) ?_
  intro W base args ds gs before hval0 hW _ _ hL _
  have hval : ∀ (j : Nat) t v, Tryd.f3.params[j]? = some t → args[j]? = some v → Value.okWide Tryd.prog W .any base t v := hval0
  have hW' := hW
  obtain ⟨p, q, hA0, hV, rfl, hfz, hnd⟩ := hW
  have hA : DataW.TrodAll enc Tryd.prog W 0 (fun _ => true) true Tryd.f3.params.toList args.toList ds p := hA0
  rw [Tryd.params3] at hA hval
  obtain ⟨v0, vs0, d0, ds0, p0, q0, hargs, rfl, rfl, h0, r0⟩ := trodAll_cons hA
  obtain ⟨rfl, rfl, rfl⟩ := trodAll_nil r0
  obtain rfl : args = #[v0] := by cases args; simp_all
  obtain ⟨rfl, rfl⟩ := trodVars_none hV
  obtain ⟨a0, len0, cap0, rfl⟩ := okWide_slice Tryd.underlying22 (hval 0 22 v0 rfl rfl)
  have k0 := h0
  have lt0 : ∀ x ∈ p0, x.block < W.heap.size := by obtain ⟨m, hm⟩ := k0; exact DataW.trod_lt m _ _ _ hm
  have w0 : Byts W a0 len0 cap0 := by
    obtain ⟨fuel, hf⟩ := h0
    exact open_byts hf
  have hT := of_laid hL
  clear hA0 hval0
  refine (lawAllPaths_walk a0 len0 cap0 W w0 hT).mono fun e W' ⟨he, bel⟩ => ?_
  subst he
  exact ⟨_, rfl, _, _, _, [], _, [], hW', trodAll_mk1 (shut_bool Tryd.underlying4 _), (trodAll_cons_mk (Below.trod laidOut (by kernel_rfl) (of_decide_eq_true (by kernel_rfl)) k0 bel lt0) trodAll_mk0), rfl, bel.frame _, fun h => by cases h⟩

theorem over : Rows.FnAllPathsSaid :=
  OpenClaim.holds_of_wide 3 Tryd.f3 rfl rfl rfl rfl rfl rfl rfl ⟨rfl, rfl, rfl, rfl, rfl⟩ rfl rfl rfl rfl rfl (by kernel_rfl) Tryd.func3 (by kernel_rfl)
    (of_decide_eq_true (by kernel_rfl)) (by unfold Func.isWrapper; first | (rw [if_pos (by decide +kernel)]; kernel_rfl) | (rw [if_neg (by decide +kernel)]; exact ⟨rfl, rfl⟩))
    (fun os started H enc _ => lifted os started H enc)
end lawAllPaths

/-- The card. -/
theorem lawAllPaths_holds : Rows.FnAllPathsCardSaid :=
  Claim7.holds_tied_plain_at .later [] [.data, .data, .data] true (true, "4c9e375dcb6804b89e19588a9b8511b27547e64b8f73038b9c52c1fb19ff7941") false
    lawAllPaths.over (fun _ h => by cases h) (by kernel_rfl) (fun _ h => by cases h) fnAllPaths_row_tie rfl ⟨rfl, rfl⟩ (by kernel_rfl) rfl
    (fun f fn hf hfn => by
      obtain rfl : f = 3 := Option.some.inj ((show Tryd.prog.funcNamed Rows.fnAllPathsRow.func = some 3 by kernel_rfl).symm.trans hf) |>.symm
      obtain rfl : fn = Tryd.f3 := (Option.some.inj (Tryd.func3.symm.trans hfn)).symm
      exact ⟨by kernel_rfl, fun j t ht => by
        rw [Tryd.params3] at ht
        have hm : t ∈ [22] := by simpa using Array.mem_of_getElem? ht
        have hall : ([22].all fun u => !Tryd.prog.wantsStandIn u) = true := by kernel_rfl
        exact (show Tryd.prog.wantsStandIn t = false by simpa using List.all_eq_true.1 hall t hm)⟩)
    (by kernel_rfl)
#print axioms lawAllPaths_holds
end Go.Proofs.YtfcglmkbfdfaeaaDoor
