/-
  impl.StreamFault, impl.CutStream over lists that lie anywhere (mk_fsv.py).
-/
import Derived.Test.YtcglddahphkcpaaGreatDoorU16
import Derived.Test.YtcglddahphkcpaaGreatDoorU17
import Derived.Test.YtcglddahphkcpaaGreatDoorU30
namespace Go.Proofs.YtcglddahphkcpaaGreatDoor
open Go.RowKit
set_option linter.unusedVariables false
set_option linter.unusedSimpArgs false
namespace Sev
set_option maxRecDepth 100000 in
set_option maxHeartbeats 1000000 in
theorem implStreamV_any (a : Option Addr) (cap : Nat) (ps : List (List M.Cl)) (w : World) (hL : LV w a ps) (hn : ps.length ≤ 1048576) (hln : tot ps ps.length ≤ 1048576) (hok : OkS ps) :
    Calls Tryz.prog 23 #[.slice a ps.length cap] w (AnsR w (faults ps)) := by
  have HL := hide hL
  have OK := hide hok
  have HN := hide hln
  clear hL hok hln
  have HB0 := hide (fun o => (show Below w.heap.size w (w.alloc o) from (Below.refl _ _).alloc (Nat.le_refl _) o))
  by_cases hm : ps.length < 1 ∨ 200 < ps.length
  · have fin := hide (faults_many hm)
    by_cases hm1 : ps.length < 1
    · have hmI : (ps.length : Int) < 1 := by omega
      clear hm HL
      go_enter Tryz.func23, Tryz.ntmps23
      go_wp2_with fail
      refine bodyPost_ret (v := .agg #[.int .i64 2, .int .i64 0, .slice none 0 0]) (by simp [results, Tryz.results23, go_sem]) rfl (ansR_of (unhide fin) (resNil _ _) ((unhide HB0) _))
    · have hmI : (200 : Int) < (ps.length : Int) := by omega
      clear hm HL
      go_enter Tryz.func23, Tryz.ntmps23
      go_wp2_with fail
      refine bodyPost_ret (v := .agg #[.int .i64 2, .int .i64 0, .slice none 0 0]) (by simp [results, Tryz.results23, go_sem]) rfl (ansR_of (unhide fin) (resNil _ _) ((unhide HB0) _))
  have FF := hide (faults_few hm)
  have hmI : (1 : Int) ≤ (ps.length : Int) := by omega
  have hmJ : (ps.length : Int) ≤ 200 := by omega
  clear hm
  go_enter Tryz.func23, Tryz.ntmps23
  go_wp2_with fail
  go_loopg [17] ps.length (fun gh s17 wr => ∃ k : Nat, Hid (gh = ps.length - k) ∧ s17 = .int .i64 k ∧ k ≤ ps.length ∧ Hid (∀ j, j < k → fault (ps.getD j []) = 0) ∧ Own wr w.heap.size 26 [.int .i64 0, .int .i64 0, .slice none 0 0] ∧ Below w.heap.size w wr)
  case atStart => exact ⟨0, rfl, rfl, by omega, fun j hj => absurd hj (by omega), ⟨_, heap_alloc_new _ _, rfl⟩, (unhide HB0) _⟩
  case round =>
    obtain ⟨k, hg, rfl, hk, hall, hR, hbel⟩ := hrel
    by_cases hlt : k < ps.length
    · obtain ⟨g, b, off, cc, rfl, hg0, f0, hcc, hb, hr⟩ := ((unhide HL).below hbel) k hlt
      have hq := Nat.le_trans (len_le ps k hlt) (unhide HN)
      have hok := (unhide OK) k hlt
      have hhit := hide (fun hz => (unhide FF).trans (first_hit ps 0 k hlt hall.out hz))
      have hnext := hide (fun (h0 : fault (ps.getD k []) = 0) j (hj : j < k + 1) => show fault (ps.getD j []) = 0 by
        by_cases e : j = k
        · subst e; exact h0
        · exact hall.out j (by omega))
      have HE := hide (implEvent_any (ps.getD k []) b off cc wr hr hb hq hcc hok)
      have hltI : (k : Int) < (ps.length : Int) := by omega
      clear hok hr hall FF
      generalize ps.getD k [] = p at *
      go_wp2_with fail
      refine (unhide HE).mono ?_
      rintro e1 w1 ⟨rfl, hb1⟩
      have hR1 := hR.below hb1 hR.lt
      have B1 : Below w.heap.size w w1 := hbel.trans (hb1.mono hbel.size)
      clear f0 hb1 hR hbel HE
      generalize hqq : fault p = q at *
      by_cases hz : q = 0
      · subst hz
        have hn2 := hide ((unhide hnext) rfl)
        clear hhit hnext
        go_wp2_with fail
        go_roundg (ps.length - (k + 1))
        case rel => exact ⟨k + 1, rfl, by go_num, by omega, unhide hn2, hR1, B1⟩
        case measure => have := hg.out; omega
      · have fin := hide ((unhide hhit) hz)
        rw [Nat.zero_add] at fin
        have hz' : (q == 0) = false := by simp [hz]
        have r0 := hR1.cell 0
        have r1 := hR1.cell 1
        have r2 := hR1.cell 2
        have z0 := hR1.frozen 0
        have z1 := hR1.frozen 1
        have z2 := hR1.frozen 2
        simp only [List.getElem?_cons_zero, List.getElem?_cons_succ] at r0 r1 r2
        clear hhit hnext hqq
        go_wp2_with fail
        refine bodyPost_ret (v := .agg #[.int .i64 q, .int .i64 k, .slice none 0 0]) (by simp [results, Tryz.results23, go_sem, r0, r1, r2]) rfl (ansR_of (unhide fin) (resNil _ _) (below3 B1 _ _ _))
    · have hke : k = ps.length := by omega
      have hv : ∀ j, j < ps.length → fault (ps.getD j []) = 0 := by rw [← hke]; exact hall.out
      have fin := hide ((unhide FF).trans (first_none ps 0 hv))
      have r0 := hR.cell 0
      have r1 := hR.cell 1
      have r2 := hR.cell 2
      have z0 := hR.frozen 0
      have z1 := hR.frozen 1
      have z2 := hR.frozen 2
      simp only [List.getElem?_cons_zero, List.getElem?_cons_succ] at r0 r1 r2
      clear hke hv hall
      go_wp2_with fail
      refine bodyPost_ret (v := .agg #[.int .i64 0, .int .i64 0, .slice none 0 0]) (by simp [results, Tryz.results23, go_sem, r0, r1, r2]) rfl (ansR_of (unhide fin) (resNil _ _) (below3 hbel _ _ _))

set_option maxRecDepth 100000 in
set_option maxHeartbeats 8000000 in
theorem implCutV_any (a : Option Addr) (cap : Nat) (L : List (List M.Cl)) (d : Int) (w : World) (hL : LV w a L) (hn : L.length ≤ 1048576) (hln : tot L L.length ≤ 1048576) (hok : OkS L) :
    Calls Tryz.prog 22 #[.slice a L.length cap, .int .i64 d] w (_root_.Go.Proofs.YtcglddahphkcpaaGreatDoor.AnsR w (cutOut L d)) := by
  have HB0 := hide (fun o => (show Below w.heap.size w (w.alloc o) from (Below.refl _ _).alloc (Nat.le_refl _) o))
  have HF := hide (fun o => implStreamV_any a cap L (w.alloc o) (hL.below ((Below.refl _ _).alloc (Nat.le_refl _) _)) hn hln hok)
  have HLR := hide (fun W (h : Below w.heap.size w W) => hL.below h)
  have HSM := hide (cut_small L d hok)
  have OK := hide hok
  have HLN := hide hln
  clear hL hok hln
  obtain ⟨i0, hi, hz0, hz1, hz2⟩ := info_parts Tryz.info24
  go_enter Tryz.func22, Tryz.ntmps22
  go_wp2_with fail
  refine ((unhide HF) _).mono ?_
  rintro e w1 ⟨sv, rfl, hrs, hb1⟩
  have hR : Own w1 w.heap.size 41 [.int .i64 0, .slice none 0 0] := Own.below ⟨_, heap_alloc_new _ _, rfl⟩ hb1 (by simp)
  have B1 : Below w.heap.size w w1 := ((unhide HB0) _).trans (hb1.mono (by simp))
  obtain ⟨fa, fn, fc, rfl⟩ := hrs.shape
  clear hb1 hrs HF HB0
  have FB := hide (fun h => cut_bad (L := L) (d := d) h)
  have FR := hide (fun h hd => cut_range (L := L) (d := d) h hd)
  have FO := hide (fun h (D : Nat) hd => cut_ok (L := L) (d := D) h hd)
  have FN := hide (fun h => faults_no (l := L) h)
  generalize (faults L).2.1 = at_ at *
  generalize (faults L).1 = q at *
  obtain ⟨W2, hW2⟩ : ∃ W2, W2 = w1.alloc (.cells #[.int .i64 q, .int .i64 at_, .slice fa fn fc] 26) := ⟨_, rfl⟩
  have B2 : Below w.heap.size w W2 := by rw [hW2]; exact B1.alloc B1.size _
  have hR2 : Own W2 w.heap.size 41 [.int .i64 0, .slice none 0 0] := by rw [hW2]; exact hR.alloc _
  have hX2 : Own W2 w1.heap.size 26 [.int .i64 q, .int .i64 at_, .slice fa fn fc] := by rw [hW2]; exact ⟨_, heap_alloc_new _ _, rfl⟩
  have x0 := hX2.cell 0
  have r0 := hR2.cell 0
  have r1 := hR2.cell 1
  have z0 := hR2.frozen 0
  have z1 := hR2.frozen 1
  simp only [List.getElem?_cons_zero, List.getElem?_cons_succ] at x0 r0 r1
  have s0 : ∀ o, (w1.alloc o).cell? ⟨w.heap.size, 0, none⟩ = some (.int .i64 0) := fun o => (hR.alloc o).cell 0
  have s1 : ∀ o, (w1.alloc o).cell? ⟨w.heap.size, 1, none⟩ = some (.slice none 0 0) := fun o => (hR.alloc o).cell 1
  have y0 : ∀ o, (w1.alloc o).frozen? ⟨w.heap.size, 0, none⟩ = false := fun o => (hR.alloc o).frozen 0
  have y1 : ∀ o, (w1.alloc o).frozen? ⟨w.heap.size, 1, none⟩ = false := fun o => (hR.alloc o).frozen 1
  clear hR B1
  by_cases hz : q = 0
  · subst hz
    by_cases hd0 : d < 0
    · have fin := hide ((unhide FR) rfl (.inl hd0))
      clear FR FB FO FN HSM
      go_wp2_with fail
      rw [← hW2]
      clear hW2
      refine bodyPost_ret (v := .agg #[.int .i64 3, .slice none 0 0]) (by simp [results, Tryz.results22, go_sem, r0, r1]) rfl (_root_.Go.Proofs.YtcglddahphkcpaaGreatDoor.ansR_of (unhide fin) (.inl ⟨rfl, rfl⟩) (store_below B2 _ _))
    by_cases hd1 : 20 < d
    · have fin := hide ((unhide FR) rfl (.inr hd1))
      clear FR FB FO FN HSM
      go_wp2_with fail
      rw [← hW2]
      clear hW2
      refine bodyPost_ret (v := .agg #[.int .i64 3, .slice none 0 0]) (by simp [results, Tryz.results22, go_sem, r0, r1]) rfl (_root_.Go.Proofs.YtcglddahphkcpaaGreatDoor.ansR_of (unhide fin) (.inl ⟨rfl, rfl⟩) (store_below B2 _ _))
    obtain ⟨D, rfl⟩ := Int.eq_ofNat_of_zero_le (show 0 ≤ d by omega)
    have hD : D ≤ 20 := by omega
    have FIN := hide ((unhide FO) rfl D hD)
    obtain ⟨hn1, hn2, hev⟩ := (unhide FN) rfl
    have HEV := hide (fun k (hk : k < L.length) => evt_of ((unhide OK) k hk) (hev k hk))
    rw [unhide FIN] at HSM
    have hcl := cut_le D L
    have HCL := hide (fun k => (show (cutL D (L.take k)).length ≤ 200 from Nat.le_trans (cut_le D (L.take k)) (by rw [List.length_take]; omega)))
    clear FR FB FO FN hev x0 hX2 hd0 hd1
    generalize hnl : L.length = n at *
    have HNL := hide hnl
    clear hnl
    have hnI : (n : Int) ≤ 200 := by omega
    go_wp2_with fail
    rw [← hW2]
    clear hW2 s0 s1 y0 y1
    go_loopg [6, 28] n (fun gh s6 s28 wr => ∃ (k m : Nat) (ss : List Value), Hid (gh = n - k) ∧ s28 = .int .i64 (k : Int) ∧ k ≤ n ∧ Hid (m = (cutL D (L.take k)).length) ∧ m ≤ 200 ∧ Hid (ss.length = m) ∧ Hid (wr.ownsRow W2.heap.size 24 1 s6 m ss) ∧ Hid (∀ i, i < m → Res wr W2.heap.size (ss.getD i (.slice none 0 0)) ((cutL D (L.take k)).getD i [])) ∧ Hid (∀ i j, i < j → j < m → ∀ b, (ss.getD i (.slice none 0 0)).ownBlock = some b → (ss.getD j (.slice none 0 0)).ownBlock ≠ some b) ∧ Below W2.heap.size W2 wr)
    case atStart => exact ⟨0, 0, [], rfl, rfl, by omega, by rw [List.take_zero]; rfl, by omega, rfl, World.ownsRow_nil _ _ _ _, fun i hi => absurd hi (by omega), fun i j h1 h2 => absurd h2 (by omega), Below.refl _ _⟩
    case round =>
      obtain ⟨k, m, ss, hg, rfl, hk, hm, hm2, hsl, hown, hres, hdis, hbel⟩ := hrel
      by_cases hlt : k < n
      · have hlt' : k < L.length := by rw [unhide HNL]; exact hlt
        obtain ⟨g, b, off, cc, rfl, hg0, f0, hcc, hb, hr⟩ := ((unhide HLR) wr (B2.trans (hbel.mono B2.size))) k hlt'
        have hev := (unhide HEV) k hlt
        have hko := (unhide OK) k hlt'
        have HSU := hide (cut_succ D L k hlt')
        have HKP := hide (show keeps D (L.getD k []) = decide (D < ((P (L.getD k []) 0).drop 1).length) from rfl)
        have hpo := part_ok hev.val hko (j := 0) (by rcases hev.n12 with e | e; have := parts_n (n := 1) e; omega; have := parts_n (n := 2) e; omega)
        have h12 := hev.n12
        have hstp := hev.stp
        have hslen := hev.len
        have HLF := hide hev.leaf
        have HC1 := hide (fun h => cutE_one (d := D) (l := L.getD k []) h)
        have HC2 := hide (fun h => cutE_two (d := D) (l := L.getD k []) h)
        have hltI : (k : Int) < (n : Int) := by omega
        have hk0 : (0 : Int) ≤ (k : Int) := by omega
        have HE1 := hide (fun hn1 => eventOf_one (L.getD k []) b off cc wr hev.val hn1 hr hb hcc hko)
        have HE2 := hide (fun hn2 => eventOf_two (L.getD k []) b off cc wr hev.val hn2 hr hb hcc hko)
        have HPX := hide (fun (h2 : ((L.getD k []).getD 0 M.zero).n = 2) => part_ok hev.val hko (j := 1) (by have := parts_n (n := 2) h2; omega))
        clear hev hko hr hlt'
        generalize L.getD k [] = l at *
        rcases h12 with hn1 | hn1
        · have HE_ := hide ((unhide HE1) hn1)
          clear HE1 HE2 HPX HLF
          go_wp2_with fail
          refine (unhide HE_).mono ?_
          rintro e w3 ⟨s, rfl, hs, hb3⟩
          obtain ⟨b0, c0, rfl, hc0, hcm0, ho0⟩ := hs.any hpo.2.2.1
          have hcap0 : (P l 0).length ≤ c0 := hc0
          obtain ⟨W4, hW4⟩ : ∃ W4, W4 = w3.alloc (.cells #[.slice (some ⟨b0, 0, none⟩) (P l 0).length c0, .slice none 0 0] 65) := ⟨_, rfl⟩
          have b34 : Below w3.heap.size w3 W4 := by rw [hW4]; exact (Below.refl _ _).alloc (Nat.le_refl _) _
          have B4 : Below wr.heap.size wr W4 := hb3.trans (b34.mono hb3.size)
          have hE4 : Own W4 w3.heap.size 65 [.slice (some ⟨b0, 0, none⟩) (P l 0).length c0, .slice none 0 0] := by rw [hW4]; exact ⟨_, heap_alloc_new _ _, rfl⟩
          have hrow4 := ho0.row.below b34 ho0.lt
          have hb04 : b0 < W4.heap.size := Nat.lt_of_lt_of_le ho0.lt b34.size
          have hcE1 := hide ((unhide HC1) hn1)
          have HST := hide (stepsOf_any (P l 0) b0 0 c0 W4 hpo.2.2.2.1 hcm0 hcap0 hrow4)
          have g0 := hE4.cell 0
          have g1 := hE4.cell 1
          simp only [List.getElem?_cons_zero, List.getElem?_cons_succ] at g0 g1
          have HE4 := hide hE4
          have HB4 := hide B4
          have hs34 : w3.heap.size < W4.heap.size := hE4.lt
          clear hs b34 ho0 hrow4 hE4 B4 hb3 HE_ hpo
          have hcdl := hide (List.length_drop (i := 1) (l := P l 0))
          generalize (P l 0).drop 1 = cs at *
          generalize P l 0 = p at *
          go_wp2_with fail
          rw [← hW4]
          clear hW4
          refine (unhide HST).mono ?_
          rintro e w5 ⟨o5, rfl, hw5, hrow5⟩
          subst hw5
          clear HST f0
          obtain ⟨va, vc, hvs⟩ := Al.row_len hown.out
          subst hvs
          have hc0' : cs.length ≤ c0 - 1 := by have := unhide hcdl; omega
          obtain ⟨c9, hc9⟩ : ∃ c9, c9 = c0 - 1 := ⟨_, rfl⟩
          rw [← hc9] at hc0' ⊢
          have hc9m : c9 ≤ 9223372036854775807 := by omega
          clear hc9
          by_cases hkp : D < cs.length
          · have HSU2 := hide (show cutL D (L.take (k + 1)) = cutL D (L.take k) ++ [cutE D l] by rw [unhide HSU, unhide HKP, decide_eq_true hkp]; rfl)
            have hkpI : (D : Int) < (cs.length : Int) := by omega
            have hD0 : (0 : Int) ≤ (D : Int) := by omega
            have hrowD : Row w5 b0 (o5 + D * 5) (cs.drop D) := fun i hi => by
              rw [List.length_drop] at hi
              have := hrow5 (D + i) (by omega)
              rw [Nat.add_mul, ← Nat.add_assoc] at this
              rwa [show (cs.drop D).getD i M.zero = cs.getD (D + i) M.zero by rw [List.getD_eq_getElem?_getD, List.getD_eq_getElem?_getD, List.getElem?_drop]]
            have hdl : (cs.drop D).length = cs.length - D := List.length_drop
            have hdstp : ∀ c ∈ cs.drop D, Pth.Stp c := fun c hc => hstp c (List.mem_of_mem_drop hc)
            have HLE := hide (fun W (h : Below w5.heap.size w5 W) => layEvent_one (.slice (some ⟨b0, o5 + D * 5, none⟩) (cs.drop D).length (c9 - D)) (cs.drop D) W (Al.Rdr.row (hrowD.below h hb04) (Nat.lt_of_lt_of_le hb04 h.size)) hdstp (by omega))
            have HDL := hide hdl
            rw [hdl] at HLE
            have hcE : Hid (cutE D l = laid (cs.drop D) []) := hide (unhide hcE1)
            have KEEP := hide (show ∀ W : World, W.heap[w3.heap.size]? = w5.heap[w3.heap.size]? → W.cell? ⟨w3.heap.size, 1, none⟩ = some (.slice none 0 0) from fun W hW => (Al.cell_block hW).trans g1)
            have HOW := hide (Al.row_below hown.out (unhide HB4))
            have HDs := hide (fun i hi => (hres.out i hi).below (unhide HB4))
            have hcd : D < c9 := by omega
            have hkle : D ≤ cs.length := by omega
            have hne9 : ¬ c9 = D := by omega
            obtain ⟨dn, hdn⟩ : ∃ dn, dn = cs.length - D := ⟨_, rfl⟩
            rw [← hdn] at HLE HDL
            have hdn1 : 1 ≤ dn := by omega
            obtain ⟨dc, hdc⟩ : ∃ dc, dc = c9 - D := ⟨_, rfl⟩
            rw [← hdc] at HLE
            have HDN := hide hdn
            have HDC := hide hdc
            have hm200 : m + 1 ≤ 200 := by
              have e1 := (unhide HCL) (k + 1)
              rw [unhide HSU2, List.length_append, ← hm.out] at e1
              simpa using e1
            clear hrow5 hrowD hdstp HSU HKP hdl
            go_upto_region 13 with fail
            refine Z.region 9 (fun W => W.heap[w3.heap.size]? = w5.heap[w3.heap.size]?) (by kernel_rfl) rfl (fun hHeld => ?_)
            refine Z.take (i := 0) (d := 41) (v := .slice va m vc) rfl rfl (by kernel_rfl) (by kernel_rfl) (by kernel_rfl) (by kernel_rfl) (fun _ _ _ h => h) (Or.inl ⟨by rfl, ?_⟩) hHeld ?_
            · intro w' hSw; go_simp
            simp only [Act.put, List.setIfInBounds_toArray, List.set_cons_zero, List.set_cons_succ]
            refine Z.take (i := 1) (d := 42) (v := .slice (some ⟨b0, o5, none⟩) cs.length c9) rfl rfl (by kernel_rfl) (by kernel_rfl) (by kernel_rfl) (by kernel_rfl) (fun _ _ _ h => h) (Or.inl ⟨by rfl, ?_⟩) hHeld ?_
            · intro w' hSw; go_simp
            simp only [Act.put, List.setIfInBounds_toArray, List.set_cons_zero, List.set_cons_succ]
            refine Z.take (i := 2) (d := 43) (v := .int .i64 (D : Int)) rfl rfl (by kernel_rfl) (by kernel_rfl) (by kernel_rfl) (by kernel_rfl) (fun _ _ _ h => h) (Or.inl ⟨by rfl, ?_⟩) hHeld ?_
            · intro w' hSw; go_simp
            simp only [Act.put, List.setIfInBounds_toArray, List.set_cons_zero, List.set_cons_succ]
            refine Z.take (i := 3) (d := 44) (v := .slice (some ⟨b0, o5 + D * 5, none⟩) (cs.length - D) (c9 - D)) rfl rfl (by kernel_rfl) (by kernel_rfl) (by kernel_rfl) (by kernel_rfl) (fun _ _ _ h => h) (Or.inl ⟨by rfl, ?_⟩) hHeld ?_
            · intro w' hSw; go_simp
            simp only [Act.put, List.setIfInBounds_toArray, List.set_cons_zero, List.set_cons_succ]
            refine Z.take (i := 4) (d := 45) (v := .pointer (some ⟨w3.heap.size, 1, none⟩)) rfl rfl (by kernel_rfl) (by kernel_rfl) (by kernel_rfl) (by kernel_rfl) (fun _ _ _ h => h) (Or.inl ⟨by rfl, ?_⟩) hHeld ?_
            · intro w' hSw; go_simp
            simp only [Act.put, List.setIfInBounds_toArray, List.set_cons_zero, List.set_cons_succ]
            refine Z.take (i := 5) (d := 46) (v := .slice none 0 0) rfl rfl (by kernel_rfl) (by kernel_rfl) (by kernel_rfl) (by kernel_rfl) (fun _ _ _ h => h) (Or.inl ⟨by rfl, ?_⟩) hHeld ?_
            · intro w' hSw; have g1 := (unhide KEEP) _ hSw; go_simp
            simp only [Act.put, List.setIfInBounds_toArray, List.set_cons_zero, List.set_cons_succ]
            refine Z.only (i := 6) (d := 47) rfl rfl (by kernel_rfl) (by rfl) (fun K hK => ?_)
            go_simp
            rw [← unhide HDN, ← unhide HDC]
            refine ((unhide HLE) w5.drew ((Below.refl _ _).drew)).mono ?_
            rintro e w6 ⟨s47, rfl, hr47, hb47⟩
            have b56 : Below w5.heap.size w5 w6 := (Below.refl _ _).drew.trans (hb47.mono (Nat.le_refl _))
            rw [← hcE.out] at hr47
            obtain ⟨ya, yn, yc, hy⟩ := hr47.shape
            subst hy
            have HR47 := hide (show Res w6 w5.heap.size (.slice ya yn yc) (cutE D l) from hr47)
            go_simp
            refine hK.out (.slice ya yn yc) w6 (b56.block _ hs34) ?_
            clear hK K hr47 hb47 HLE
            simp only [Act.put, List.setIfInBounds_toArray, List.set_cons_zero, List.set_cons_succ]
            obtain ⟨W7, hW7⟩ : ∃ W7, W7 = w6.alloc (.cells #[.slice ya yn yc] 24) := ⟨_, rfl⟩
            have b67 : Below w6.heap.size w6 W7 := by rw [hW7]; exact (Below.refl _ _).alloc (Nat.le_refl _) _
            have hN7 : ∀ j u, ([Value.slice ya yn yc] : List Value)[j]? = some u → W7.cell? ((⟨w6.heap.size, 0, none⟩ : Addr).add j) = some u := by rw [hW7]; exact one_val w6 _ _
            have b57 : Below w5.heap.size w5 W7 := b56.trans (b67.mono b56.size)
            have HW7 := hide hW7
            refine Z.ready (rs := [7]) (by kernel_rfl) (by simp) (Z.val_cons (i := 7) (d := 48) (v := .slice (some ⟨w6.heap.size, 0, none⟩) 1 1) (w' := W7) rfl (by rfl) (fun K hK => ?_) (fun _ => b57.block _ hs34) ?_ Z.All.nil)
            · go_simp
              rw [← hW7]
              exact hK.out
            simp only [Act.put, List.setIfInBounds_toArray, List.set_cons_zero, List.set_cons_succ]
            clear hW7
            have HO6 := hide (Al.row_below (unhide HOW) b56)
            refine Z.only (i := 8) (d := 49) rfl rfl (by kernel_rfl) (by rfl) (fun K hK => ?_)
            refine Al.wp_row _ (.tmp 41) (.tmp 48) 28 rfl 24 i0 (.slice none 0 0) 24 Tryz.underlying28 hi hz0 hz1 hz2 rfl W2.heap.size (.slice va m vc) m ss rfl (Al.row_below (unhide HO6) b67) (.slice (some ⟨w6.heap.size, 0, none⟩) 1 1) rfl [.slice ya yn yc] (.inr ⟨_, 1, rfl, hN7⟩) (by intro u hu; rw [List.mem_singleton.1 hu]; rfl) (by unfold maxLen; simp; omega) (by simp; omega) (by have := b57.size; have := (unhide HB4).size; have := hbel.size; omega) ?_
            intro v49 w8 ho8 hg8
            have hrB := Al.row_base (unhide HO6)
            have S8 : w8.heap[w3.heap.size]? = w5.heap[w3.heap.size]? := (hg8.block _ (Nat.lt_of_lt_of_le hs34 b57.size) (fun e => other_block (Al.row_below (unhide HO6) b67) ((unhide HE4).below b57 (unhide HE4).lt) (by decide) e.symm)).trans (b57.block _ hs34)
            have B8 : Below W2.heap.size W2 w8 := ((hbel.trans ((unhide HB4).mono hbel.size)).trans (b57.mono (by have := (unhide HB4).size; have := hbel.size; omega))).grown hg8 (by have := b57.size; have := (unhide HB4).size; have := hbel.size; omega) hrB
            have hml : (cutL D (L.take k)).length = m := hm.out.symm
            have SN := hide (SD.snoc (w2 := w6) (w3 := w8) (o := .cells #[.slice ya yn yc] 24) (B := W2.heap.size) (s := .slice va m vc) (v' := v49) (sp := .slice ya yn yc) (ps := cutL D (L.take k)) (p := cutE D l) (ss := ss) (by rw [hsl.out, hml]) (by rw [hml]; exact unhide HO6) (fun i hi => ((unhide HDs) i (by omega)).below b56) (fun i j h1 h2 => hdis.out i j h1 (by omega)) ((unhide HR47).mono (by have := (unhide HB4).size; have := hbel.size; omega)) (fun j hj b hb1 hb2 => by have := ((unhide HDs) j (by omega)).lt b hb1; have := (unhide HR47).base b hb2; omega) (by rw [← unhide HW7]; exact hg8) (by rw [hml]; exact ho8))
            rw [← unhide HSU2] at SN
            have SNL : Hid ((cutL D (L.take (k + 1))).length = m + 1) := hide (by rw [unhide HSU2, List.length_append, ← hm.out]; rfl)
            obtain ⟨za, zc, hz⟩ := Al.row_len ho8
            subst hz
            refine hK.out (.slice za (m + 1) zc) w8 S8 ?_
            clear hK K ho8 hg8 HO6 hN7 b67 b57 HW7 HR47 hrB S8 hml b56
            simp only [Act.put, List.setIfInBounds_toArray, List.set_cons_zero, List.set_cons_succ]
            refine Z.ready (rs := [9]) (by kernel_rfl) (by simp) (Z.val_cons (i := 9) (d := 6) (v := .slice za (m + 1) zc) (w' := w8) rfl (by rfl) (fun K hK => ?_) (fun h => absurd rfl h) ?_ Z.All.nil)
            · go_simp
              exact hK.out
            simp only [Act.put, List.setIfInBounds_toArray, List.set_cons_zero, List.set_cons_succ]
            refine Z.done (by kernel_rfl) ?_ _
            clear KEEP hHeld HOW HDs HE4 HB4 hown hres hdis
            go_wp2_with fail
            obtain ⟨ss', q1, q2, q3, q4⟩ := unhide SN
            rw [unhide SNL] at q1 q2 q3 q4
            go_roundg (n - (k + 1))
            case rel => exact ⟨k + 1, m + 1, ss', rfl, by go_num, by omega, (unhide SNL).symm, hm200, q1, q2, q3, q4, B8⟩
            case measure => have := hg.out; omega
          · have HSU2 := hide (show cutL D (L.take (k + 1)) = cutL D (L.take k) by rw [unhide HSU, unhide HKP, decide_eq_false hkp, if_neg (by simp), List.append_nil])
            have hkpI : ¬ (D : Int) < (cs.length : Int) := by omega
            have B5 := hbel.trans ((unhide HB4).mono hbel.size)
            have HO5 := hide (Al.row_below hown.out (unhide HB4))
            have HR5 := hide (fun i hi => (hres.out i hi).below (unhide HB4))
            clear HSU HKP g0 g1 hrow5 hkp
            go_wp2_with fail
            go_roundg (n - (k + 1))
            case rel => exact ⟨k + 1, m, ss, rfl, by go_num, by omega, by rw [unhide HSU2]; exact hm.out, hm2, hsl.out, unhide HO5, by rw [unhide HSU2]; exact unhide HR5, hdis.out, B5⟩
            case measure => have := hg.out; omega
        · have HE_ := hide ((unhide HE2) hn1)
          have hx := (unhide HPX) hn1
          have hxv := (unhide HLF) hn1
          clear HE1 HE2 HPX HLF
          go_wp2_with fail
          refine (unhide HE_).mono ?_
          rintro e w3 ⟨s, t, rfl, hs, ht, hb3⟩
          obtain ⟨b0, c0, rfl, hc0, hcm0, ho0⟩ := hs.any hpo.2.2.1
          obtain ⟨b1, c1, rfl, hc1, hcm1, ho1⟩ := ht.any hx.2.2.1
          have hcE1 := hide ((unhide HC2) hn1)
          generalize P l 1 = x at *
          have hcap0 : (P l 0).length ≤ c0 := hc0
          obtain ⟨W4, hW4⟩ : ∃ W4, W4 = w3.alloc (.cells #[.slice (some ⟨b0, 0, none⟩) (P l 0).length c0, .slice (some ⟨b1, 0, none⟩) x.length c1] 65) := ⟨_, rfl⟩
          have b34 : Below w3.heap.size w3 W4 := by rw [hW4]; exact (Below.refl _ _).alloc (Nat.le_refl _) _
          have B4 : Below wr.heap.size wr W4 := hb3.trans (b34.mono hb3.size)
          have hE4 : Own W4 w3.heap.size 65 [.slice (some ⟨b0, 0, none⟩) (P l 0).length c0, .slice (some ⟨b1, 0, none⟩) x.length c1] := by rw [hW4]; exact ⟨_, heap_alloc_new _ _, rfl⟩
          have hrow4 := ho0.row.below b34 ho0.lt
          have hb04 : b0 < W4.heap.size := Nat.lt_of_lt_of_le ho0.lt b34.size
          have hrx4 := ho1.row.below b34 ho1.lt
          have hb14 : b1 < W4.heap.size := Nat.lt_of_lt_of_le ho1.lt b34.size
          clear ht ho1 hx
          have HST := hide (stepsOf_any (P l 0) b0 0 c0 W4 hpo.2.2.2.1 hcm0 hcap0 hrow4)
          have g0 := hE4.cell 0
          have g1 := hE4.cell 1
          simp only [List.getElem?_cons_zero, List.getElem?_cons_succ] at g0 g1
          have HE4 := hide hE4
          have HB4 := hide B4
          have hs34 : w3.heap.size < W4.heap.size := hE4.lt
          clear hs b34 ho0 hrow4 hE4 B4 hb3 HE_ hpo
          have hcdl := hide (List.length_drop (i := 1) (l := P l 0))
          generalize (P l 0).drop 1 = cs at *
          generalize P l 0 = p at *
          go_wp2_with fail
          rw [← hW4]
          clear hW4
          refine (unhide HST).mono ?_
          rintro e w5 ⟨o5, rfl, hw5, hrow5⟩
          subst hw5
          clear HST f0
          obtain ⟨va, vc, hvs⟩ := Al.row_len hown.out
          subst hvs
          have hc0' : cs.length ≤ c0 - 1 := by have := unhide hcdl; omega
          obtain ⟨c9, hc9⟩ : ∃ c9, c9 = c0 - 1 := ⟨_, rfl⟩
          rw [← hc9] at hc0' ⊢
          have hc9m : c9 ≤ 9223372036854775807 := by omega
          clear hc9
          by_cases hkp : D < cs.length
          · have HSU2 := hide (show cutL D (L.take (k + 1)) = cutL D (L.take k) ++ [cutE D l] by rw [unhide HSU, unhide HKP, decide_eq_true hkp]; rfl)
            have hkpI : (D : Int) < (cs.length : Int) := by omega
            have hD0 : (0 : Int) ≤ (D : Int) := by omega
            have hrowD : Row w5 b0 (o5 + D * 5) (cs.drop D) := fun i hi => by
              rw [List.length_drop] at hi
              have := hrow5 (D + i) (by omega)
              rw [Nat.add_mul, ← Nat.add_assoc] at this
              rwa [show (cs.drop D).getD i M.zero = cs.getD (D + i) M.zero by rw [List.getD_eq_getElem?_getD, List.getD_eq_getElem?_getD, List.getElem?_drop]]
            have hdl : (cs.drop D).length = cs.length - D := List.length_drop
            have hdstp : ∀ c ∈ cs.drop D, Pth.Stp c := fun c hc => hstp c (List.mem_of_mem_drop hc)
            have HLE := hide (fun W (h : Below w5.heap.size w5 W) => layEvent_two (.slice (some ⟨b0, o5 + D * 5, none⟩) (cs.drop D).length (c9 - D)) (cs.drop D) x b1 0 c1 W (Al.Rdr.row (hrowD.below h hb04) (Nat.lt_of_lt_of_le hb04 h.size)) hdstp (by omega) (hrx4.below h hb14) (Nat.lt_of_lt_of_le hb14 h.size) hc1 hxv)
            have HDL := hide hdl
            rw [hdl] at HLE
            have hcE : Hid (cutE D l = laid (cs.drop D) [x]) := hide (unhide hcE1)
            have KEEP := hide (show ∀ W : World, W.heap[w3.heap.size]? = w5.heap[w3.heap.size]? → W.cell? ⟨w3.heap.size, 1, none⟩ = some (.slice (some ⟨b1, 0, none⟩) x.length c1) from fun W hW => (Al.cell_block hW).trans g1)
            have HOW := hide (Al.row_below hown.out (unhide HB4))
            have HDs := hide (fun i hi => (hres.out i hi).below (unhide HB4))
            have hcd : D < c9 := by omega
            have hkle : D ≤ cs.length := by omega
            have hne9 : ¬ c9 = D := by omega
            obtain ⟨dn, hdn⟩ : ∃ dn, dn = cs.length - D := ⟨_, rfl⟩
            rw [← hdn] at HLE HDL
            have hdn1 : 1 ≤ dn := by omega
            obtain ⟨dc, hdc⟩ : ∃ dc, dc = c9 - D := ⟨_, rfl⟩
            rw [← hdc] at HLE
            have HDN := hide hdn
            have HDC := hide hdc
            have hm200 : m + 1 ≤ 200 := by
              have e1 := (unhide HCL) (k + 1)
              rw [unhide HSU2, List.length_append, ← hm.out] at e1
              simpa using e1
            clear hrow5 hrowD hdstp HSU HKP hdl
            go_upto_region 13 with fail
            refine Z.region 9 (fun W => W.heap[w3.heap.size]? = w5.heap[w3.heap.size]?) (by kernel_rfl) rfl (fun hHeld => ?_)
            refine Z.take (i := 0) (d := 41) (v := .slice va m vc) rfl rfl (by kernel_rfl) (by kernel_rfl) (by kernel_rfl) (by kernel_rfl) (fun _ _ _ h => h) (Or.inl ⟨by rfl, ?_⟩) hHeld ?_
            · intro w' hSw; go_simp
            simp only [Act.put, List.setIfInBounds_toArray, List.set_cons_zero, List.set_cons_succ]
            refine Z.take (i := 1) (d := 42) (v := .slice (some ⟨b0, o5, none⟩) cs.length c9) rfl rfl (by kernel_rfl) (by kernel_rfl) (by kernel_rfl) (by kernel_rfl) (fun _ _ _ h => h) (Or.inl ⟨by rfl, ?_⟩) hHeld ?_
            · intro w' hSw; go_simp
            simp only [Act.put, List.setIfInBounds_toArray, List.set_cons_zero, List.set_cons_succ]
            refine Z.take (i := 2) (d := 43) (v := .int .i64 (D : Int)) rfl rfl (by kernel_rfl) (by kernel_rfl) (by kernel_rfl) (by kernel_rfl) (fun _ _ _ h => h) (Or.inl ⟨by rfl, ?_⟩) hHeld ?_
            · intro w' hSw; go_simp
            simp only [Act.put, List.setIfInBounds_toArray, List.set_cons_zero, List.set_cons_succ]
            refine Z.take (i := 3) (d := 44) (v := .slice (some ⟨b0, o5 + D * 5, none⟩) (cs.length - D) (c9 - D)) rfl rfl (by kernel_rfl) (by kernel_rfl) (by kernel_rfl) (by kernel_rfl) (fun _ _ _ h => h) (Or.inl ⟨by rfl, ?_⟩) hHeld ?_
            · intro w' hSw; go_simp
            simp only [Act.put, List.setIfInBounds_toArray, List.set_cons_zero, List.set_cons_succ]
            refine Z.take (i := 4) (d := 45) (v := .pointer (some ⟨w3.heap.size, 1, none⟩)) rfl rfl (by kernel_rfl) (by kernel_rfl) (by kernel_rfl) (by kernel_rfl) (fun _ _ _ h => h) (Or.inl ⟨by rfl, ?_⟩) hHeld ?_
            · intro w' hSw; go_simp
            simp only [Act.put, List.setIfInBounds_toArray, List.set_cons_zero, List.set_cons_succ]
            refine Z.take (i := 5) (d := 46) (v := .slice (some ⟨b1, 0, none⟩) x.length c1) rfl rfl (by kernel_rfl) (by kernel_rfl) (by kernel_rfl) (by kernel_rfl) (fun _ _ _ h => h) (Or.inl ⟨by rfl, ?_⟩) hHeld ?_
            · intro w' hSw; have g1 := (unhide KEEP) _ hSw; go_simp
            simp only [Act.put, List.setIfInBounds_toArray, List.set_cons_zero, List.set_cons_succ]
            refine Z.only (i := 6) (d := 47) rfl rfl (by kernel_rfl) (by rfl) (fun K hK => ?_)
            go_simp
            rw [← unhide HDN, ← unhide HDC]
            refine ((unhide HLE) w5.drew ((Below.refl _ _).drew)).mono ?_
            rintro e w6 ⟨s47, rfl, hr47, hb47⟩
            have b56 : Below w5.heap.size w5 w6 := (Below.refl _ _).drew.trans (hb47.mono (Nat.le_refl _))
            rw [← hcE.out] at hr47
            obtain ⟨ya, yn, yc, hy⟩ := hr47.shape
            subst hy
            have HR47 := hide (show Res w6 w5.heap.size (.slice ya yn yc) (cutE D l) from hr47)
            go_simp
            refine hK.out (.slice ya yn yc) w6 (b56.block _ hs34) ?_
            clear hK K hr47 hb47 HLE
            simp only [Act.put, List.setIfInBounds_toArray, List.set_cons_zero, List.set_cons_succ]
            obtain ⟨W7, hW7⟩ : ∃ W7, W7 = w6.alloc (.cells #[.slice ya yn yc] 24) := ⟨_, rfl⟩
            have b67 : Below w6.heap.size w6 W7 := by rw [hW7]; exact (Below.refl _ _).alloc (Nat.le_refl _) _
            have hN7 : ∀ j u, ([Value.slice ya yn yc] : List Value)[j]? = some u → W7.cell? ((⟨w6.heap.size, 0, none⟩ : Addr).add j) = some u := by rw [hW7]; exact one_val w6 _ _
            have b57 : Below w5.heap.size w5 W7 := b56.trans (b67.mono b56.size)
            have HW7 := hide hW7
            refine Z.ready (rs := [7]) (by kernel_rfl) (by simp) (Z.val_cons (i := 7) (d := 48) (v := .slice (some ⟨w6.heap.size, 0, none⟩) 1 1) (w' := W7) rfl (by rfl) (fun K hK => ?_) (fun _ => b57.block _ hs34) ?_ Z.All.nil)
            · go_simp
              rw [← hW7]
              exact hK.out
            simp only [Act.put, List.setIfInBounds_toArray, List.set_cons_zero, List.set_cons_succ]
            clear hW7
            have HO6 := hide (Al.row_below (unhide HOW) b56)
            refine Z.only (i := 8) (d := 49) rfl rfl (by kernel_rfl) (by rfl) (fun K hK => ?_)
            refine Al.wp_row _ (.tmp 41) (.tmp 48) 28 rfl 24 i0 (.slice none 0 0) 24 Tryz.underlying28 hi hz0 hz1 hz2 rfl W2.heap.size (.slice va m vc) m ss rfl (Al.row_below (unhide HO6) b67) (.slice (some ⟨w6.heap.size, 0, none⟩) 1 1) rfl [.slice ya yn yc] (.inr ⟨_, 1, rfl, hN7⟩) (by intro u hu; rw [List.mem_singleton.1 hu]; rfl) (by unfold maxLen; simp; omega) (by simp; omega) (by have := b57.size; have := (unhide HB4).size; have := hbel.size; omega) ?_
            intro v49 w8 ho8 hg8
            have hrB := Al.row_base (unhide HO6)
            have S8 : w8.heap[w3.heap.size]? = w5.heap[w3.heap.size]? := (hg8.block _ (Nat.lt_of_lt_of_le hs34 b57.size) (fun e => other_block (Al.row_below (unhide HO6) b67) ((unhide HE4).below b57 (unhide HE4).lt) (by decide) e.symm)).trans (b57.block _ hs34)
            have B8 : Below W2.heap.size W2 w8 := ((hbel.trans ((unhide HB4).mono hbel.size)).trans (b57.mono (by have := (unhide HB4).size; have := hbel.size; omega))).grown hg8 (by have := b57.size; have := (unhide HB4).size; have := hbel.size; omega) hrB
            have hml : (cutL D (L.take k)).length = m := hm.out.symm
            have SN := hide (SD.snoc (w2 := w6) (w3 := w8) (o := .cells #[.slice ya yn yc] 24) (B := W2.heap.size) (s := .slice va m vc) (v' := v49) (sp := .slice ya yn yc) (ps := cutL D (L.take k)) (p := cutE D l) (ss := ss) (by rw [hsl.out, hml]) (by rw [hml]; exact unhide HO6) (fun i hi => ((unhide HDs) i (by omega)).below b56) (fun i j h1 h2 => hdis.out i j h1 (by omega)) ((unhide HR47).mono (by have := (unhide HB4).size; have := hbel.size; omega)) (fun j hj b hb1 hb2 => by have := ((unhide HDs) j (by omega)).lt b hb1; have := (unhide HR47).base b hb2; omega) (by rw [← unhide HW7]; exact hg8) (by rw [hml]; exact ho8))
            rw [← unhide HSU2] at SN
            have SNL : Hid ((cutL D (L.take (k + 1))).length = m + 1) := hide (by rw [unhide HSU2, List.length_append, ← hm.out]; rfl)
            obtain ⟨za, zc, hz⟩ := Al.row_len ho8
            subst hz
            refine hK.out (.slice za (m + 1) zc) w8 S8 ?_
            clear hK K ho8 hg8 HO6 hN7 b67 b57 HW7 HR47 hrB S8 hml b56
            simp only [Act.put, List.setIfInBounds_toArray, List.set_cons_zero, List.set_cons_succ]
            refine Z.ready (rs := [9]) (by kernel_rfl) (by simp) (Z.val_cons (i := 9) (d := 6) (v := .slice za (m + 1) zc) (w' := w8) rfl (by rfl) (fun K hK => ?_) (fun h => absurd rfl h) ?_ Z.All.nil)
            · go_simp
              exact hK.out
            simp only [Act.put, List.setIfInBounds_toArray, List.set_cons_zero, List.set_cons_succ]
            refine Z.done (by kernel_rfl) ?_ _
            clear KEEP hHeld HOW HDs HE4 HB4 hown hres hdis
            go_wp2_with fail
            obtain ⟨ss', q1, q2, q3, q4⟩ := unhide SN
            rw [unhide SNL] at q1 q2 q3 q4
            go_roundg (n - (k + 1))
            case rel => exact ⟨k + 1, m + 1, ss', rfl, by go_num, by omega, (unhide SNL).symm, hm200, q1, q2, q3, q4, B8⟩
            case measure => have := hg.out; omega
          · have HSU2 := hide (show cutL D (L.take (k + 1)) = cutL D (L.take k) by rw [unhide HSU, unhide HKP, decide_eq_false hkp, if_neg (by simp), List.append_nil])
            have hkpI : ¬ (D : Int) < (cs.length : Int) := by omega
            have B5 := hbel.trans ((unhide HB4).mono hbel.size)
            have HO5 := hide (Al.row_below hown.out (unhide HB4))
            have HR5 := hide (fun i hi => (hres.out i hi).below (unhide HB4))
            clear HSU HKP g0 g1 hrow5 hkp
            go_wp2_with fail
            go_roundg (n - (k + 1))
            case rel => exact ⟨k + 1, m, ss, rfl, by go_num, by omega, by rw [unhide HSU2]; exact hm.out, hm2, hsl.out, unhide HO5, by rw [unhide HSU2]; exact unhide HR5, hdis.out, B5⟩
            case measure => have := hg.out; omega
      · have hke : k = n := by omega
        have hown' := hown.out
        have hLk : L.take k = L := by rw [hke, ← unhide HNL, List.take_length]
        have hSD : SD wr W2.heap.size u6 (cutL D L) := by
          have e1 := hm.out
          rw [hLk] at e1
          have h1 := hown.out
          have h2 := hres.out
          have h3 := hdis.out
          rw [e1] at h1 h2 h3
          rw [hLk] at h2
          exact ⟨ss, by rw [hsl.out, e1], h1, h2, h3⟩
        have hne : ∀ i, i < (cutL D L).length → (cutL D L).getD i [] ≠ [] := fun i hi h => by
          have hm2 : (cutL D L).getD i [] ∈ cutL D L := by rw [List.getD_eq_getElem?_getD, List.getElem?_eq_getElem hi]; exact List.getElem_mem hi
          unfold cutL at hm2
          obtain ⟨l, _, hl⟩ := List.mem_map.1 hm2
          unfold cutL at h
          rw [h] at hl
          unfold cutE laid arrV arrK at hl
          cases hl
        obtain ⟨va, vc, rfl⟩ := Al.row_len hown'
        have R3 := hR2.below hbel hR2.lt
        have hlo : w.heap.size < W2.heap.size := hR2.lt
        have BB := B2.trans (hbel.mono B2.size)
        have HPS := hide (hSD.pr hne)
        have E := hide (fun x y => (show PR ((wr.setCell ⟨w.heap.size, 0, none⟩ x).setCell ⟨w.heap.size, 1, none⟩ y) w.heap.size ((wr.setCell ⟨w.heap.size, 0, none⟩ x).setCell ⟨w.heap.size, 1, none⟩ y).heap.size (.slice va m vc) (cutL D L) from by
          rw [size_setCell2]
          exact ((unhide HPS).keep fun k h1 _ _ => heap_setCell2 wr _ x y k (by omega)).mono (by omega) (Nat.le_refl _)))
        have r0 := R3.cell 0
        have r1 := R3.cell 1
        have z0 := R3.frozen 0
        have z1 := R3.frozen 1
        simp only [List.getElem?_cons_zero, List.getElem?_cons_succ] at r0 r1
        clear hke hLk hSD hne hown hres hdis HPS hown' hm hsl
        go_wp2_with fail
        refine bodyPost_ret (v := .agg #[.int .i64 0, .slice va m vc]) (by simp [results, Tryz.results22, go_sem, r0, r1]) rfl (_root_.Go.Proofs.YtcglddahphkcpaaGreatDoor.ansR_of (unhide FIN) ((unhide E) _ _) (store_below BB _ _))
  · have fin := hide ((unhide FB) hz)
    have hz' : (q == 0) = false := by simp [hz]
    clear FR FB FO FN HSM hz
    go_wp2_with fail
    rw [← hW2]
    clear hW2
    refine bodyPost_ret (v := .agg #[.int .i64 q, .slice none 0 0]) (by simp [results, Tryz.results22, go_sem, r0, r1]) rfl (_root_.Go.Proofs.YtcglddahphkcpaaGreatDoor.ansR_of (unhide fin) (.inl ⟨rfl, rfl⟩) (store_below B2 _ _))
end Sev
end Go.Proofs.YtcglddahphkcpaaGreatDoor
