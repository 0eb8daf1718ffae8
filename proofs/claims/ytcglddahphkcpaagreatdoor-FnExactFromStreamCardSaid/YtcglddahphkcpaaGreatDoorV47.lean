/-
  spec.l15Text; spec.FromStream (mk_fss.py).
-/
import Derived.Test.YtcglddahphkcpaaGreatDoorV40
import Derived.Test.YtcglddahphkcpaaGreatDoorV45
import Derived.Test.YtcglddahphkcpaaGreatDoorV46
namespace Go.Proofs.YtcglddahphkcpaaGreatDoor
open Go.RowKit
set_option linter.unusedVariables false
set_option linter.unusedSimpArgs false
namespace Sev
set_option maxRecDepth 100000 in
set_option maxHeartbeats 2000000 in
theorem l15Text_any (a : Option Addr) (cap : Nat) (ps : List (List M.Cl)) (w : World) (hL : LV w a ps) (hn200 : ps.length ≤ 200) (hall : ∀ j, j < ps.length → M.valueFault (ps.getD j []) = 0) :
    Calls Tryz.prog 36 #[.slice a ps.length cap] w fun e w' => e = .returned (.string (J.bytes (linesK ps ps.length))) ∧ Below w.heap.size w w' := by
  have HL := hide hL
  have HALL := hide hall
  clear hL hall
  go_enter Tryz.func36, Tryz.ntmps36
  go_wp2_with fail
  go_loopg [3, 4] ps.length (fun gh s3 s4 wr => ∃ (k : Nat) (o : ByteArray), Hid (gh = ps.length - k) ∧ s3 = .string o ∧ s4 = .int .i64 k ∧ k ≤ ps.length ∧ Hid (o = J.bytes (linesK ps k)) ∧ Below w.heap.size w wr)
  case atStart => exact ⟨0, _, rfl, rfl, rfl, by omega, rfl, Below.refl _ _⟩
  case round =>
    obtain ⟨k, o, hg, rfl, rfl, hk, ho, hbel⟩ := hrel
    have hosz : o.size ≤ 20000000 := by rw [ho.out, J.bytes_size]; exact lines_room ps k (by omega) (fun j hj => (unhide HALL) j (by omega))
    by_cases hlt : k < ps.length
    · have hltI : (k : Int) < (ps.length : Int) := by omega
      obtain ⟨g, b, off, cc, rfl, hg0, f0, hcc, hb, hr⟩ := ((unhide HL).below hbel) k hlt
      have hz := (unhide HALL) k hlt
      have hline : Hid (J.bytes (linesK ps (k + 1)) = o ++ J.bytes (J.encL 200 (ps.getD k [])) ++ { data := #[10] }) := by
        show _ = _
        rw [ho.out, linesK, bytes_two, bytes_two, ByteArray.append_assoc]
        rfl
      generalize ps.getD k [] = p at *
      have HE := hide (l2Encode_all 200 p b off cc wr hz (M.fault_zero hz).2.1 hr hb hcc (Pth.oks hz))
      have hes : (J.bytes (J.encL 200 p)).size ≤ 80000 := by rw [J.bytes_size]; exact enc_len hz
      clear hz hr
      generalize J.bytes (J.encL 200 p) = E at *
      have hs2 : (o ++ E).size ≤ 20080000 := by rw [ByteArray.size_append]; omega
      go_wp2_with fail
      refine (unhide HE).mono ?_
      rintro e w2 ⟨rfl, hb2⟩
      have B2 : Below w.heap.size w w2 := hbel.trans (hb2.mono hbel.size)
      clear hb2 HE f0
      go_wp2_with fail
      go_roundg (ps.length - (k + 1))
      case rel => exact ⟨k + 1, _, rfl, rfl, by go_num, by omega, by (show _ = _; rw [hline.out]), B2⟩
      case measure => have := hg.out; omega
    · have hke : k = ps.length := by omega
      have hq : Hid (o = J.bytes (linesK ps ps.length)) := by show _ = _; rw [ho.out, hke]
      clear hke
      go_wp2_with fail
      go_ret
      exact ⟨by rw [hq.out]; rfl, hbel⟩
theorem partsLV (l : List M.Cl) (b o vc : Nat) (w : World) (hv : M.valueFault l = 0) (hr : Row w b o l) (hb : b < w.heap.size) (hcap : l.length ≤ vc) (hok : ∀ c ∈ l, c.ok) :
    Calls Tryz.prog 34 #[.slice (some ⟨b, o, none⟩) l.length vc] w fun e w' => ∃ a c, e = .returned (.slice a (subs l 0).length c) ∧ (subs l 0).length ≤ c ∧ LV w' a (subs l 0) ∧ Below w.heap.size w w' := by
  refine (l1Parts_any l b o vc w hv hr hb hcap hok).mono ?_
  rintro e w1 ⟨s, rfl, hss, hb1⟩
  obtain ⟨a, c, rfl, hac, hlv⟩ := hss.lv (subs_all hv hok).2.2.2
  exact ⟨a, c, rfl, hac, hlv, hb1⟩
set_option maxRecDepth 100000 in
set_option maxHeartbeats 8000000 in
theorem specFrom_any (g : Nat) (L : List (List M.Cl)) (w : World) (hL : LR w g L) (hn : L.length ≤ 1048576) (hln : tot L L.length ≤ 1048576) (hok : OkS L) :
    Calls Tryz.prog 8 #[.slice (some ⟨g, 0, none⟩) L.length L.length] w (AnsR w (fromOut L)) := by
  have HB0 := hide (fun o => (show Below w.heap.size w (w.alloc o) from (Below.refl _ _).alloc (Nat.le_refl _) o))
  have HF := hide (fun o => specStream_any g L (w.alloc o) (hL.below ((Below.refl _ _).alloc (Nat.le_refl _) _)) hn hln hok)
  have HLR := hide (fun W (h : Below w.heap.size w W) => hL.below h)
  have OK := hide hok
  have HLN := hide hln
  clear hL hok hln
  go_enter Tryz.func8, Tryz.ntmps8
  go_wp2_with fail
  refine ((unhide HF) _).mono ?_
  rintro e w1 ⟨sv, rfl, hrs, hb1⟩
  have hR : Own w1 w.heap.size 26 [.int .i64 0, .int .i64 0, .slice none 0 0] := Own.below ⟨_, heap_alloc_new _ _, rfl⟩ hb1 (by simp)
  have B1 : Below w.heap.size w w1 := ((unhide HB0) _).trans (hb1.mono (by simp))
  rw [faults_nil] at hrs
  obtain ⟨fa, fn, fc, rfl⟩ := hrs.shape
  have hrs1 : Res w1 (w.heap.size + 1) (.slice fa fn fc) [] := hrs.mono (by simp)
  have FB := hide (fun h => (from_bad (L := L) h).trans (show faults L = ((faults L).1, (faults L).2.1, []) from Prod.ext rfl (Prod.ext rfl (faults_nil L))))
  have FN := hide (fun h => faults_no (l := L) h)
  have FH := hide (fun h c a l hm hc => from_hit (L := L) (c := c) (a := a) (l := l) h hm hc)
  have FE := hide (fun h u hm => from_end (L := L) (u := u) h hm)
  clear hb1 hrs HF HB0
  generalize (faults L).2.1 = at_ at *
  generalize (faults L).1 = q at *
  obtain ⟨W2, hW2⟩ : ∃ W2, W2 = w1.alloc (.cells #[.int .i64 q, .int .i64 at_, .slice fa fn fc] 26) := ⟨_, rfl⟩
  have B2 : Below w.heap.size w W2 := by rw [hW2]; exact B1.alloc B1.size _
  have hR2 : Own W2 w.heap.size 26 [.int .i64 0, .int .i64 0, .slice none 0 0] := by rw [hW2]; exact hR.alloc _
  have hX2 : Own W2 w1.heap.size 26 [.int .i64 q, .int .i64 at_, .slice fa fn fc] := by rw [hW2]; exact ⟨_, heap_alloc_new _ _, rfl⟩
  have hrs2 : Res W2 (w.heap.size + 1) (.slice fa fn fc) [] := by rw [hW2]; exact hrs1.alloc _
  have HR2 := hide hR2
  have x0 := hX2.cell 0
  have x1 := hX2.cell 1
  have x2 := hX2.cell 2
  simp only [List.getElem?_cons_zero, List.getElem?_cons_succ] at x0 x1 x2
  clear hR B1 hrs1
  go_upto_region 2 with fail
  rw [← hW2]
  clear hW2
  by_cases hz : q = 0
  case neg =>
    have fin := hide ((unhide FB) hz)
    have hz' : (q == 0) = false := by simp [hz]
    have F := hide (ret3 hrs2 B2)
    have r0 := hR2.cell 0
    have r1 := hR2.cell 1
    have r2 := hR2.cell 2
    simp only [List.getElem?_cons_zero, List.getElem?_cons_succ] at r0 r1 r2
    have z0 := hR2.frozen 0
    have z1 := hR2.frozen 1
    have z2 := hR2.frozen 2
    clear FB FN FH FE HLR OK HLN hz hR2 HR2 hrs2
    go_wp2_with fail
    refine bodyPost_ret (v := .agg #[.int .i64 q, .int .i64 at_, .slice fa fn fc]) (by simp [results, Tryz.results8, go_sem, r0, r1, r2]) rfl (ansR_of (unhide fin) ((unhide F) _ _ _).1 ((unhide F) _ _ _).2)
  subst hz
  obtain ⟨hn1, hn2, hev⟩ := (unhide FN) rfl
  have HEV := hide (fun k (hk : k < L.length) => evt_of ((unhide OK) k hk) (hev k hk))
  have FH := hide ((unhide FH) rfl)
  have FE := hide ((unhide FE) rfl)
  clear FN FB hev hrs2 hR2
  go_wp2_with fail
  refine (l3Null_any W2).mono ?_
  rintro e w3 ⟨s3, rfl, hr3, hb3⟩
  have B3 : Below w.heap.size w w3 := B2.trans (hb3.mono B2.size)
  have R3 := hide ((unhide HR2).below hb3 (unhide HR2).lt)
  have V3 := hide (show Res w3 (w.heap.size + 1) s3 [M.zero] from hr3.mono (unhide HR2).lt)
  obtain ⟨na, nn, nc, rfl⟩ := hr3.shape
  clear hr3 hb3 HR2
  go_wp2_with fail
  go_loopg [4, 5] L.length (fun gh s4 s5 wr => ∃ (k : Nat) (u : List M.Cl), Hid (gh = L.length - k) ∧ s5 = .int .i64 (k : Int) ∧ k ≤ L.length ∧ Hid (Res wr (w.heap.size + 1) s4 u) ∧ Hid (M.valueFault u = 0) ∧ Hid (made 0 [M.zero] L = made k u (L.drop k)) ∧ Hid (Own wr w.heap.size 26 [.int .i64 0, .int .i64 0, .slice none 0 0]) ∧ Below w.heap.size w wr)
  case atStart => exact ⟨0, [M.zero], rfl, rfl, by omega, unhide V3, zero_ok, rfl, unhide R3, B3⟩
  case round =>
    clear V3 R3 B3 x0 x1 x2 hX2 B2
    obtain ⟨k, u, hg, rfl, hk, hU, hu, hmd, hRR, hbel⟩ := hrel
    obtain ⟨ub, uc, hsh, hcu, hlu, hltu, hrwu⟩ := hU.out.rowedQ (Pth.val_ne hu.out)
    subst hsh
    have hul := Pth.lens hu.out
    by_cases hlt : k < L.length
    · obtain ⟨b, f0, hb, hr⟩ := ((unhide HLR) wr hbel).2 k hlt
      have hev := (unhide HEV) k hlt
      have hko := (unhide OK) k hlt
      have hpo := part_ok hev.val hko (j := 0) (by rcases hev.n12 with e | e; have := parts_n (n := 1) e; omega; have := parts_n (n := 2) e; omega)
      have h12 := hev.n12
      have hpf := hev.path
      have hstp := hev.stp
      have HLF := hide hev.leaf
      have HSK := hide (fun h => hmd.out.trans (made_skip hlt h))
      have HHT := hide (fun hn h => hmd.out.trans (made_hit hlt hn h))
      have HNX := hide (fun hn h => hmd.out.trans (made_next hlt hn h))
      have HL1 := hide (partsLV (L.getD k []) b 0 (L.getD k []).length wr hev.val hr hb (Nat.le_refl _) hko)
      have HPX := hide (fun (h2 : ((L.getD k []).getD 0 M.zero).n = 2) => part_ok hev.val hko (j := 1) (by have := parts_n (n := 2) h2; omega))
      have hltI : (k : Int) < (L.length : Int) := by omega
      have HLTk := hide hlt
      clear hev hko hr hmd hlt
      generalize L.getD k [] = l at *
      rcases h12 with hn1 | hn1
      · have SK := hide ((unhide HSK) hn1)
        have hpn := parts_n (n := 1) hn1
        rw [hpn] at HL1
        clear HPX HLF HSK HHT HNX
        go_wp2_with fail
        refine (unhide HL1).mono ?_
        rintro e w5 ⟨a5, c5, rfl, hc5, hlv5, hb5⟩
        have HR5 := hide (hRR.out.below hb5 hRR.out.lt)
        have HV5 := hide (hU.out.below hb5)
        have B5 := hbel.trans (hb5.mono hbel.size)
        clear hlv5 HL1 f0 hrwu hpo
        go_wp2_with fail
        go_roundg (L.length - (k + 1))
        case rel => exact ⟨k + 1, u, rfl, by go_num, by have := HLTk.out; omega, unhide HV5, hu.out, unhide SK, unhide HR5, B5⟩
        case measure => have := hg.out; have := HLTk.out; omega
      · have hpn := parts_n (n := 2) hn1
        rw [hpn] at HL1
        have hpx := (unhide HPX) hn1
        have hxv := (unhide HLF) hn1
        have HT_ := hide ((unhide HHT) hn1)
        have NX_ := hide ((unhide HNX) hn1)
        clear HPX HLF HSK HHT HNX
        go_wp2_with fail
        refine (unhide HL1).mono ?_
        rintro e w5 ⟨a5, c5, rfl, hc5, hlv5, hb5⟩
        obtain ⟨g2, b0, o0, c0, rfl, hg2, p0, hc0, hb0, hr0⟩ := hlv5 0 (by omega)
        obtain ⟨g2', b1, o1, c1, e2, _, p1, hc1, hb1, hr1⟩ := hlv5 1 (by omega)
        simp only [Option.some.injEq, Addr.mk.injEq, and_true] at e2
        subst e2
        have B5 : Below w.heap.size w w5 := hbel.trans (hb5.mono hbel.size)
        have hR5 := hide (hRR.out.below hb5 hRR.out.lt)
        have hsz5 : w.heap.size + 1 ≤ w5.heap.size := (unhide hR5).lt
        have hMMd := hide (trivial)
        have hrw5 := hrwu.below hb5 hltu
        have hlt5 : ub < w5.heap.size := Nat.lt_of_lt_of_le hltu hb5.size
        have HPP := hide (fun W (h : Below w5.heap.size w5 W) => pathPartsR (P l 0) hpf b0 o0 c0 W (hr0.below h hb0) (Nat.lt_of_lt_of_le hb0 h.size) hc0 hpo.2.1)
        have HSET := hide (fun W (h : Below w5.heap.size w5 W) pa pc (hpl : Pth.PL W pa ((P l 0).drop 1)) (h1 : ((P l 0).drop 1).length ≤ pc) (h2 : pc ≤ 9223372036854775807) => l13Set_any ((P l 0).drop 1) (P l 1) hxv hstp u ub 0 uc pa pc b1 o1 c1 W hu.out (hrw5.below h hlt5) (Nat.lt_of_lt_of_le hlt5 h.size) hcu hpl h1 h2 (hr1.below h hb1) (Nat.lt_of_lt_of_le hb1 h.size) hc1)
        have GD := hide (Pth.setS_gd (cs := (P l 0).drop 1) hu.out hxv)
        have KEEP1 := hide (fun W (h : Below w5.heap.size w5 W) => (show W.cell? ⟨g2, 0, none⟩ = some (.slice (some ⟨b0, o0, none⟩) (P l 0).length c0) from (h.cell (p := ⟨g2, 0, none⟩) hg2).trans p0))
        have KEEP2 := hide (fun W (h : Below w5.heap.size w5 W) => (show W.cell? ⟨g2, 1, none⟩ = some (.slice (some ⟨b1, o1, none⟩) (P l 1).length c1) from (h.cell (p := ⟨g2, 1, none⟩) hg2).trans p1))
        have hl0 := hpo.2.2.2
        have hl1 := hpx.2.2.2
        clear hlv5 hr0 hr1 p0 p1 HL1 f0 hpo hpx hrwu hrw5 hpf hstp hxv hRR hU hu hb5 hpn
        generalize (P l 0).drop 1 = cs at *
        generalize P l 0 = p at *
        generalize P l 1 = x at *
        generalize Pth.setS u cs x = R at *
        obtain ⟨rc, rl⟩ := R
        go_upto_region 10 with fail
        have BR := Below.refl w5.heap.size w5
        refine Z.region 10 (fun w' => Below w5.heap.size w5 w') (by kernel_rfl) BR.drew (fun hHeld => ?_)
        refine Z.take (i := 0) (d := 30) (v := .slice (some ⟨ub, 0, none⟩) u.length uc) rfl rfl (by kernel_rfl) (by kernel_rfl) (by kernel_rfl) (by kernel_rfl) (fun _ _ _ h => h) (Or.inl ⟨by rfl, ?_⟩) hHeld ?_
        · intro w' hSw; go_simp
        simp only [Act.put, List.setIfInBounds_toArray, List.set_cons_zero, List.set_cons_succ]
        refine Z.take (i := 1) (d := 31) (v := .slice (some ⟨g2, 0, none⟩) 2 c5) rfl rfl (by kernel_rfl) (by kernel_rfl) (by kernel_rfl) (by kernel_rfl) (fun _ _ _ h => h) (Or.inl ⟨by rfl, ?_⟩) hHeld ?_
        · intro w' hSw; go_simp
        simp only [Act.put, List.setIfInBounds_toArray, List.set_cons_zero, List.set_cons_succ]
        refine Z.take (i := 2) (d := 32) (v := .pointer (some ⟨g2, 0, none⟩)) rfl rfl (by kernel_rfl) (by kernel_rfl) (by kernel_rfl) (by kernel_rfl) (fun _ _ _ h => h) (Or.inl ⟨by rfl, ?_⟩) hHeld ?_
        · intro w' hSw; go_simp
        simp only [Act.put, List.setIfInBounds_toArray, List.set_cons_zero, List.set_cons_succ]
        refine Z.take (i := 3) (d := 33) (v := .slice (some ⟨b0, o0, none⟩) p.length c0) rfl rfl (by kernel_rfl) (by kernel_rfl) (by kernel_rfl) (by kernel_rfl) (fun _ _ _ h => h) (Or.inl ⟨by rfl, ?_⟩) hHeld ?_
        · intro w' hSw; have g9 := (unhide KEEP1) _ hSw; go_simp
        simp only [Act.put, List.setIfInBounds_toArray, List.set_cons_zero, List.set_cons_succ]
        refine Z.take (i := 5) (d := 35) (v := .slice (some ⟨g2, 0, none⟩) 2 c5) rfl rfl (by kernel_rfl) (by kernel_rfl) (by kernel_rfl) (by kernel_rfl) (fun _ _ _ h => h) (Or.inl ⟨by rfl, ?_⟩) hHeld ?_
        · intro w' hSw; go_simp
        simp only [Act.put, List.setIfInBounds_toArray, List.set_cons_zero, List.set_cons_succ]
        refine Z.take (i := 6) (d := 36) (v := .pointer (some ⟨g2, 1, none⟩)) rfl rfl (by kernel_rfl) (by kernel_rfl) (by kernel_rfl) (by kernel_rfl) (fun _ _ _ h => h) (Or.inl ⟨by rfl, ?_⟩) hHeld ?_
        · intro w' hSw; go_simp
        simp only [Act.put, List.setIfInBounds_toArray, List.set_cons_zero, List.set_cons_succ]
        refine Z.take (i := 7) (d := 37) (v := .slice (some ⟨b1, o1, none⟩) x.length c1) rfl rfl (by kernel_rfl) (by kernel_rfl) (by kernel_rfl) (by kernel_rfl) (fun _ _ _ h => h) (Or.inl ⟨by rfl, ?_⟩) hHeld ?_
        · intro w' hSw; have g9 := (unhide KEEP2) _ hSw; go_simp
        simp only [Act.put, List.setIfInBounds_toArray, List.set_cons_zero, List.set_cons_succ]
        refine Z.ready (rs := [4, 9]) (by kernel_rfl) (by simp) (Z.call_cons (i := 4) rfl (by rfl) (fun K hK => ?_) (Z.val_cons (i := 9) (d := 7) (v := .pointer (some ⟨w5.heap.size, 0, none⟩)) (w' := (w5.drew).alloc (.cells #[.int .i64 0, .slice none 0 0] 59)) rfl (by rfl) (fun K hK => ?_) (fun _ => BR.drew.alloc (Nat.le_refl _) _) ?_ Z.All.nil))
        · go_simp
          refine ((unhide HPP) w5.drew BR.drew).mono ?_
          rintro e w6 ⟨pa, pc, rfl, hp1, hp2, hpl, hb4⟩
          have bw6 : Below w5.heap.size w5 w6 := (BR.drew).trans (hb4.mono (BR.drew).size)
          go_simp
          refine hK.out _ _ (fun _ => bw6) ?_
          clear hK K
          try simp only [Act.put, List.setIfInBounds_toArray, List.set_cons_zero, List.set_cons_succ]
          refine Z.ready (rs := [8, 9]) (by kernel_rfl) (by simp) (Z.call_cons (i := 8) rfl (by rfl) (fun K hK => ?_) (Z.val_cons (i := 9) (d := 7) (v := .pointer (some ⟨w6.heap.size, 0, none⟩)) (w' := (w6).alloc (.cells #[.int .i64 0, .slice none 0 0] 59)) rfl (by rfl) (fun K hK => ?_) (fun _ => bw6.alloc (by have := bw6.size; omega) _) ?_ Z.All.nil))
          · go_simp
            refine ((unhide HSET) w6 bw6 pa pc hpl hp1 hp2).mono ?_
            rintro e w8 ⟨s8, rfl, hr8, hb8⟩
            have bw8 : Below w5.heap.size w5 w8 := (bw6).trans (hb8.mono (bw6).size)
            obtain ⟨a8, n8, c8, rfl⟩ := hr8.shape
            go_simp
            refine hK.out _ _ (fun _ => bw8) ?_
            clear hK K
            try simp only [Act.put, List.setIfInBounds_toArray, List.set_cons_zero, List.set_cons_succ]
            obtain ⟨W9, hW9⟩ : ∃ W9, W9 = w8.alloc (.cells #[.int .i64 rc, .slice a8 n8 c8] 59) := ⟨_, rfl⟩
            have E9 : Own W9 w8.heap.size 59 [.int .i64 rc, .slice a8 n8 c8] := by rw [hW9]; exact ⟨_, heap_alloc_new _ _, rfl⟩
            have R9 : Own W9 w.heap.size 26 [.int .i64 0, .int .i64 0, .slice none 0 0] := by rw [hW9]; exact ((unhide hR5).below bw8 (unhide hR5).lt).alloc _
            have V9 : Res W9 (w.heap.size + 1) (.slice a8 n8 c8) rl := by rw [hW9]; exact (hr8.mono (by have := bw6.size; omega)).alloc _
            have B9 : Below w.heap.size w W9 := by rw [hW9]; exact (B5.trans (bw8.mono B5.size)).alloc (by have := bw8.size; omega) _
            refine Z.ready (rs := [9]) (by kernel_rfl) (by simp) (Z.val_cons (i := 9) (d := 7) (v := .pointer (some ⟨w8.heap.size, 0, none⟩)) (w' := w8.alloc (.cells #[.int .i64 0, .slice none 0 0] 59)) rfl (by rfl) (fun K hK => ?_) (fun _ => bw8.alloc (by have := bw8.size; omega) _) ?_ Z.All.nil)
            · go_simp
              exact hK.out
            simp only [Act.put, List.setIfInBounds_toArray, List.set_cons_zero, List.set_cons_succ]
            refine Z.ready (rs := [10]) (by kernel_rfl) (by simp) (Z.same (i := 10) (w' := W9) rfl (by rfl) (fun K hK => ?_) (fun h => absurd rfl h) ?_ Z.All.nil)
            · go_simp
              rw [← hW9]
              exact hK.out
            clear hW9 hr8 hb8
            generalize w8.heap.size = g9 at *
            refine Z.done (by kernel_rfl) ?_ _
            clear hHeld HSET HPP KEEP1 KEEP2 BR hR5 hMMd
            have u0 := E9.cell 0
            have u1 := E9.cell 1
            simp only [List.getElem?_cons_zero, List.getElem?_cons_succ] at u0 u1
            by_cases hzr : rc = 0
            · subst hzr
              have NX := hide ((unhide NX_) rfl)
              have VU := hide ((unhide GD).ok rfl)
              have HR9 := hide R9
              have HV9 := hide V9
              clear NX_ HT_ GD R9 V9
              go_wp2_with fail
              go_roundg (L.length - (k + 1))
              case rel => exact ⟨k + 1, rl, rfl, by go_num, by have := HLTk.out; omega, unhide HV9, unhide VU, unhide NX, unhide HR9, B9⟩
              case measure => have := hg.out; have := HLTk.out; omega
            · have fin := hide ((unhide FH) trivial _ _ _ ((unhide HT_) hzr) hzr)
              have hz' : (rc == 0) = false := by simp [hzr]
              have F := hide (ret3 (resNil W9 (w.heap.size + 1)) B9)
              clear NX_ HT_ GD V9 hzr
              have r0 := R9.cell 0
              have r1 := R9.cell 1
              have r2 := R9.cell 2
              simp only [List.getElem?_cons_zero, List.getElem?_cons_succ] at r0 r1 r2
              have z0 := R9.frozen 0
              have z1 := R9.frozen 1
              have z2 := R9.frozen 2
              clear R9
              go_wp2_with fail
              refine bodyPost_ret (v := .agg #[.int .i64 rc, .int .i64 k, .slice none 0 0]) (by simp [results, Tryz.results8, go_sem, r0, r1, r2]) rfl (ansR_of (unhide fin) ((unhide F) _ _ _).1 ((unhide F) _ _ _).2)
          · go_simp
            exact hK.out
          · try simp only [Act.put, List.setIfInBounds_toArray, List.set_cons_zero, List.set_cons_succ]
            have OZ : Own (w6.alloc (.cells #[.int .i64 0, .slice none 0 0] 59)) w6.heap.size 59 [.int .i64 0, .slice none 0 0] := ⟨_, heap_alloc_new _ _, rfl⟩
            have bZ : Below w5.heap.size w5 (w6.alloc (.cells #[.int .i64 0, .slice none 0 0] 59)) := bw6.alloc (by have := bw6.size; omega) _
            have hplZ : Pth.PL (w6.alloc (.cells #[.int .i64 0, .slice none 0 0] 59)) pa cs := Pth.PL.below (B := 0) hpl (show Below w6.heap.size w6 (w6.alloc (.cells #[.int .i64 0, .slice none 0 0] 59)) from (Below.refl _ _).alloc (Nat.le_refl _) _)
            clear hpl
            have hpl := hplZ
            clear hplZ
            obtain ⟨WZ, hWZ⟩ : ∃ WZ, WZ = w6.alloc (.cells #[.int .i64 0, .slice none 0 0] 59) := ⟨_, rfl⟩
            rw [← hWZ] at OZ bZ hpl ⊢
            clear hWZ
            have hz6 := bw6.size
            have hOZl := OZ.lt
            refine Z.ready (rs := [8]) (by kernel_rfl) (by simp) (Z.call_cons (i := 8) rfl (by rfl) (fun K hK => ?_) Z.All.nil)
            go_simp
            refine ((unhide HSET) WZ bZ pa pc hpl hp1 hp2).mono ?_
            rintro e w8 ⟨s8, rfl, hr8, hb8⟩
            have bw8 : Below w5.heap.size w5 w8 := (bZ).trans (hb8.mono (bZ).size)
            obtain ⟨a8, n8, c8, rfl⟩ := hr8.shape
            go_simp
            refine hK.out _ _ (fun _ => bw8) ?_
            clear hK K
            try simp only [Act.put, List.setIfInBounds_toArray, List.set_cons_zero, List.set_cons_succ]
            have hne9 : ∀ b, (Value.slice a8 n8 c8).ownBlock = some b → b ≠ w6.heap.size := fun b hq => by have := hr8.base b hq; omega
            generalize hg9 : w6.heap.size = g9 at *
            have OZ9 := OZ.below hb8 OZ.lt
            have z0 := OZ9.cell 0
            have z1 := OZ9.cell 1
            have s0 := OZ9.frozen 0
            have s1 := OZ9.frozen 1
            simp only [List.getElem?_cons_zero, List.getElem?_cons_succ] at z0 z1
            obtain ⟨W9, hW9⟩ : ∃ W9, W9 = (w8.setCell ⟨g9, 0, none⟩ (.int .i64 rc)).setCell ⟨g9, 1, none⟩ (.slice a8 n8 c8) := ⟨_, rfl⟩
            have E9 : Own W9 g9 59 [.int .i64 rc, .slice a8 n8 c8] := by rw [hW9]; simpa using (OZ9.set 0 (.int .i64 rc)).set 1 (.slice a8 n8 c8)
            have R8 := (unhide hR5).below bw8 (unhide hR5).lt
            have hap9 : w.heap.size ≠ g9 := by omega
            have R9 : Own W9 w.heap.size 26 [.int .i64 0, .int .i64 0, .slice none 0 0] := by rw [hW9]; exact (R8.setOther _ _ hap9).setOther _ _ hap9
            have V9 : Res W9 (w.heap.size + 1) (.slice a8 n8 c8) rl := by rw [hW9]; exact ((hr8.mono (by omega)).setOther _ _ hne9).setOther _ _ hne9
            have B8 : Below w.heap.size w w8 := B5.trans (bw8.mono B5.size)
            have B9 : Below w.heap.size w W9 := by rw [hW9]; exact (B8.setCell (by show w.heap.size ≤ g9; omega) _).setCell (by show w.heap.size ≤ g9; omega) _
            refine Z.ready (rs := [10]) (by kernel_rfl) (by simp) (Z.same (i := 10) (w' := W9) rfl (by rfl) (fun K hK => ?_) (fun h => absurd rfl h) ?_ Z.All.nil)
            · go_simp
              rw [← hW9]
              exact hK.out
            clear hW9 OZ9 z0 z1 s0 s1 hr8 hb8 R8 B8
            refine Z.done (by kernel_rfl) ?_ _
            clear hHeld HSET HPP KEEP1 KEEP2 BR hR5 hMMd
            have u0 := E9.cell 0
            have u1 := E9.cell 1
            simp only [List.getElem?_cons_zero, List.getElem?_cons_succ] at u0 u1
            by_cases hzr : rc = 0
            · subst hzr
              have NX := hide ((unhide NX_) rfl)
              have VU := hide ((unhide GD).ok rfl)
              have HR9 := hide R9
              have HV9 := hide V9
              clear NX_ HT_ GD R9 V9
              go_wp2_with fail
              go_roundg (L.length - (k + 1))
              case rel => exact ⟨k + 1, rl, rfl, by go_num, by have := HLTk.out; omega, unhide HV9, unhide VU, unhide NX, unhide HR9, B9⟩
              case measure => have := hg.out; have := HLTk.out; omega
            · have fin := hide ((unhide FH) trivial _ _ _ ((unhide HT_) hzr) hzr)
              have hz' : (rc == 0) = false := by simp [hzr]
              have F := hide (ret3 (resNil W9 (w.heap.size + 1)) B9)
              clear NX_ HT_ GD V9 hzr
              have r0 := R9.cell 0
              have r1 := R9.cell 1
              have r2 := R9.cell 2
              simp only [List.getElem?_cons_zero, List.getElem?_cons_succ] at r0 r1 r2
              have z0 := R9.frozen 0
              have z1 := R9.frozen 1
              have z2 := R9.frozen 2
              clear R9
              go_wp2_with fail
              refine bodyPost_ret (v := .agg #[.int .i64 rc, .int .i64 k, .slice none 0 0]) (by simp [results, Tryz.results8, go_sem, r0, r1, r2]) rfl (ansR_of (unhide fin) ((unhide F) _ _ _).1 ((unhide F) _ _ _).2)
        · go_simp
          exact hK.out
        · try simp only [Act.put, List.setIfInBounds_toArray, List.set_cons_zero, List.set_cons_succ]
          have OZ : Own (w5.drew.alloc (.cells #[.int .i64 0, .slice none 0 0] 59)) w5.heap.size 59 [.int .i64 0, .slice none 0 0] := ⟨_, heap_alloc_new _ _, rfl⟩
          have bZ : Below w5.heap.size w5 (w5.drew.alloc (.cells #[.int .i64 0, .slice none 0 0] 59)) := BR.drew.alloc (Nat.le_refl _) _
          obtain ⟨WZ, hWZ⟩ : ∃ WZ, WZ = w5.drew.alloc (.cells #[.int .i64 0, .slice none 0 0] 59) := ⟨_, rfl⟩
          rw [← hWZ] at OZ bZ ⊢
          clear hWZ
          have hOZl := OZ.lt
          refine Z.ready (rs := [4]) (by kernel_rfl) (by simp) (Z.call_cons (i := 4) rfl (by rfl) (fun K hK => ?_) Z.All.nil)
          go_simp
          refine ((unhide HPP) WZ bZ).mono ?_
          rintro e w6 ⟨pa, pc, rfl, hp1, hp2, hpl, hb4⟩
          have bw6 : Below w5.heap.size w5 w6 := (bZ).trans (hb4.mono (bZ).size)
          go_simp
          refine hK.out _ _ (fun _ => bw6) ?_
          clear hK K
          try simp only [Act.put, List.setIfInBounds_toArray, List.set_cons_zero, List.set_cons_succ]
          have OZ6 := OZ.below hb4 OZ.lt
          refine Z.ready (rs := [8]) (by kernel_rfl) (by simp) (Z.call_cons (i := 8) rfl (by rfl) (fun K hK => ?_) Z.All.nil)
          go_simp
          refine ((unhide HSET) w6 bw6 pa pc hpl hp1 hp2).mono ?_
          rintro e w8 ⟨s8, rfl, hr8, hb8⟩
          have bw8 : Below w5.heap.size w5 w8 := (bw6).trans (hb8.mono (bw6).size)
          obtain ⟨a8, n8, c8, rfl⟩ := hr8.shape
          go_simp
          refine hK.out _ _ (fun _ => bw8) ?_
          clear hK K
          try simp only [Act.put, List.setIfInBounds_toArray, List.set_cons_zero, List.set_cons_succ]
          have hz6 := hb4.size
          have hne9 : ∀ b, (Value.slice a8 n8 c8).ownBlock = some b → b ≠ w5.heap.size := fun b hq => by have := hr8.base b hq; omega
          have hOw : w.heap.size ≠ w5.heap.size := by omega
          have hR5 := hR5
          have OZ9 := OZ6.below hb8 OZ6.lt
          have z0 := OZ9.cell 0
          have z1 := OZ9.cell 1
          have s0 := OZ9.frozen 0
          have s1 := OZ9.frozen 1
          simp only [List.getElem?_cons_zero, List.getElem?_cons_succ] at z0 z1
          obtain ⟨W9, hW9⟩ : ∃ W9, W9 = (w8.setCell ⟨w5.heap.size, 0, none⟩ (.int .i64 rc)).setCell ⟨w5.heap.size, 1, none⟩ (.slice a8 n8 c8) := ⟨_, rfl⟩
          have E9 : Own W9 w5.heap.size 59 [.int .i64 rc, .slice a8 n8 c8] := by rw [hW9]; simpa using (OZ9.set 0 (.int .i64 rc)).set 1 (.slice a8 n8 c8)
          have R8 := (unhide hR5).below bw8 (unhide hR5).lt
          have hap9 : w.heap.size ≠ w5.heap.size := by omega
          have R9 : Own W9 w.heap.size 26 [.int .i64 0, .int .i64 0, .slice none 0 0] := by rw [hW9]; exact (R8.setOther _ _ hap9).setOther _ _ hap9
          have V9 : Res W9 (w.heap.size + 1) (.slice a8 n8 c8) rl := by rw [hW9]; exact ((hr8.mono (by omega)).setOther _ _ hne9).setOther _ _ hne9
          have B8 : Below w.heap.size w w8 := B5.trans (bw8.mono B5.size)
          have B9 : Below w.heap.size w W9 := by rw [hW9]; exact (B8.setCell (by show w.heap.size ≤ w5.heap.size; omega) _).setCell (by show w.heap.size ≤ w5.heap.size; omega) _
          refine Z.ready (rs := [10]) (by kernel_rfl) (by simp) (Z.same (i := 10) (w' := W9) rfl (by rfl) (fun K hK => ?_) (fun h => absurd rfl h) ?_ Z.All.nil)
          · go_simp
            rw [← hW9]
            exact hK.out
          clear hW9 OZ9 z0 z1 s0 s1 hr8 hb8 R8 B8
          refine Z.done (by kernel_rfl) ?_ _
          clear hHeld HSET HPP KEEP1 KEEP2 BR hR5 hMMd
          have u0 := E9.cell 0
          have u1 := E9.cell 1
          simp only [List.getElem?_cons_zero, List.getElem?_cons_succ] at u0 u1
          by_cases hzr : rc = 0
          · subst hzr
            have NX := hide ((unhide NX_) rfl)
            have VU := hide ((unhide GD).ok rfl)
            have HR9 := hide R9
            have HV9 := hide V9
            clear NX_ HT_ GD R9 V9
            go_wp2_with fail
            go_roundg (L.length - (k + 1))
            case rel => exact ⟨k + 1, rl, rfl, by go_num, by have := HLTk.out; omega, unhide HV9, unhide VU, unhide NX, unhide HR9, B9⟩
            case measure => have := hg.out; have := HLTk.out; omega
          · have fin := hide ((unhide FH) trivial _ _ _ ((unhide HT_) hzr) hzr)
            have hz' : (rc == 0) = false := by simp [hzr]
            have F := hide (ret3 (resNil W9 (w.heap.size + 1)) B9)
            clear NX_ HT_ GD V9 hzr
            have r0 := R9.cell 0
            have r1 := R9.cell 1
            have r2 := R9.cell 2
            simp only [List.getElem?_cons_zero, List.getElem?_cons_succ] at r0 r1 r2
            have z0 := R9.frozen 0
            have z1 := R9.frozen 1
            have z2 := R9.frozen 2
            clear R9
            go_wp2_with fail
            refine bodyPost_ret (v := .agg #[.int .i64 rc, .int .i64 k, .slice none 0 0]) (by simp [results, Tryz.results8, go_sem, r0, r1, r2]) rfl (ansR_of (unhide fin) ((unhide F) _ _ _).1 ((unhide F) _ _ _).2)
    · have hke : k = L.length := by omega
      have fin := hide ((unhide FE) trivial _ (hmd.out.trans (made_end (u := u) hke)))
      have HSO := hide (show Calls Tryz.prog 21 #[.slice (some ⟨ub, 0, none⟩) u.length uc] wr (_root_.Go.Proofs.YtcglddahphkcpaaGreatDoor.AnsS wr (0, Al.evs u.length u [])) by rw [← Al.stream_ok hu.out]; exact Al.specStreamOf_any u ub 0 uc wr hrwu hltu (by omega) hcu (Pth.oks hu.out))
      have hfine := Al.stream_fine hu.out
      have HFV := hide hfine.2
      have hfn := hfine.1
      have HLV := hide (fun W (hb : Below wr.heap.size wr W) => ((unhide HLR) W (hbel.trans (hb.mono hbel.size))).lv)
      have HVL := hide (fun j (hj : j < L.length) => ((unhide HEV) j hj).val)
      have hn200 : L.length ≤ 200 := hn2
      clear hke hmd hfine hu hrwu HEV
      generalize Al.evs u.length u [] = E at *
      go_wp2_with fail
      refine (unhide HSO).mono ?_
      rintro e w5 ⟨s5, rfl, hp5, hb5⟩
      obtain ⟨a5, c5, rfl, hc5, hlv5⟩ := ps_lv hp5
      obtain ⟨W6, hW6⟩ : ∃ W6, W6 = w5.alloc (.cells #[.int .i64 0, .slice a5 E.length c5] 41) := ⟨_, rfl⟩
      have b56 : Below w5.heap.size w5 W6 := by rw [hW6]; exact (Below.refl _ _).alloc (Nat.le_refl _) _
      have hE6 : Own W6 w5.heap.size 41 [.int .i64 0, .slice a5 E.length c5] := by rw [hW6]; exact ⟨_, heap_alloc_new _ _, rfl⟩
      have b6 : Below wr.heap.size wr W6 := hb5.trans (b56.mono hb5.size)
      have HT6 := hide (l15Text_any a5 c5 E W6 (hlv5.below b56) hfn (unhide HFV))
      have e0 := hE6.cell 0
      have e1 := hE6.cell 1
      simp only [List.getElem?_cons_zero, List.getElem?_cons_succ] at e0 e1
      clear hp5 hlv5 HSO hb5 b56 hE6
      go_upto_region 15 with fail
      rw [← hW6]
      clear hW6
      go_wp2_with fail
      refine (unhide HT6).mono ?_
      rintro e w7 ⟨rfl, hb7⟩
      have b7 : Below wr.heap.size wr w7 := b6.trans (hb7.mono b6.size)
      have HT7 := hide (l15Text_any (some ⟨g, 0, none⟩) L.length L w7 ((unhide HLV) w7 b7) hn200 (unhide HVL))
      clear HT6 HLV e0 e1
      go_wp2_with fail
      refine (unhide HT7).mono ?_
      rintro e w8 ⟨rfl, hb8⟩
      have b8 : Below wr.heap.size wr w8 := b7.trans (hb8.mono b7.size)
      have B8 : Below w.heap.size w w8 := hbel.trans (b8.mono hbel.size)
      have R8 := hRR.out.below b8 hRR.out.lt
      have V8 := hU.out.below b8
      have F := hide (ret3 V8 B8)
      have F0 := hide (ret3 (resNil w8 (w.heap.size + 1)) B8)
      have hfin : Hid (fromOut L = if J.bytes (linesK E E.length) = J.bytes (linesK L L.length) then (0, 0, u) else (1, 0, [])) := fin
      have r0 := R8.cell 0
      have r1 := R8.cell 1
      have r2 := R8.cell 2
      simp only [List.getElem?_cons_zero, List.getElem?_cons_succ] at r0 r1 r2
      have z0 := R8.frozen 0
      have z1 := R8.frozen 1
      have z2 := R8.frozen 2
      clear HT7 HLR fin R8 V8 hRR hU hb7 hb8 b6 b7 hbel
      generalize J.bytes (linesK E E.length) = t1 at *
      generalize J.bytes (linesK L L.length) = t2 at *
      by_cases he : t1 = t2
      · have fin := hide (hfin.out.trans (if_pos he))
        subst he
        clear hfin
        go_wp2_with fail
        refine bodyPost_ret (v := .agg #[.int .i64 0, .int .i64 0, .slice (some ⟨ub, 0, none⟩) u.length uc]) (by simp [results, Tryz.results8, go_sem, r0, r1, r2]) rfl (ansR_of (unhide fin) ((unhide F) _ _ _).1 ((unhide F) _ _ _).2)
      · have fin := hide (hfin.out.trans (if_neg he))
        have he' : (t1.toList == t2.toList) = false := by rw [beq_eq_false_iff_ne]; exact fun h => he (bytes_ext h)
        clear hfin
        go_wp2_with fail
        refine bodyPost_ret (v := .agg #[.int .i64 1, .int .i64 0, .slice none 0 0]) (by simp [results, Tryz.results8, go_sem, r0, r1, r2]) rfl (ansR_of (unhide fin) ((unhide F0) _ _ _).1 ((unhide F0) _ _ _).2)
end Sev
end Go.Proofs.YtcglddahphkcpaaGreatDoor
