/-
  impl.FromStream over a list that lies anywhere (mk_fsi.py).
-/
import Derived.Test.YtcglddahphkcpaaGreatDoorV35
import Derived.Test.YtcglddahphkcpaaGreatDoorV40
import Derived.Test.YtcglddahphkcpaaGreatDoorV45
namespace Go.Proofs.YtcglddahphkcpaaGreatDoor
open Go.RowKit
set_option linter.unusedVariables false
set_option linter.unusedSimpArgs false
namespace Sev
theorem fldP1 (x : Int) (a : Option Addr) (n c : Nat) (w : World) : (Instr.field 41 (.agg #[.int .i64 x, .slice a n c]) 1).run Tryz.prog w = .ok (.slice a n c) w := by kernel_rfl
theorem ret3 {w W : World} {s : Value} {l : List M.Cl} (hr : Res W (w.heap.size + 1) s l) (B : Below w.heap.size w W) (x y z : Value) :
    Res (((W.setCell ⟨w.heap.size, 0, none⟩ x).setCell ⟨w.heap.size, 1, none⟩ y).setCell ⟨w.heap.size, 2, none⟩ z) w.heap.size s l ∧ Below w.heap.size w (((W.setCell ⟨w.heap.size, 0, none⟩ x).setCell ⟨w.heap.size, 1, none⟩ y).setCell ⟨w.heap.size, 2, none⟩ z) := by
  have hne : ∀ b, s.ownBlock = some b → b ≠ w.heap.size := fun b h => by have := hr.base b h; omega
  exact ⟨(((hr.mono (by omega)).setOther _ _ hne).setOther _ _ hne).setOther _ _ hne, ((B.setCell (Nat.le_refl _) _).setCell (Nat.le_refl _) _).setCell (Nat.le_refl _) _⟩
set_option maxRecDepth 100000 in
set_option maxHeartbeats 8000000 in
theorem implFromV_any (a : Option Addr) (cap : Nat) (L : List (List M.Cl)) (w : World) (hL : LV w a L) (hn : L.length ≤ 1048576) (hln : tot L L.length ≤ 1048576) (hok : OkS L) (htab : Lib.TabBelow Tryz.prog w.heap.size w "internal/strconv.uint64pow10" .u64 Lib.pow10Tab) :
    Calls Tryz.prog 10 #[.slice a L.length cap] w (AnsR w (fromOut L)) := by
  have HB0 := hide (fun o => (show Below w.heap.size w (w.alloc o) from (Below.refl _ _).alloc (Nat.le_refl _) o))
  have HF := hide (fun o => implStreamV_any a cap L (w.alloc o) (hL.below ((Below.refl _ _).alloc (Nat.le_refl _) _)) hn hln hok)
  have HLR := hide (fun W (h : Below w.heap.size w W) => hL.below h)
  have HLT := hide (fun (a : Option Addr) (cap : Nat) (ps : List (List M.Cl)) (W : World) (h : Below w.heap.size w W) (hl : LV W a ps) (hn2 : ps.length ≤ 200) (hv : ∀ j, j < ps.length → M.valueFault (ps.getD j []) = 0) => linesTextV_any a cap ps W hl hn2 hv (fun w' hb' => htab w' (h.trans (hb'.mono h.size))))
  have OK := hide hok
  have HLN := hide hln
  clear hL hok hln htab
  have eqn : ∀ a n c W, (binOp .eql 24 (.slice a n c) (.slice none 0 0)).run Tryz.prog W = .ok (.bool a.isNone) W := fun a n c W => eql_nil _ _ Tryz.underlying24 a n c W
  go_enter Tryz.func10, Tryz.ntmps10
  go_wp2_with fail
  refine ((unhide HF) _).mono ?_
  rintro e w1 ⟨sv, rfl, hrs, hb1⟩
  have hR : Own w1 w.heap.size 26 [.int .i64 0, .int .i64 0, .slice none 0 0] := Own.below ⟨_, heap_alloc_new _ _, rfl⟩ hb1 (by simp)
  have B1 : Below w.heap.size w w1 := ((unhide HB0) _).trans (hb1.mono (by simp))
  rw [faults_nil] at hrs
  obtain ⟨fa, fn, fc, rfl⟩ := hrs.shape
  have hrs1 : Res w1 (w.heap.size + 1) (.slice fa fn fc) [] := hrs.mono (by simp)
  have FB := hide (fun h => (from_bad (L := L) h).trans (show faults L = ((faults L).1, (faults L).2.1, []) from Prod.ext rfl (Prod.ext rfl (faults_nil L))))
  have FN := hide (fun h => faults_no (l := L) h)
  have FH := hide (fun h c a l hm hc => from_hit (L := L) (c := c) (a := a) (l := l) h hm hc)
  have FE := hide (fun h u hm => from_end (L := L) (u := u) h hm)
  clear hb1 hrs HF HB0
  generalize (faults L).2.1 = at_ at *
  generalize (faults L).1 = q at *
  obtain ⟨W2, hW2⟩ : ∃ W2, W2 = w1.alloc (.cells #[.int .i64 q, .int .i64 at_, .slice fa fn fc] 26) := ⟨_, rfl⟩
  have B2 : Below w.heap.size w W2 := by rw [hW2]; exact B1.alloc B1.size _
  have hR2 : Own W2 w.heap.size 26 [.int .i64 0, .int .i64 0, .slice none 0 0] := by rw [hW2]; exact hR.alloc _
  have hX2 : Own W2 w1.heap.size 26 [.int .i64 q, .int .i64 at_, .slice fa fn fc] := by rw [hW2]; exact ⟨_, heap_alloc_new _ _, rfl⟩
  have hrs2 : Res W2 (w.heap.size + 1) (.slice fa fn fc) [] := by rw [hW2]; exact hrs1.alloc _
  have HR2 := hide hR2
  have x0 := hX2.cell 0
  have x1 := hX2.cell 1
  have x2 := hX2.cell 2
  simp only [List.getElem?_cons_zero, List.getElem?_cons_succ] at x0 x1 x2
  clear hR B1 hrs1
  go_upto_region 2 with fail
  rw [← hW2]
  clear hW2
  by_cases hz : q = 0
  case neg =>
    have fin := hide ((unhide FB) hz)
    have hz' : (q == 0) = false := by simp [hz]
    have F := hide (ret3 hrs2 B2)
    have r0 := hR2.cell 0
    have r1 := hR2.cell 1
    have r2 := hR2.cell 2
    simp only [List.getElem?_cons_zero, List.getElem?_cons_succ] at r0 r1 r2
    have z0 := hR2.frozen 0
    have z1 := hR2.frozen 1
    have z2 := hR2.frozen 2
    clear FB FN FH FE HLR HLT OK HLN hz hR2 HR2 hrs2
    go_wp2_with fail
    refine bodyPost_ret (v := .agg #[.int .i64 q, .int .i64 at_, .slice fa fn fc]) (by simp [results, Tryz.results10, go_sem, r0, r1, r2]) rfl (ansR_of (unhide fin) ((unhide F) _ _ _).1 ((unhide F) _ _ _).2)
  subst hz
  obtain ⟨hn1, hn2, hev⟩ := (unhide FN) rfl
  have HEV := hide (fun k (hk : k < L.length) => evt_of ((unhide OK) k hk) (hev k hk))
  have FH := hide ((unhide FH) rfl)
  have FE := hide ((unhide FE) rfl)
  clear FN FB hev hrs2 hR2
  go_wp2_with fail
  refine (nullResult_any W2).mono ?_
  rintro e w3 ⟨s3, rfl, hr3, hb3⟩
  have B3 : Below w.heap.size w w3 := B2.trans (hb3.mono B2.size)
  have R3 := (unhide HR2).below hb3 (unhide HR2).lt
  have hlo : w.heap.size + 1 ≤ W2.heap.size := (unhide HR2).lt
  have hr3' : Res w3 (w.heap.size + 1) s3 [M.zero] := hr3.mono hlo
  have hne3 : ∀ b, s3.ownBlock = some b → b ≠ w3.heap.size := fun b h => by have := hr3.lt b h; omega
  obtain ⟨na, nn, nc, rfl⟩ := hr3.shape
  obtain ⟨W4, hW4⟩ : ∃ W4, W4 = w3.alloc (.cells #[.int .i64 0, .slice na nn nc] 59) := ⟨_, rfl⟩
  have B4 : Below w.heap.size w W4 := by rw [hW4]; exact B3.alloc B3.size _
  have R4 := hide (show Own W4 w.heap.size 26 [.int .i64 0, .int .i64 0, .slice none 0 0] by rw [hW4]; exact R3.alloc _)
  have M4 := hide (show Own W4 w3.heap.size 59 [.int .i64 0, .slice na nn nc] by rw [hW4]; exact ⟨_, heap_alloc_new _ _, rfl⟩)
  have V4 := hide (show Res W4 (w.heap.size + 1) (.slice na nn nc) [M.zero] by rw [hW4]; exact hr3'.alloc _)
  have NE4 := hide hne3
  have hmw : w.heap.size < w3.heap.size := by have := R3.lt; omega
  clear hr3 hr3' hb3 R3 B3 HR2 hne3
  generalize hmb : w3.heap.size = mb at *
  go_wp2_with fail
  rw [← hW4]
  clear hW4
  try rw [hmb]
  clear hmb
  go_loopg [17] L.length (fun gh s17 wr => ∃ (k : Nat) (u : List M.Cl) (s : Value), Hid (gh = L.length - k) ∧ s17 = .int .i64 (k : Int) ∧ k ≤ L.length ∧ Hid (Res wr (w.heap.size + 1) s u) ∧ Hid (∀ b, s.ownBlock = some b → b ≠ mb) ∧ Hid (M.valueFault u = 0) ∧ Hid (made 0 [M.zero] L = made k u (L.drop k)) ∧ Hid (Own wr w.heap.size 26 [.int .i64 0, .int .i64 0, .slice none 0 0]) ∧ Hid (Own wr mb 59 [.int .i64 0, s]) ∧ Below w.heap.size w wr)
  case atStart => exact ⟨0, [M.zero], _, rfl, rfl, by omega, unhide V4, unhide NE4, zero_ok, rfl, unhide R4, unhide M4, B4⟩
  case round =>
    clear V4 NE4 R4 M4 B4 x0 x1 x2 hX2 B2 hlo
    obtain ⟨k, u, s, hg, rfl, hk, hU, hNE, hu, hmd, hRR, hMM, hbel⟩ := hrel
    obtain ⟨ub, uc, hsh, hcu, hlu, hltu, hrwu⟩ := hU.out.rowedQ (Pth.val_ne hu.out)
    subst hsh
    have hul := Pth.lens hu.out
    by_cases hlt : k < L.length
    · obtain ⟨g, b, off, cc, rfl, hg0, f0, hcc, hb, hr⟩ := ((unhide HLR) wr hbel) k hlt
      have hev := (unhide HEV) k hlt
      have hko := (unhide OK) k hlt
      have hpo := part_ok hev.val hko (j := 0) (by rcases hev.n12 with e | e; have := parts_n (n := 1) e; omega; have := parts_n (n := 2) e; omega)
      have h12 := hev.n12
      have hpf := hev.path
      have hstp := hev.stp
      have HLF := hide hev.leaf
      have HSK := hide (fun h => hmd.out.trans (made_skip hlt h))
      have HHT := hide (fun hn h => hmd.out.trans (made_hit hlt hn h))
      have HNX := hide (fun hn h => hmd.out.trans (made_next hlt hn h))
      have HE1 := hide (fun hn1 => eventOf_one (L.getD k []) b off cc wr hev.val hn1 hr hb hcc hko)
      have HE2 := hide (fun hn2 => eventOf_two (L.getD k []) b off cc wr hev.val hn2 hr hb hcc hko)
      have HPX := hide (fun (h2 : ((L.getD k []).getD 0 M.zero).n = 2) => part_ok hev.val hko (j := 1) (by have := parts_n (n := 2) h2; omega))
      have hltI : (k : Int) < (L.length : Int) := by omega
      have HLTk := hide hlt
      clear hev hko hr hmd hlt
      generalize L.getD k [] = l at *
      rcases h12 with hn1 | hn1
      · have HE_ := hide ((unhide HE1) hn1)
        have SK := hide ((unhide HSK) hn1)
        clear HE1 HE2 HPX HLF HSK HHT HNX
        go_wp2_with fail
        refine (unhide HE_).mono ?_
        rintro e w5 ⟨s5, rfl, hs5, hb5⟩
        obtain ⟨b0, c0, rfl, hc0, hcm0, ho0⟩ := hs5.any hpo.2.2.1
        have hcap0 : (P l 0).length ≤ c0 := hc0
        obtain ⟨W6, hW6⟩ : ∃ W6, W6 = w5.alloc (.cells #[.slice (some ⟨b0, 0, none⟩) (P l 0).length c0, .slice none 0 0] 65) := ⟨_, rfl⟩
        have b56 : Below w5.heap.size w5 W6 := by rw [hW6]; exact (Below.refl _ _).alloc (Nat.le_refl _) _
        have b6 : Below wr.heap.size wr W6 := hb5.trans (b56.mono hb5.size)
        have B6 : Below w.heap.size w W6 := hbel.trans (b6.mono hbel.size)
        have hE6 : Own W6 w5.heap.size 65 [.slice (some ⟨b0, 0, none⟩) (P l 0).length c0, .slice none 0 0] := by rw [hW6]; exact ⟨_, heap_alloc_new _ _, rfl⟩
        have R6 := hRR.out.below b6 hRR.out.lt
        have M6 := hMM.out.below b6 hMM.out.lt
        have hE6l : w5.heap.size < W6.heap.size := hE6.lt
        have V6 := hU.out.below b6
        have g1 := hE6.cell 1
        simp only [List.getElem?_cons_zero, List.getElem?_cons_succ] at g1
        have HR6 := hide R6
        have HM6 := hide M6
        have HV6 := hide V6
        clear hs5 ho0 hE6 hb5 HE_ f0 hpo hrwu R6 M6 V6
        go_upto_region 9 with fail
        rw [← hW6]
        clear hW6
        go_wp2_with fail
        go_roundg (L.length - (k + 1))
        case rel => exact ⟨k + 1, u, _, rfl, by go_num, by have := HLTk.out; omega, unhide HV6, hNE.out, hu.out, unhide SK, unhide HR6, unhide HM6, B6⟩
        case measure => have := hg.out; have := HLTk.out; omega
      · have HE_ := hide ((unhide HE2) hn1)
        have hpx := (unhide HPX) hn1
        have hxv := (unhide HLF) hn1
        have HT_ := hide ((unhide HHT) hn1)
        have NX_ := hide ((unhide HNX) hn1)
        clear HE1 HE2 HPX HLF HSK HHT HNX
        go_wp2_with fail
        refine (unhide HE_).mono ?_
        rintro e w5 ⟨s5, t5, rfl, hs5, ht5, hb5⟩
        obtain ⟨b0, c0, rfl, hc0, hcm0, ho0⟩ := hs5.any hpo.2.2.1
        have hcap0 : (P l 0).length ≤ c0 := hc0
        obtain ⟨b1, c1, rfl, hc1, hcm1, ho1⟩ := ht5.any hpx.2.2.1
        have hcap1 : (P l 1).length ≤ c1 := hc1
        obtain ⟨W6, hW6⟩ : ∃ W6, W6 = w5.alloc (.cells #[.slice (some ⟨b0, 0, none⟩) (P l 0).length c0, .slice (some ⟨b1, 0, none⟩) (P l 1).length c1] 65) := ⟨_, rfl⟩
        have b56 : Below w5.heap.size w5 W6 := by rw [hW6]; exact (Below.refl _ _).alloc (Nat.le_refl _) _
        have b6 : Below wr.heap.size wr W6 := hb5.trans (b56.mono hb5.size)
        have B6 : Below w.heap.size w W6 := hbel.trans (b6.mono hbel.size)
        have hE6 : Own W6 w5.heap.size 65 [.slice (some ⟨b0, 0, none⟩) (P l 0).length c0, .slice (some ⟨b1, 0, none⟩) (P l 1).length c1] := by rw [hW6]; exact ⟨_, heap_alloc_new _ _, rfl⟩
        have R6 := hRR.out.below b6 hRR.out.lt
        have M6 := hMM.out.below b6 hMM.out.lt
        have hE6l : w5.heap.size < W6.heap.size := hE6.lt
        have V6 := hU.out.below b6
        have g0 := hE6.cell 0
        have g1 := hE6.cell 1
        simp only [List.getElem?_cons_zero, List.getElem?_cons_succ] at g0 g1
        have m0 := M6.cell 0
        have m1 := M6.cell 1
        simp only [List.getElem?_cons_zero, List.getElem?_cons_succ] at m0 m1
        have y0 := M6.frozen 0
        have y1 := M6.frozen 1
        have hrow6 := ho0.row.below b56 ho0.lt
        have hrx6 := ho1.row.below b56 ho1.lt
        have hb06 : b0 < W6.heap.size := Nat.lt_of_lt_of_le ho0.lt b56.size
        have hb16 : b1 < W6.heap.size := Nat.lt_of_lt_of_le ho1.lt b56.size
        have hl0 := hpo.2.2.2
        have hl1 := hpx.2.2.2
        have HSET := implSetPath_any u ub 0 uc (P l 0) b0 0 c0 (P l 1) b1 0 c1 W6 (hrwu.below b6 hltu) (Nat.lt_of_lt_of_le hltu b6.size) (by omega) hcu (Pth.oks hu.out) hrow6 hb06 (by omega) hcap0 hcm0 hpo.2.1 hrx6 hb16 (by omega) hcap1 hpx.2.1
        rw [Pth.setP_ok ((Pth.asked_ok hu.out).trans hpf) hxv] at HSET
        have HSET := hide HSET
        have GD := hide (Pth.setS_gd (cs := (P l 0).drop 1) hu.out hxv)
        have HR6 := hide R6
        have HM6 := hide M6
        clear hs5 ht5 ho0 ho1 hE6 hb5 HE_ f0 hrwu R6 M6 V6 hrow6 hrx6 hpx hpo hxv hpf hstp hu
        generalize (P l 0).drop 1 = cs at *
        generalize P l 0 = p at *
        generalize P l 1 = x at *
        generalize Pth.setS u cs x = R at *
        obtain ⟨rc, rl⟩ := R
        go_upto_region 9 with fail
        rw [← hW6]
        clear hW6
        go_wp2_with fail
        refine (unhide HSET).mono ?_
        rintro e w7 ⟨s7, rfl, hr7, hb7⟩
        obtain ⟨a7, n7, c7, rfl⟩ := hr7.shape
        have R7 := (unhide HR6).below hb7 (unhide HR6).lt
        have M7 := (unhide HM6).below hb7 (unhide HM6).lt
        have hm6 : mb < W6.heap.size := (unhide HM6).lt
        have y0 := M7.frozen 0
        have y1 := M7.frozen 1
        have hsz6 : w.heap.size + 1 ≤ W6.heap.size := (unhide HR6).lt
        have hne7 : ∀ b, (Value.slice a7 n7 c7).ownBlock = some b → b ≠ mb := fun b hq => by have := hr7.base b hq; omega
        obtain ⟨W8, hW8⟩ : ∃ W8, W8 = (w7.setCell ⟨mb, 0, none⟩ (.int .i64 rc)).setCell ⟨mb, 1, none⟩ (.slice a7 n7 c7) := ⟨_, rfl⟩
        have M8 : Own W8 mb 59 [.int .i64 rc, .slice a7 n7 c7] := by rw [hW8]; simpa using (M7.set 0 (.int .i64 rc)).set 1 (.slice a7 n7 c7)
        have hap : w.heap.size ≠ mb := by omega
        have R8 : Own W8 w.heap.size 26 [.int .i64 0, .int .i64 0, .slice none 0 0] := by rw [hW8]; exact (R7.setOther _ _ hap).setOther _ _ hap
        have V8 : Hid (Res W8 (w.heap.size + 1) (.slice a7 n7 c7) rl) := hide (by rw [hW8]; exact ((hr7.mono hsz6).setOther _ _ hne7).setOther _ _ hne7)
        have B7 : Below w.heap.size w w7 := B6.trans (hb7.mono B6.size)
        have B8 : Below w.heap.size w W8 := by rw [hW8]; exact (B7.setCell (by show w.heap.size ≤ mb; omega) _).setCell (by show w.heap.size ≤ mb; omega) _
        have NE8 := hide hne7
        have HM8 := hide M8
        clear m0 m1
        have m0 := M7.cell 0
        have m1 := M7.cell 1
        simp only [List.getElem?_cons_zero, List.getElem?_cons_succ] at m0 m1
        clear hr7 hb7 R7 M7 g0 g1 HSET B7 hne7 HR6 HM6 hNE
        go_upto_region 11 with fail
        rw [← hW8]
        clear hW8 m0 m1 y0 y1
        have m0 := M8.cell 0
        have m1 := M8.cell 1
        simp only [List.getElem?_cons_zero, List.getElem?_cons_succ] at m0 m1
        by_cases hzr : rc = 0
        · subst hzr
          have NX := hide ((unhide NX_) rfl)
          have VU := hide ((unhide GD).ok rfl)
          have HR8 := hide R8
          clear NX_ HT_ GD R8
          go_wp2_with fail
          go_roundg (L.length - (k + 1))
          case rel => exact ⟨k + 1, rl, _, rfl, by go_num, by have := HLTk.out; omega, unhide V8, unhide NE8, unhide VU, unhide NX, unhide HR8, unhide HM8, B8⟩
          case measure => have := hg.out; have := HLTk.out; omega
        · have fin := hide ((unhide FH) trivial _ _ _ ((unhide HT_) hzr) hzr)
          have hz' : (rc == 0) = false := by simp [hzr]
          have F := hide (ret3 (resNil W8 (w.heap.size + 1)) B8)
          clear NX_ HT_ GD V8 hzr HM8
          have r0 := R8.cell 0
          have r1 := R8.cell 1
          have r2 := R8.cell 2
          simp only [List.getElem?_cons_zero, List.getElem?_cons_succ] at r0 r1 r2
          have z0 := R8.frozen 0
          have z1 := R8.frozen 1
          have z2 := R8.frozen 2
          clear R8
          go_wp2_with fail
          refine bodyPost_ret (v := .agg #[.int .i64 rc, .int .i64 k, .slice none 0 0]) (by simp [results, Tryz.results10, go_sem, r0, r1, r2]) rfl (ansR_of (unhide fin) ((unhide F) _ _ _).1 ((unhide F) _ _ _).2)
    · have hke : k = L.length := by omega
      have fin := hide ((unhide FE) trivial _ (hmd.out.trans (made_end (u := u) hke)))
      have HSO := hide (show Calls Tryz.prog 20 #[.slice (some ⟨ub, 0, none⟩) u.length uc] wr (_root_.Go.Proofs.YtcglddahphkcpaaGreatDoor.AnsR wr (0, Al.evs u.length u [])) by rw [← Al.stream_ok hu.out]; exact Al.implStreamOf_any u ub 0 uc wr hrwu hltu (by omega) hcu (Pth.oks hu.out))
      have hfine := Al.stream_fine hu.out
      have HFV := hide hfine.2
      have hfn := hfine.1
      have m1 := hMM.out.cell 1
      simp only [List.getElem?_cons_zero, List.getElem?_cons_succ] at m1
      have HLV := hide (fun W (hb : Below wr.heap.size wr W) => (unhide HLR) W (hbel.trans (hb.mono hbel.size)))
      have HVL := hide (fun j (hj : j < L.length) => ((unhide HEV) j hj).val)
      have hn200 : L.length ≤ 200 := hn2
      clear hke hmd hfine hu hrwu HEV
      generalize Al.evs u.length u [] = E at *
      go_wp2_with fail
      refine (unhide HSO).mono ?_
      rintro e w5 ⟨s5, rfl, hp5, hb5⟩
      obtain ⟨a5, c5, rfl, hc5, hlv5⟩ := pr_lv hp5
      have B5 : Below w.heap.size w w5 := hbel.trans (hb5.mono hbel.size)
      have HT5 := hide ((unhide HLT) a5 c5 E w5 B5 hlv5 hfn (unhide HFV))
      have hf5 := fun W => fldP1 0 a5 E.length c5 W
      clear hp5 hlv5 HSO
      go_wp2_with fail
      refine (unhide HT5).mono ?_
      rintro e w6 ⟨rfl, hb6⟩
      have B6 : Below w.heap.size w w6 := B5.trans (hb6.mono B5.size)
      have b6 : Below wr.heap.size wr w6 := hb5.trans (hb6.mono hb5.size)
      have HT6 := hide ((unhide HLT) a cap L w6 B6 ((unhide HLV) w6 b6) hn200 (unhide HVL))
      clear HT5 HLV
      go_wp2_with fail
      refine (unhide HT6).mono ?_
      rintro e w7 ⟨rfl, hb7⟩
      have B7 : Below w.heap.size w w7 := B6.trans (hb7.mono B6.size)
      have b7 : Below wr.heap.size wr w7 := b6.trans (hb7.mono b6.size)
      have R7 := hRR.out.below b7 hRR.out.lt
      have M7 := hMM.out.below b7 hMM.out.lt
      have V7 := hU.out.below b7
      have F := hide (ret3 V7 B7)
      have F0 := hide (ret3 (resNil w7 (w.heap.size + 1)) B7)
      have hfin : Hid (fromOut L = if J.bytes (linesK E E.length) = J.bytes (linesK L L.length) then (0, 0, u) else (1, 0, [])) := fin
      have r0 := R7.cell 0
      have r1 := R7.cell 1
      have r2 := R7.cell 2
      simp only [List.getElem?_cons_zero, List.getElem?_cons_succ] at r0 r1 r2
      have z0 := R7.frozen 0
      have z1 := R7.frozen 1
      have z2 := R7.frozen 2
      have m1 := M7.cell 1
      simp only [List.getElem?_cons_zero, List.getElem?_cons_succ] at m1
      clear HT6 HLT HLR fin R7 M7 V7 hMM hRR hU hNE hb5 hb6 b6 hbel
      generalize J.bytes (linesK E E.length) = t1 at *
      generalize J.bytes (linesK L L.length) = t2 at *
      by_cases he : t1 = t2
      · have fin := hide (hfin.out.trans (if_pos he))
        subst he
        clear hfin
        go_wp2_with fail
        refine bodyPost_ret (v := .agg #[.int .i64 0, .int .i64 0, .slice (some ⟨ub, 0, none⟩) u.length uc]) (by simp [results, Tryz.results10, go_sem, r0, r1, r2]) rfl (ansR_of (unhide fin) ((unhide F) _ _ _).1 ((unhide F) _ _ _).2)
      · have fin := hide (hfin.out.trans (if_neg he))
        have he' : (t1.toList == t2.toList) = false := by rw [beq_eq_false_iff_ne]; exact fun h => he (bytes_ext h)
        clear hfin
        go_wp2_with fail
        refine bodyPost_ret (v := .agg #[.int .i64 1, .int .i64 0, .slice none 0 0]) (by simp [results, Tryz.results10, go_sem, r0, r1, r2]) rfl (ansR_of (unhide fin) ((unhide F0) _ _ _).1 ((unhide F0) _ _ _).2)
end Sev
end Go.Proofs.YtcglddahphkcpaaGreatDoor
