/-
  impl.layObject of parts that are not asked for a fault, of no more cells than a text has bytes.
  impl: an object.
-/
import Derived.Test.YtikeffckhklhbaaGreatDoorX21
import Derived.Test.YtikeffckhklhbaaGreatDoorX33
namespace Go.Proofs.YtikeffckhklhbaaGreatDoor
open Go.RowKit
set_option linter.unusedVariables false

set_option maxRecDepth 100000 in
set_option maxHeartbeats 2000000 in
theorem layObjectC_any (kq kc : Nat) (a' : Option Addr) (lc : Nat) (ks : List ByteArray) (ps : List (List M.Cl)) (w : World) (hklt : kq < w.heap.size) (hK : ∀ i, i < ks.length → w.cell? ⟨kq, i, none⟩ = some (.string (ks.getD i ByteArray.empty))) (hL : LV w a' ps) (hkc : ks.length ≤ kc) (hlc : ps.length ≤ lc) (hlen : ks.length = ps.length) (hn : ks.length ≤ 4096) (ht : tot ps ps.length ≤ 8192) (hv : ∀ j, j < ps.length → Bare (ps.getD j [])) :
    Calls Tryz.prog 105 #[.slice (some ⟨kq, 0, none⟩) ks.length kc, .slice a' ps.length lc] w fun e w' => ∃ s, e = .returned s ∧ Res w' w.heap.size s (objV ks ps) ∧ Below w.heap.size w w' := by
  have HK := hide hK
  have HL := hide hL
  have HV := hide hv
  have hle1 : ks.length ≤ ps.length := by omega
  have hle2 : ps.length ≤ ks.length := by omega
  clear hK hL hv hlen
  go_enter Tryz.func105, Tryz.ntmps105
  go_wp2_with fail
  refine (standing_any kq kc ks _ hklt (unhide HK) (by omega) hkc).mono ?_
  rintro e1 w1 ⟨s1, rfl, ho1, hb1⟩
  have hst := hide (St.stand_lt ks ks.length)
  have hsl := St.stand_length ks ks.length
  have hOL := hide (fun k => objK_le ks ps (St.stand ks ks.length) (J.stand_nodup ks ks.length) (fun x hx => by have := (unhide hst) x hx; omega) k)
  have hfin := hide (show objV ks ps = objK ks ps (St.stand ks ks.length) (St.stand ks ks.length).length from rfl)
  generalize St.stand ks ks.length = L at *
  have hel : ∃ a c, s1 = .slice a L.length c ∧ ∀ i, i < L.length → ∃ b, a = some ⟨b, 0, none⟩ ∧ b < w1.heap.size ∧ w1.cell? ⟨b, i, none⟩ = some (.int .i64 (L.getD i 0 : Nat)) := by
    obtain ⟨_, ⟨rfl, h0⟩ | ⟨g, cap, cur, rfl, hg, hh, hnc, hcm, hcs, ht⟩⟩ := ho1
    · exact ⟨_, _, by rw [h0], fun i hi => by omega⟩
    · refine ⟨_, _, rfl, fun i hi => ⟨g, rfl, (Array.getElem?_eq_some_iff.1 hh).1, ?_⟩⟩
      rw [cell_of_row w1 g i cur 3 (0, 0) hh]
      have h3 : cur.toList[i]? = (natV L)[i]? := by rw [← ht, List.getElem?_take, if_pos (by omega)]
      have h4 : cur[i]? = cur.toList[i]? := by simp
      rw [h4, h3, natV_get L i hi]
  obtain ⟨sa, sc, rfl, hel⟩ := hel
  have HEL := hide hel
  clear hel ho1
  go_wp2_with fail
  go_loopg [6, 17] L.length (fun gh s6 s17 wr => ∃ k : Nat, Hid (gh = L.length - k) ∧ s17 = .int .i64 k ∧ k ≤ L.length ∧ wr.ownsRow w1.heap.size 41 5 s6 (objK ks ps L k).length (flat (objK ks ps L k)) ∧ Below w1.heap.size w1 wr)
  case atStart => exact ⟨0, rfl, rfl, by omega, one_own w1 w1.heap.size _ (headCl 6 L.length) rfl (Nat.le_refl _), (Below.refl _ _).alloc (Nat.le_refl _) _⟩
  case round =>
    obtain ⟨k, hg, rfl, hk, hown, hbel⟩ := hrel
    have BR : Below w.heap.size w wr := hb1.trans (hbel.mono hb1.size)
    by_cases hlt : k < L.length
    · obtain ⟨pb, rfl, hpb, hpc⟩ := (unhide HEL) k hlt
      have hpc2 := (hbel.cell (p := ⟨pb, k, none⟩) hpb).trans hpc
      have hmem : L.getD k 0 ∈ L := by rw [List.getD_eq_getElem?_getD, List.getElem?_eq_getElem hlt]; exact List.getElem_mem _
      have hx := (unhide hst) _ hmem
      have hsucc := hide (objK_succ ks ps L k hlt)
      have hol := (unhide hOL) k
      obtain ⟨x, hxe⟩ : ∃ x, x = L.getD k 0 := ⟨_, rfl⟩
      rw [← hxe] at hpc2 hx hsucc
      clear hxe hmem hpc
      obtain ⟨gl, b, off, c, rfl, hgl, f0, hcc, hb, hr⟩ := ((unhide HL).below BR) x (by omega)
      have hp := ((unhide HV) x (by omega)).1
      have htp := tot_part ps x (by omega)
      have hpn : ps.getD x [] ≠ [] := by intro e; rw [e] at hp; simp at hp
      have hkey := (BR.cell (p := ⟨kq, x, none⟩) hklt).trans ((unhide HK) x hx)
      have hxz : (x : Int) < (ks.length : Int) := by omega
      have hxz2 : (x : Int) < (ps.length : Int) := by omega
      generalize ks.getD x ByteArray.empty = key at *
      have HAP := hide (appendPart_any w1.heap.size u6 (objK ks ps L k) (ps.getD x []) b off c key wr.drew hown hr hpn (by omega) hbel.size)
      rw [← unhide hsucc] at HAP
      clear hown hr hpn hsucc htp
      generalize ps.getD x [] = p at *
      go_wp2_with fail
      go_region_with (go_at_call 116; refine (unhide HAP).mono ?_; rintro e2 w2 ⟨v', rfl, ho2, hb2⟩)
      all_goals
        have B2 : Below w1.heap.size w1 w2 := hbel.drew.trans hb2
        have HO2 := hide ho2
        clear ho2 hb2 f0 HAP hkey
        go_wp2_with fail
        go_roundg (L.length - (k + 1))
        case rel => exact ⟨k + 1, rfl, by go_num, by omega, unhide HO2, B2⟩
        case measure => have := hg.out; omega
    · have hke : k = L.length := by omega
      subst hke
      have hol := (unhide hOL) L.length
      have fin := hide (show Res wr w.heap.size u6 (objV ks ps) by rw [unhide hfin]; exact (res_of_owns hown (by omega)).mono hb1.size)
      clear hown
      go_wp2_with fail
      go_ret
      exact ⟨_, rfl, unhide fin, BR⟩

theorem layObjectB_any (a a' : Option Addr) (kc lc : Nat) (ks : List ByteArray) (ps : List (List M.Cl)) (w : World) (hK : TV w a ks) (hL : LV w a' ps) (hkc : ks.length ≤ kc) (hlc : ps.length ≤ lc) (hlen : ks.length = ps.length) (hn : ks.length ≤ 4096) (ht : tot ps ps.length ≤ 8192) (hv : ∀ j, j < ps.length → Bare (ps.getD j [])) :
    Calls Tryz.prog 105 #[.slice a ks.length kc, .slice a' ps.length lc] w fun e w' => ∃ s, e = .returned s ∧ Res w' w.heap.size s (objV ks ps) ∧ Below w.heap.size w w' := by
  by_cases h0 : ks.length = 0
  · have h1 : ks = [] := List.length_eq_zero_iff.1 h0
    have h2 : ps = [] := List.length_eq_zero_iff.1 (by omega)
    subst h1 h2
    exact layObject_none a a' kc lc w
  · obtain ⟨g, rfl, hg, _⟩ := hK 0 (by omega)
    refine layObjectC_any g kc a' lc ks ps w hg (fun i hi => ?_) hL hkc hlc hlen hn ht hv
    obtain ⟨k, e, _, hk⟩ := hK i hi
    cases e
    exact hk
end Go.Proofs.YtikeffckhklhbaaGreatDoor

namespace Go.Proofs.YtikeffckhklhbaaGreatDoor
open Go.RowKit
set_option linter.unusedVariables false
set_option linter.unusedSimpArgs false

set_option maxRecDepth 100000 in
set_option maxHeartbeats 8000000 in
theorem object_any (rec : Nat → J.Rv) (b d : Nat) (s : ByteArray) (k : Nat) (w : World) (h : Rd w b 49 s k [.int .i64 (d : Int)]) (her : ErrCell w b) (hk : J.peek s k = 123) (hs : s.size ≤ 4000)
    (hval : ∀ j w, j ≤ s.size → Rd w b 49 s j [.int .i64 (d : Int)] → ErrCell w b → Calls Tryz.prog 37 #[.pointer (some ⟨b, 0, none⟩)] w (VLeft (J.skip s) (rec (J.skip s j)) w b s d))
    (hfit : ∀ j, j ≤ s.size → J.Fit s j (rec j)) (hbare : ∀ j v e, rec j = .inr (v, e) → Bare v) :
    Calls Tryz.prog 90 #[.pointer (some ⟨b, 0, none⟩)] w (VLeft id (J.manyR rec s true (J.skip s (k + 1))) w b s d) := by
  have hs' : s.size ≤ 1048576 := by omega
  have hlt := J.peek_lt s k 123 (by decide) hk
  have hbw := h.lt
  have V0 := Vs.start h
  have q1 := h.cell 1
  have z1 := h.frozen 1
  simp only [List.getElem?_cons_zero, List.getElem?_cons_succ] at q1
  have HVAL := hide hval
  have HFIT := hide hfit
  have HBARE := hide hbare
  have HER := hide her
  have hsk := J.skip_le s (k + 1) (by omega)
  have hskk := hide (J.skip_skip s (k + 1))
  obtain ⟨K, hK⟩ : ∃ K, K = J.skip s (k + 1) := ⟨_, rfl⟩
  rw [← hK] at hsk hskk
  have HML := hide (fun hl => J.many_last (rec := rec) (s := s) (obj := true) (i := J.skip s (k + 1)) hl)
  have HMG := hide (fun hl => J.many_go (rec := rec) (s := s) (obj := true) (i := J.skip s (k + 1)) hl)
  rw [← hK] at HML HMG
  rw [← hK]
  generalize J.manyR rec s true K = RR at *
  obtain ⟨i0, hi0, hz0, hz1, hz2⟩ := info_parts Tryz.info24
  obtain ⟨t0, ht0, hy0, hy1, hy2⟩ := info_parts Tryz.info9
  have V1 := V0.step
  clear hk hval hfit hbare her h V0
  go_enter Tryz.func90, Tryz.ntmps90
  go_wp2_with fail
  refine (skipBlanks_any b 49 s (k + 1) _ _ V1.rd (by omega) hs').mono ?_
  rintro e w1 ⟨rfl, hr1, ht1⟩
  rw [← hK] at hr1
  have V2 := V1.go hr1 ht1
  clear V1 hr1 ht1 q1 z1 hK
  by_cases hl : J.peek s K = 125
  · have fin := hide ((unhide HML) hl)
    go_wp2_with fail
    refine (take_yes b 49 s K 125 _ _ V2.rd hs' (by decide) hl).mono ?_
    rintro e w2 ⟨rfl, hr2, ht2⟩
    have V3 := V2.go hr2 ht2
    clear V2 hr2 ht2
    go_wp2_with fail
    refine (layObject_none none none 0 0 _).mono ?_
    rintro e w3 ⟨sv, rfl, hr3, hb3⟩
    have V4 := V3.below hb3
    have hr4 := hr3.mono V3.tch.size
    obtain ⟨a9, n9, c9, rfl⟩ := hr3.shape
    clear V3 hr3 hb3
    go_wp2_with fail
    go_ret2
    exact .inl ⟨_, _, _, unhide fin, rfl, hr4, V4⟩
  · have HS := hide ((unhide HMG) hl)
    go_wp2_with fail
    refine (take_no b 49 s K 125 _ _ V2.rd hsk hs' hl).mono ?_
    rintro e w2 ⟨rfl, q2, hw2⟩
    have V3 : Vs w w2 b s K d := by rw [hw2]; exact V2.drewN q2
    have H0 := hide (show Am rec s true RR w w2 b d K s.size (.slice none 0 0) (.slice none 0 0) [] [] from ⟨by rw [unhide hskk]; exact unhide HS, by omega, hsk, J.Pl.start _ _, V3, ⟨Dc.ks_nil _ _, SS.nil _ _⟩⟩)
    clear V2 hw2 HS HML HMG V3
    go_wp2_with fail
    go_loopg [4, 5] (s.size + 1 - K) (fun gh s4 s5 wr => ∃ (i g : Nat) (ks : List ByteArray) (ps : List (List M.Cl)), Hid (gh = s.size + 1 - i) ∧ Hid (Am rec s true RR w wr b d i g s4 s5 ks ps))
    case atStart => exact ⟨K, s.size, [], [], rfl, unhide H0⟩
    case round =>
      obtain ⟨i, g, ks, ps, hg, HM⟩ := hrel
      have hle := (unhide HM).le
      clear H0
      go_wp2_with fail
      refine (key_any b d s i _ (unhide HM).vs.rd hle hs).mono ?_
      rintro e w2 hS
      have HKF := J.keyR_fit s (J.skip s i) (J.skip_le s i hle)
      rcases hS with ⟨key, j, hkq, rfl, hv2⟩ | ⟨c, m, q, hkq, rfl, hqs, hv2⟩
      · rw [hkq] at HKF
        obtain ⟨hk1, hk2, hk3⟩ := HKF
        have HHD := hide (J.head_obj hkq)
        have V2 := (unhide HM).vs.trans hv2
        have R2 := (unhide HM).rows.tch hv2.tch (Nat.le_refl _) hbw
        clear hv2 hkq
        go_wp2_with fail
        refine ((unhide HVAL) j _ hk2 (V2).rd ((V2).err (unhide HER))).mono ?_
        rintro e w5 hS
        rcases hS with ⟨v, m, sv, hq, rfl, hr, hv5⟩ | ⟨c, m, q, a5, n5, c5, hq, rfl, hqs, hv5⟩
        · have hfit := (unhide HFIT) (J.skip s j) (J.skip_le s j hk2)
          rw [hq] at hfit
          obtain ⟨TA, hlt⟩ := (unhide HM).next (unhide HHD) hq hfit ((unhide HBARE) _ _ _ hq)
          have T7 := hide TA
          have V5 := V2.trans hv5
          have R5 := R2.tch hv5.tch (Nat.le_refl _) hbw
          have hr5 : Res w5 w.heap.size sv v := hr.mono V2.tch.size
          have hpl0 := (unhide HM).pl.len
          have hkl0 : ks.length = ps.length := (unhide HM).pl.keys
          obtain ⟨P, hP⟩ : ∃ P, P = J.skip s m := ⟨_, rfl⟩
          rw [← hP] at T7 V5 hlt
          obtain ⟨a5, n5, c5, rfl⟩ := hr.shape
          have hkown := hide (fun o => World.ownsRow.alloc R5.keys o)
          have hkbse := hide (ownsRow_base R5.keys)
          have hkone := hide (one_val w5 (.string key) 9)
          have hkonep := hide (Dc.one_str key)
          have HK6 := hide (fun (W : World) v' o (hg : (w5.alloc o).grownBy W u4.ownBlock) ho => R5.key (v' := v') (key := key) hg ho)
          have HV6 := hide (fun (W : World) o (hg : (w5.alloc o).grownBy W u4.ownBlock) => (V5.alloc o).grown hbw hg (unhide hkbse))
          have HR6 := hide (fun (W : World) o (hg : (w5.alloc o).grownBy W u4.ownBlock) => grown_res (World.ownsRow.alloc R5.keys o) hg (hr5.alloc o) (by decide))
          have hk63 : ks.length + 1 ≤ maxLen := by unfold maxLen; omega
          have hkby : (ks.length + 1) * 16 ≤ 140737488355328 := by omega
          have hsz2 := V5.tch.size
          have hkl2 := hide hkl0
          clear hr hfit hq hv5 TA HM hP V2 R2 R5 V5 hr5 hkl0
          go_wp2_with (at_builtin; refine wpList_append_own _ rfl (.tmp 47) (.tmp 49) 70 rfl w.heap.size 9 t0 (.string ByteArray.empty) 1 16 Tryz.underlying70 ht0 hy0 hy1 hy2 rfl (by decide) _ ks.length _ rfl ((unhide hkown) _) ⟨w5.heap.size, 0, none⟩ 1 1 [.string key] rfl rfl (unhide hkone) (unhide hkonep) hk63 hkby (by simp; omega) ?_)
          intro v6 w6 ho6 hg6 _
          have R6 := (unhide HK6) w6 v6 _ hg6 ho6
          have V6 := (unhide HV6) w6 _ hg6
          have hr5 := (unhide HR6) w6 _ hg6
          clear ho6 hg6 HK6 HV6 HR6 hkown hkone hkonep hkbse
          obtain ⟨ss, hsl, hown, hres⟩ := (R6).list
          have hown' := hide (fun o => hown.alloc o)
          have hbse := hide (ownsRow_base hown)
          have hone := hide (one_val w6 (.slice a5 n5 c5) 24)
          have honep := hide (one_plain' a5 n5 c5)
          have HRN := hide (fun (W : World) v' o (hg : (w6.alloc o).grownBy W u5.ownBlock) ho => (R6).part (v' := v') hsl hown hres hr5 hg ho)
          have HVN := hide (fun (W : World) o (hg : (w6.alloc o).grownBy W u5.ownBlock) => ((V6).alloc o).grown hbw hg (unhide hbse))
          have hb63 : ps.length + 1 ≤ maxLen := by unfold maxLen; omega
          have hby : (ps.length + 1) * 24 ≤ 140737488355328 := by omega
          have hsz5 := (V6).tch.size
          clear hown hres hr5 hsl R6 V6
          go_wp2_with (at_builtin; refine wpList_append_own _ rfl (.tmp 51) (.tmp 53) 108 rfl w.heap.size 24 i0 (.slice none 0 0) 1 24 Tryz.underlying108 hi0 hz0 hz1 hz2 rfl (by decide) _ ps.length ss rfl ((unhide hown') _) ⟨w6.heap.size, 0, none⟩ 1 1 [.slice a5 n5 c5] rfl rfl (unhide hone) (unhide honep) hb63 hby (by simp; omega) ?_)
          intro v7 w7 ho7 hg7 _
          have R7 := hide ((unhide HRN) w7 v7 _ hg7 ho7)
          have V7 := hide ((unhide HVN) w7 _ hg7)
          clear ho7 hg7 HRN HVN hown' hone honep hbse
          obtain ⟨ps2, hps2⟩ : ∃ q, q = ps ++ [v] := ⟨_, rfl⟩
          rw [← hps2] at T7 R7
          clear hps2
          obtain ⟨ks2, hks2⟩ : ∃ q, q = ks ++ [key] := ⟨_, rfl⟩
          rw [← hks2] at T7 R7
          clear hks2
          by_cases hl : J.peek s P = 125
          · have fin := hide ((unhide T7).last hl)
            have hbare := (unhide T7).pl.bare
            have hpl1 := (unhide T7).pl.len
            have hpl2 := (unhide T7).pl.tot
            have hple := (unhide T7).le
            have hkl := (unhide T7).pl.keys
            simp only [if_true] at hkl
            go_wp2_with fail
            refine (take_yes b 49 s P 125 _ _ (unhide V7).rd hs' (by decide) hl).mono ?_
            rintro e w8 ⟨rfl, hr8, ht8⟩
            have V8 := (unhide V7).go hr8 ht8
            have R8 := (unhide R7).tch ht8 (Nat.le_refl _) hbw
            obtain ⟨la, lc, hla, hlc, hlv⟩ := R8.list.lv (Dc.bare_ne hbare)
            obtain ⟨ka, kc, hka, hkc, htv⟩ := R8.keys.tv
            have HC := hide (layObjectB_any ka la kc lc _ _ _ htv hlv hkc hlc hkl (by omega) (by omega) hbare)
            have h8 := V8.tch.size
            subst hla hka
            clear hlv hbare htv hkl R8 hr8 ht8 V7 R7 T7
            go_wp2_with fail
            refine (unhide HC).mono ?_
            rintro e w9 ⟨sv, rfl, hr9, hb9⟩
            have V9 := V8.below hb9
            have hr99 := hr9.mono h8
            obtain ⟨a9, n9, c9, rfl⟩ := hr9.shape
            clear hr9 hb9 V8 HC
            go_wp2_with fail
            go_ret2
            exact .inl ⟨_, _, _, unhide fin, rfl, hr99, V9⟩
          · have hnl : J.peek s P ≠ J.lastB true := hl
            have hple := (unhide T7).le
            go_wp2_with fail
            refine (take_no b 49 s P 125 _ _ (unhide V7).rd hple hs' hl).mono ?_
            rintro e w8 ⟨rfl, q8, hw8⟩
            have V8 : Vs w w8 b s P d := by rw [hw8]; exact (unhide V7).drewN q8
            have T8 : Tch w7.heap.size b w7 w8 := by rw [hw8]; exact (Tch.refl _ _ _).drewN q8
            have R8 := (unhide R7).tch T8 (Nat.le_refl _) hbw
            clear hw8 V7 R7 T8
            by_cases hcm : J.peek s P = 44
            · go_wp2_with fail
              refine (take_yes b 49 s P 44 _ _ V8.rd hs' (by decide) hcm).mono ?_
              rintro e w9 ⟨rfl, hr9, ht9⟩
              have V9 := V8.go hr9 ht9
              have R9 := R8.tch ht9 (Nat.le_refl _) hbw
              obtain ⟨g2, H9⟩ := (unhide T7).comma hcm V9 R9
              have H9 := hide H9
              clear V8 R8 hr9 ht9 V9 R9 T7
              go_wp2_with fail
              go_roundg (s.size + 1 - (P + 1))
              case rel => exact ⟨P + 1, g2, _, _, rfl, unhide H9⟩
              case measure => have := hg.out; omega
            · have fin := hide ((unhide T7).no hnl hcm)
              go_wp2_with fail
              refine (take_no b 49 s P 44 _ _ V8.rd hple hs' hcm).mono ?_
              rintro e w9 ⟨rfl, q9, hw9⟩
              have V9 : Vs w w9 b s P d := by rw [hw9]; exact V8.drewN q9
              clear hw9 V8 R8
              go_wp2_with fail
              refine (stuck_any b 49 s P _ _ V9.rd).mono ?_
              rintro e wa ⟨rfl, hra, hta⟩
              have VA := V9.go hra hta
              clear V9 hra hta
              go_wp2_with fail
              go_ret2
              exact .inr ⟨5, P, P, none, 0, 0, unhide fin, rfl, hple, VA⟩
        · have fin := hide ((unhide HM).says.trans (J.elems_rec_no (unhide HHD) hq))
          have V5 := V2.trans hv5
          clear hv5 hq HM V2 R2
          go_wp2_with fail
          go_ret2
          exact .inr ⟨c, m, q, none, 0, 0, unhide fin, rfl, hqs, V5⟩
      · have fin := hide ((unhide HM).says.trans (J.elems_head_no (J.head_obj_no hkq)))
        have V2 := (unhide HM).vs.trans hv2
        clear hv2 hkq HM HKF
        go_wp2_with fail
        go_ret2
        exact .inr ⟨c, m, q, none, 0, 0, unhide fin, rfl, hqs, V2⟩

end Go.Proofs.YtikeffckhklhbaaGreatDoor
