/-
  impl.layObject of texts and lists that lie anywhere.
  impl.SetKey.
-/
import Derived.Test.YtcglddahphkcpaaGreatDoorV16
import Derived.Test.YtcglddahphkcpaaGreatDoorV17
import Derived.Test.YtcglddahphkcpaaGreatDoorV25
import Derived.Test.YtcglddahphkcpaaGreatDoorV27
namespace Go.Proofs.YtcglddahphkcpaaGreatDoor
open Go.RowKit
set_option linter.unusedVariables false

set_option maxRecDepth 100000 in
set_option maxHeartbeats 2000000 in
theorem layObjectW_any (kq kc : Nat) (a' : Option Addr) (lc : Nat) (ks : List ByteArray) (ps : List (List M.Cl)) (w : World) (hklt : kq < w.heap.size) (hK : ∀ i, i < ks.length → w.cell? ⟨kq, i, none⟩ = some (.string (ks.getD i ByteArray.empty))) (hL : LV w a' ps) (hkc : ks.length ≤ kc) (hlc : ps.length ≤ lc) (hlen : ks.length = ps.length) (hn : ks.length ≤ 4096) (hv : ∀ j, j < ps.length → M.valueFault (ps.getD j []) = 0) :
    Calls Tryz.prog 203 #[.slice (some ⟨kq, 0, none⟩) ks.length kc, .slice a' ps.length lc] w fun e w' => ∃ s, e = .returned s ∧ Res w' w.heap.size s (objV ks ps) ∧ Below w.heap.size w w' := by
  have HK := hide hK
  have HL := hide hL
  have HV := hide hv
  have hle1 : ks.length ≤ ps.length := by omega
  have hle2 : ps.length ≤ ks.length := by omega
  clear hK hL hv hlen
  go_enter Tryz.func203, Tryz.ntmps203
  go_wp2_with fail
  refine (standing_any kq kc ks _ hklt (unhide HK) (by omega) hkc).mono ?_
  rintro e1 w1 ⟨s1, rfl, ho1, hb1⟩
  have hst := hide (St.stand_lt ks ks.length)
  have hsl := St.stand_length ks ks.length
  have hL200 := hide (show ∀ p ∈ St.stand ks ks.length, (ps.getD p []).length ≤ 200 from fun p hp => (fault_len ((unhide HV) p (by have := (unhide hst) p hp; omega))).2)
  have hfin := hide (show objV ks ps = objK ks ps (St.stand ks ks.length) (St.stand ks ks.length).length from rfl)
  generalize St.stand ks ks.length = L at *
  have hel : ∃ a c, s1 = .slice a L.length c ∧ ∀ i, i < L.length → ∃ b, a = some ⟨b, 0, none⟩ ∧ b < w1.heap.size ∧ w1.cell? ⟨b, i, none⟩ = some (.int .i64 (L.getD i 0 : Nat)) := by
    obtain ⟨_, ⟨rfl, h0⟩ | ⟨g, cap, cur, rfl, hg, hh, hnc, hcm, hcs, ht⟩⟩ := ho1
    · exact ⟨_, _, by rw [h0], fun i hi => by omega⟩
    · refine ⟨_, _, rfl, fun i hi => ⟨g, rfl, (Array.getElem?_eq_some_iff.1 hh).1, ?_⟩⟩
      rw [cell_of_row w1 g i cur 3 (0, 0) hh]
      have h3 : cur.toList[i]? = (natV L)[i]? := by rw [← ht, List.getElem?_take, if_pos (by omega)]
      have h4 : cur[i]? = cur.toList[i]? := by simp
      rw [h4, h3, natV_get L i hi]
  obtain ⟨sa, sc, rfl, hel⟩ := hel
  have HEL := hide hel
  clear hel ho1
  go_wp2_with fail
  go_loopg [6, 17] L.length (fun gh s6 s17 wr => ∃ k : Nat, Hid (gh = L.length - k) ∧ s17 = .int .i64 k ∧ k ≤ L.length ∧ wr.ownsRow w1.heap.size 111 5 s6 (objK ks ps L k).length (flat (objK ks ps L k)) ∧ Below w1.heap.size w1 wr)
  case atStart => exact ⟨0, rfl, rfl, by omega, one_own w1 w1.heap.size _ (headCl 6 L.length) rfl (Nat.le_refl _), (Below.refl _ _).alloc (Nat.le_refl _) _⟩
  case round =>
    obtain ⟨k, hg, rfl, hk, hown, hbel⟩ := hrel
    have BR : Below w.heap.size w wr := hb1.trans (hbel.mono hb1.size)
    by_cases hlt : k < L.length
    · obtain ⟨pb, rfl, hpb, hpc⟩ := (unhide HEL) k hlt
      have hpc2 := (hbel.cell (p := ⟨pb, k, none⟩) hpb).trans hpc
      have hmem : L.getD k 0 ∈ L := by rw [List.getD_eq_getElem?_getD, List.getElem?_eq_getElem hlt]; exact List.getElem_mem _
      have hx := (unhide hst) _ hmem
      have hsucc := hide (objK_succ ks ps L k hlt)
      have hol := objK_length ks ps L (unhide hL200) k hk
      obtain ⟨x, hxe⟩ : ∃ x, x = L.getD k 0 := ⟨_, rfl⟩
      rw [← hxe] at hpc2 hx hsucc
      clear hxe hmem hpc
      obtain ⟨gl, b, off, c, rfl, hgl, f0, hcc, hb, hr⟩ := ((unhide HL).below BR) x (by omega)
      have hp := fault_len ((unhide HV) x (by omega))
      have hpn : ps.getD x [] ≠ [] := by intro e; rw [e] at hp; simp at hp
      have hkey := (BR.cell (p := ⟨kq, x, none⟩) hklt).trans ((unhide HK) x hx)
      have hxz : (x : Int) < (ks.length : Int) := by omega
      have hxz2 : (x : Int) < (ps.length : Int) := by omega
      generalize ks.getD x ByteArray.empty = key at *
      have HAP := hide (appendPart_any w1.heap.size u6 (objK ks ps L k) (ps.getD x []) b off c key wr.drew hown hr hpn (by omega) hbel.size)
      rw [← unhide hsucc] at HAP
      clear hown hr hpn hsucc
      generalize ps.getD x [] = p at *
      go_wp2_with fail
      go_region_with (go_at_call 157; refine (unhide HAP).mono ?_; rintro e2 w2 ⟨v', rfl, ho2, hb2⟩)
      all_goals
        have B2 : Below w1.heap.size w1 w2 := hbel.drew.trans hb2
        have HO2 := hide ho2
        clear ho2 hb2 f0 HAP hkey
        go_wp2_with fail
        go_roundg (L.length - (k + 1))
        case rel => exact ⟨k + 1, rfl, by go_num, by omega, unhide HO2, B2⟩
        case measure => have := hg.out; omega
    · have hke : k = L.length := by omega
      subst hke
      have hol := objK_length ks ps L (unhide hL200) L.length (Nat.le_refl _)
      have fin := hide (show Res wr w.heap.size u6 (objV ks ps) by rw [unhide hfin]; exact (res_of_owns hown (by omega)).mono hb1.size)
      clear hown
      go_wp2_with fail
      go_ret
      exact ⟨_, rfl, unhide fin, BR⟩

set_option maxHeartbeats 1000000 in
theorem standing_none (a : Option Addr) (kc : Nat) (w : World) :
    Calls Tryz.prog 218 #[.slice a 0 kc] w fun e w' => e = .returned (.slice none 0 0) ∧ Below w.heap.size w w' := by
  go_enter Tryz.func218, Tryz.ntmps218
  go_wp2_with fail
  refine wp_loop_rounds 1 ?_
  rw [rounds_succ]
  go_wp2_with fail
  refine (sortStable_none _ _).mono ?_
  rintro r w2 ⟨rfl, rfl⟩
  go_wp2_with fail
  refine wp_loop_rounds 1 ?_
  rw [rounds_succ]
  go_wp2_with fail
  go_ret
  exact ⟨rfl, (Below.refl _ _).alloc (Nat.le_refl _) _⟩
theorem objV_nil' : objV [] [] = [headCl 6 0] := rfl
set_option maxHeartbeats 1000000 in
theorem layObject_none (a a' : Option Addr) (kc lc : Nat) (w : World) :
    Calls Tryz.prog 203 #[.slice a 0 kc, .slice a' 0 lc] w fun e w' => ∃ s, e = .returned s ∧ Res w' w.heap.size s (objV [] []) ∧ Below w.heap.size w w' := by
  go_enter Tryz.func203, Tryz.ntmps203
  go_wp2_with fail
  refine (standing_none _ _ _).mono ?_
  rintro e1 w1 ⟨rfl, hb1⟩
  go_wp2_with fail
  refine wp_loop_rounds 1 ?_
  rw [rounds_succ]
  go_wp2_with fail
  go_ret
  refine ⟨_, rfl, ?_, ?_⟩
  · rw [objV_nil']; exact res_of_owns (one_own w1 w.heap.size _ (headCl 6 0) rfl hb1.size) (by simp)
  · exact hb1.alloc hb1.size _

theorem layObjectV_any (a a' : Option Addr) (kc lc : Nat) (ks : List ByteArray) (ps : List (List M.Cl)) (w : World) (hK : TV w a ks) (hL : LV w a' ps) (hkc : ks.length ≤ kc) (hlc : ps.length ≤ lc) (hlen : ks.length = ps.length) (hn : ks.length ≤ 4096) (hv : ∀ j, j < ps.length → M.valueFault (ps.getD j []) = 0) :
    Calls Tryz.prog 203 #[.slice a ks.length kc, .slice a' ps.length lc] w fun e w' => ∃ s, e = .returned s ∧ Res w' w.heap.size s (objV ks ps) ∧ Below w.heap.size w w' := by
  by_cases h0 : ks.length = 0
  · have h1 : ks = [] := List.length_eq_zero_iff.1 h0
    have h2 : ps = [] := List.length_eq_zero_iff.1 (by omega)
    subst h1 h2
    exact layObject_none a a' kc lc w
  · obtain ⟨g, rfl, hg, _⟩ := hK 0 (by omega)
    refine layObjectW_any g kc a' lc ks ps w hg (fun i hi => ?_) hL hkc hlc hlen hn hv
    obtain ⟨k, e, _, hk⟩ := hK i hi
    cases e
    exact hk
end Go.Proofs.YtcglddahphkcpaaGreatDoor

namespace Go.Proofs.YtcglddahphkcpaaGreatDoor
open Go.RowKit
set_option linter.unusedVariables false

set_option maxRecDepth 100000 in
set_option maxHeartbeats 4000000 in
theorem implSetKey_any (v : List M.Cl) (b off cap : Nat) (key : ByteArray) (u : List M.Cl) (b' off' cap' : Nat) (w : World) (hrow : Row w b off v) (hb : b < w.heap.size) (hn : v.length ≤ 1048576) (hcap : v.length ≤ cap) (hok : ∀ c ∈ v, c.ok) (hrow' : Row w b' off' u) (hb' : b' < w.heap.size) (hn' : u.length ≤ 1048576) (hcap' : u.length ≤ cap') (hok' : ∀ c ∈ u, c.ok) (hk : key.size ≤ 9223372036854775807) :
    Calls Tryz.prog 179 #[.slice (some ⟨b, off, none⟩) v.length cap, .string key, .slice (some ⟨b', off', none⟩) u.length cap'] w (Ans w (setOut v key u)) := by
  have OK := hide hok
  have OK' := hide hok'
  have B0 : ∀ o, Below w.heap.size w (w.alloc o) := fun o => (Below.refl _ _).alloc (Nat.le_refl _) o
  have HB0 := hide B0
  clear B0
  have HKF := hide (fun o => keyedFault_any key (some ⟨w.heap.size + 1, 0, none⟩) 2 [v, u] ((w.alloc o).alloc (.cells #[.slice (some ⟨b, off, none⟩) v.length cap, .slice (some ⟨b', off', none⟩) u.length cap'] 24)) (LV.two (w.alloc o) (w.heap.size + 1) b off cap b' off' cap' v u 24 (by simp) (hrow.below ((unhide HB0) _) hb) (by simp; omega) hcap (hrow'.below ((unhide HB0) _) hb') (by simp; omega) hcap') (by simp) (by simp) (len_two hn hn') (okS_two hok hok') hk)
  simp only [List.length_cons, List.length_nil, Nat.zero_add] at HKF
  clear hok hok'
  go_enter Tryz.func179, Tryz.ntmps179
  go_wp2_with fail
  refine ((unhide HKF) _).mono ?_
  rintro e1 w1 ⟨rfl, hb1⟩
  have hR : Own w1 w.heap.size 59 [.int .i64 0, .slice none 0 0] := Own.below (Own.alloc ⟨_, heap_alloc_new _ _, rfl⟩ _) hb1 (by simp; omega)
  have B1 : Below w.heap.size w w1 := (((unhide HB0) _).alloc (by simp) _).trans (hb1.mono (by simp; omega))
  have hrow1 := hrow.below B1 hb
  have hb1' : b < w1.heap.size := Nat.lt_of_lt_of_le hb B1.size
  have hrow2 := hrow'.below B1 hb'
  have hb2' : b' < w1.heap.size := Nat.lt_of_lt_of_le hb' B1.size
  clear hb1 HKF
  by_cases hq : bothOut v u = 0
  · obtain ⟨hv, hu⟩ := both_zero hq
    by_cases ht : M.textOk key = true
    · have hko : keyedOut [v, u] key = 0 := by unfold keyedOut; rw [firstBad_both, if_neg (by simp [hq]), if_pos ht]
      rw [hko]
      clear hko
      have fin := hide (set_ok hq ht)
      have hl1 := (M.fault_zero hv).1
      obtain ⟨f0, _, _, _, _⟩ := hrow1 0 (by omega)
      simp only [Nat.zero_mul, Nat.add_zero] at f0
      by_cases kk : (v.getD 0 M.zero).kind = 0 ∨ (v.getD 0 M.zero).kind = 6
      · have fin2 := hide ((unhide fin).trans (set_some kk))
        clear hq fin
        rcases kk with kk | kk
        all_goals
          rw [kk] at f0
          clear kk
          have HK := hide (keysIn_any v b off cap w1 hv hrow1 hb1' hcap)
          have HPF := hide (fun w' (r : Row w' b off v) hb' => partsOf_any v b off cap w' hv r hb' hcap)
          have hall := subs_all hv (unhide OK)
          have hom := obj_made (ks := keysAt v 0 ++ [key]) (ps := subs v 0 ++ [u]) (by simp [keysAt_length, subs_length]) (by have := hall.1; rw [subs_length] at this; simp [keysAt_length]; omega) (parts_snoc (P := fun p => M.valueFault p = 0) hall.2.1 hu) (parts_snoc (P := fun p => ∀ c ∈ p, c.ok) hall.2.2.1 (unhide OK')) (texts_snoc (keys_text hv) ht)
          have hvv := parts_snoc (P := fun p => M.valueFault p = 0) hall.2.1 hu
          have hlen : (keysAt v 0 ++ [key]).length = (subs v 0 ++ [u]).length ∧ (keysAt v 0 ++ [key]).length ≤ 4096 := ⟨by simp [keysAt_length, subs_length], by have := hall.1; rw [subs_length] at this; simp [keysAt_length]; omega⟩
          obtain ⟨KK, hKK⟩ : ∃ KK, KK = keysAt v 0 ++ [key] := ⟨_, rfl⟩
          obtain ⟨PP, hPP⟩ : ∃ PP, PP = subs v 0 ++ [u] := ⟨_, rfl⟩
          rw [← hKK, ← hPP] at hom hlen
          rw [← hPP] at hvv
          rw [← hKK, ← hPP] at fin2
          have HOM := hide hom
          have HVV := hide hvv
          have HLEN := hide hlen
          have HKK := hide hKK
          have HPP := hide hPP
          have hm200 : M.arity v 0 ≤ 200 := by have := hall.1; rwa [subs_length] at this
          have HNE := hide hall.2.2.2
          have HKL := hide (keysAt_length v 0)
          have HSL := hide (subs_length v 0)
          obtain ⟨i0, hi, hz0, hz1, hz2⟩ := info_parts Tryz.info24
          obtain ⟨t0, ht0, hy0, hy1, hy2⟩ := info_parts Tryz.info9
          clear hv hu ht hall hom hvv hlen hKK hPP
          go_wp2_with fail
          refine (unhide HK).mono ?_
          rintro e2 w2 ⟨s2, rfl, hk2, hb2⟩
          have hR2 := hR.below hb2 hR.lt
          have B2 : Below w.heap.size w w2 := B1.trans (hb2.mono B1.size)
          have hsz2 := hb2.size
          obtain ⟨ka2, kc2, rfl, _, _⟩ := hk2.tv
          have hkownk := hide (fun o => (KS.row (hk2) (unhide HKL)).alloc o)
          have hkbsek := hide (ownsRow_base (hk2))
          have hkonek := hide (one_val w2 (.string key) 9)
          have hkonepk := hide (app_string key)
          have hk63k : (M.arity v 0) + 1 ≤ maxLen := by unfold maxLen; omega
          have hkbyk : ((M.arity v 0) + 1) * 16 ≤ 140737488355328 := by omega
          go_wp2_with (at_builtin; refine wpList_append_own _ rfl (.tmp 31) (.tmp 33) 69 rfl (w1.heap.size) 9 t0 (.string ByteArray.empty) 1 16 Tryz.underlying69 ht0 hy0 hy1 hy2 rfl (by decide) _ (M.arity v 0) _ rfl ((unhide hkownk) _) ⟨w2.heap.size, 0, none⟩ 1 1 [.string key] rfl rfl (unhide hkonek) (unhide hkonepk) hk63k hkbyk (by simp; omega) ?_)
          intro kvk w3 hkok hkgk _
          have hk3 := hide (KS.snoc (unhide HKL) hkok)
          rw [← unhide HKK] at hk3
          have B3 : Below w1.heap.size w1 w3 := ((hb2.alloc hb2.size _).grown hkgk (by simp; omega) (unhide hkbsek))
          have hR3 := hR.below B3 hR.lt
          have B3' : Below w.heap.size w w3 := B1.trans (B3.mono B1.size)
          clear hb2 hkok hkgk hk2 hkownk hkonek HK hR2 B2
          obtain ⟨ka3, kc3, hka3, hkc3, htv3⟩ := (unhide hk3).tv
          subst hka3
          go_wp2_with fail
          refine ((unhide HPF) _ (hrow.below B3' hb) (Nat.lt_of_lt_of_le hb B3'.size)).mono ?_
          rintro e4 w4 ⟨s4, rfl, hs4, hb4⟩
          have hss4 : SS w4 w3.heap.size s4 (subs v 0) := hs4.ss
          have hk4 := hide ((unhide hk3).below hb4)
          have B4 : Below w.heap.size w w4 := B3'.trans (hb4.mono B3'.size)
          have hR4 := hR3.below hb4 hR3.lt
          have hsz4 := hb4.size
          have hsz3 := B3'.size
          have hsz5 := B4.size
          have hbse4 := hide (fun (xs : List Value) (h : w4.ownsRow w3.heap.size 24 1 s4 (subs v 0).length xs) => ownsRow_base h)
          obtain ⟨ss4, hsl4, hown4, hres4⟩ := hss4
          have hrow4 := hrow'.below B4 hb'
          have hlk4 := unhide HSL
          have hown5 := hide (fun o => (hlk4 ▸ hown4 : World.ownsRow w4 w3.heap.size 24 1 _ (M.arity v 0) ss4).alloc o)
          have hbse5 := hide (ownsRow_base hown4)
          have hone5 := hide (one_val w4 (.slice (some ⟨b', off', none⟩) u.length cap') 24)
          have honep5 := hide (one_plain' (some ⟨b', off', none⟩) u.length cap')
          have hkg5 := hide (fun (w' : World) o hg => ((unhide hk4).alloc o).grown (w' := w') (hown4.alloc o) (by decide) hg)
          have hlv5 := hide (fun w' o v' hg ho hr hbb => SS.lvSnoc (w3 := w') (o := o) (v' := v') (u := u) (b := b') (off := off') (cap := cap') hlk4 hsl4 hown4 hres4 (unhide HNE) hg ho hr hbb hcap')
          have hb635 : M.arity v 0 + 1 ≤ maxLen := by unfold maxLen; omega
          have hby5 : (M.arity v 0 + 1) * 24 ≤ 140737488355328 := by omega
          obtain ⟨sa4, sn4, sc4, hsh4⟩ : ∃ x y z, s4 = Value.slice x y z := by
            rcases hown4.2 with ⟨h, _⟩ | ⟨_, _, _, h, _⟩
            · exact ⟨_, _, _, h⟩
            · exact ⟨_, _, _, h⟩
          subst hsh4
          clear hs4 hres4 hsl4 hown4 hlk4 hbse4 htv3 HPF B3' B3
          generalize hm : M.arity v 0 = m at *
          clear hm
          go_wp2_with (at_builtin; refine wpList_append_own _ rfl (.tmp 36) (.tmp 38) 28 rfl w3.heap.size 24 i0 (.slice none 0 0) 1 24 Tryz.underlying28 hi hz0 hz1 hz2 rfl (by decide) _ m ss4 rfl ((unhide hown5) _) ⟨w4.heap.size, 0, none⟩ 1 1 [.slice (some ⟨b', off', none⟩) u.length cap'] rfl rfl (unhide hone5) (unhide honep5) hb635 hby5 (by simp; omega) ?_)
          intro v5 w5 ho5 hg5 _
          have B5 : Below w3.heap.size w3 w5 := ((hb4.alloc hb4.size _).grown hg5 (by simp; omega) (unhide hbse5))
          have B5' : Below w.heap.size w w5 := (B4.alloc B4.size _).grown hg5 (by simp; omega) (fun k hk => by have := (unhide hbse5) k hk; omega)
          have hRx : Own w5 w.heap.size 59 [.int .i64 0, .slice none 0 0] := hR3.below B5 hR3.lt
          have hk5 := (unhide hkg5) _ _ hg5
          have h5 := (unhide hlv5) _ _ _ hg5 ho5 (hrow'.below B5' hb') (Nat.lt_of_lt_of_le hb' B5'.size)
          rw [← unhide HPP] at h5
          obtain ⟨la5, lc5, hla5, hlc5, hlv5'⟩ := h5
          obtain ⟨ka5, kc5, hka5, hkc5, htv5⟩ := hk5.tv
          cases hka5
          subst hla5
          clear ho5 hg5 hk5 hk4 hkg5 hlv5 hown5 hone5 hR4 B4 B5 hb4
          go_wp2_with fail
          refine (layObjectV_any _ _ _ _ KK PP _ htv5 hlv5' hkc5 hlc5 (unhide HLEN).1 (unhide HLEN).2 (unhide HVV)).mono ?_
          rintro e6 w6 ⟨s6, rfl, hr6, hb6⟩
          have hR6 := hRx.below hb6 hRx.lt
          have hlt5 := hRx.lt
          have B6 : Below w.heap.size w w6 := B5'.trans (hb6.mono B5'.size)
          have HT := hide (implTold_any s6 _ _ w6 hr6 hb6.size (unhide HOM).1 (unhide HOM).2.1 (unhide HOM).2.2)
          obtain ⟨at6, mt6, ct6, rfl⟩ := hr6.shape
          clear hr6 hb6 hlv5' htv5 hRx B5'
          generalize hR2 : told (objV KK PP) = R at *
          obtain ⟨rc, rl⟩ := R
          clear hR2
          go_wp2_with fail
          refine (unhide HT).mono ?_
          rintro e7 w7 ⟨s7, rfl, hr7, hb7⟩
          have hR7 := hR6.below hb7 hR6.lt
          have r0 := hR7.cell 0
          have r1 := hR7.cell 1
          have z0 := hR7.frozen 0
          have z1 := hR7.frozen 1
          simp only [List.getElem?_cons_zero, List.getElem?_cons_succ] at r0 r1
          have HE := hide (Ans.storeC hr7 hlt5 (B6.trans (hb7.mono B6.size)))
          obtain ⟨ac, mc, cc, rfl⟩ := hr7.shape
          clear hr7 hb7 HT
          go_wp2_with fail
          refine bodyPost_ret (v := .agg #[.int .i64 rc, .slice ac mc cc]) (by simp [results, Tryz.results179, go_sem, r0, r1]) rfl (ans_of (unhide fin2) ((unhide HE) _ _).1 ((unhide HE) _ _).2)
      · have h0 : (v.getD 0 M.zero).kind ≠ 0 := fun e => kk (.inl e)
        have h6 : (v.getD 0 M.zero).kind ≠ 6 := fun e => kk (.inr e)
        have fin2 := hide ((unhide fin).trans (set_kind h0 h6))
        generalize v.getD 0 M.zero = c at *
        have n0 : (c.kind != 0) = true := by simp [h0]
        have n6 : (c.kind != 6) = true := by simp [h6]
        have r0 := hR.cell 0
        have r1 := hR.cell 1
        have z0 := hR.frozen 0
        have z1 := hR.frozen 1
        simp only [List.getElem?_cons_zero, List.getElem?_cons_succ] at r0 r1
        clear h0 h6 kk fin hv ht hq hu
        go_wp2_with fail
        refine bodyPost_ret (v := .agg #[.int .i64 6, .slice none 0 0]) (by simp [results, Tryz.results179, go_sem, r0, r1]) rfl (ans_of (unhide fin2) (resNil _ _) (store_below B1 _ _))
    · have ht' : M.textOk key = false := by simpa using ht
      have hko : keyedOut [v, u] key = 5 := by unfold keyedOut; rw [firstBad_both, if_neg (by simp [hq]), if_neg ht]
      rw [hko]
      have fin := hide (set_text hq ht')
      have r0 := hR.cell 0
      have r1 := hR.cell 1
      have z0 := hR.frozen 0
      have z1 := hR.frozen 1
      simp only [List.getElem?_cons_zero, List.getElem?_cons_succ] at r0 r1
      clear hko ht ht' hv hu hq
      go_wp2_with fail
      refine bodyPost_ret (v := .agg #[.int .i64 5, .slice none 0 0]) (by simp [results, Tryz.results179, go_sem, r0, r1]) rfl (ans_of (unhide fin) (resNil _ _) (store_below B1 _ _))
  · have hko : keyedOut [v, u] key = bothOut v u := by unfold keyedOut; rw [firstBad_both, if_pos hq]
    have fin := hide (set_bad (key := key) hq)
    rw [hko]
    clear hko
    generalize bothOut v u = q at *
    have hz' : (q == 0) = false := by simp [hq]
    have r0 := hR.cell 0
    have r1 := hR.cell 1
    have z0 := hR.frozen 0
    have z1 := hR.frozen 1
    simp only [List.getElem?_cons_zero, List.getElem?_cons_succ] at r0 r1
    clear hq
    go_wp2_with fail
    refine bodyPost_ret (v := .agg #[.int .i64 q, .slice none 0 0]) (by simp [results, Tryz.results179, go_sem, r0, r1]) rfl (ans_of (unhide fin) (resNil _ _) (store_below B1 _ _))

end Go.Proofs.YtcglddahphkcpaaGreatDoor
