/-
  slices.Clone and impl.areBoth.
  impl.layObject of texts and lists that lie anywhere.
  impl.addTwo of two arrays and of two objects.
  impl.addTwo.
-/
import Derived.Test.YtcolohilnmikiaaGreatAdd0
import Derived.Test.YtcolohilnmikiaaGreatObjN
import Derived.Test.YtcolohilnmikiaaGreatLvT
import Derived.Test.YtcolohilnmikiaaGreatTypT
import Derived.BigQuiet
import Derived.Lib.SliceRun
import Derived.Deep.RegionHeld
namespace Go.Proofs.YtcolohilnmikiaaGreat
open Go.RowKit
set_option linter.unusedVariables false

set_option maxHeartbeats 1000000 in
theorem areBoth_yes (k : Int) (b off n cap b' off' n' cap' : Nat) (w : World) (hn : 0 < n) (hn' : 0 < n') (f0 : w.cell? ⟨b, off, none⟩ = some (.int .i64 k)) (g0 : w.cell? ⟨b', off', none⟩ = some (.int .i64 k)) :
    Calls Tryz.prog 90 #[.int .i64 k, .slice (some ⟨b, off, none⟩) n cap, .slice (some ⟨b', off', none⟩) n' cap'] w fun e w' => e = .returned (.bool true) ∧ w' = w := by
  go_enter Tryz.func90, Tryz.ntmps90
  go_wp2_with fail
  go_ret
  exact ⟨by simp, rfl⟩
set_option maxHeartbeats 1000000 in
theorem areBoth_no (k kv ku : Int) (b off n cap b' off' n' cap' : Nat) (w : World) (hn : 0 < n) (hn' : 0 < n') (f0 : w.cell? ⟨b, off, none⟩ = some (.int .i64 kv)) (g0 : w.cell? ⟨b', off', none⟩ = some (.int .i64 ku)) (h : kv ≠ k ∨ ku ≠ k) :
    Calls Tryz.prog 90 #[.int .i64 k, .slice (some ⟨b, off, none⟩) n cap, .slice (some ⟨b', off', none⟩) n' cap'] w fun e w' => e = .returned (.bool false) ∧ w' = w := by
  by_cases hv : kv = k
  · have e1 : (kv == k) = true := by simp [hv]
    have e2 : (ku == k) = false := by rcases h with h | h; exact absurd hv h; simp [h]
    clear hv h
    go_enter Tryz.func90, Tryz.ntmps90
    go_wp2_with fail
    go_ret
    exact ⟨by first | rfl | simp, rfl⟩
  · have e1 : (kv == k) = false := by simp [hv]
    clear hv h
    go_enter Tryz.func90, Tryz.ntmps90
    go_wp2_with fail
    go_ret
    exact ⟨by simp, rfl⟩
set_option maxRecDepth 100000 in
set_option maxHeartbeats 1000000 in
theorem clone_any (l : List M.Cl) (b off cap : Nat) (w : World) (hrow : Row w b off l) (hb : b < w.heap.size) (hn : l.length ≤ 1048576) :
    Calls Tryz.prog 89 #[.slice (some ⟨b, off, none⟩) l.length cap] w fun e w' => ∃ s, e = .returned s ∧ Res w' w.heap.size s l ∧ Below w.heap.size w w' := by
  obtain ⟨i0, hi, hz0, hz1, hz2⟩ := info_parts Tryz.info40
  have hnews := hide (fun o => row_words (hrow.below ((Below.refl w.heap.size w).alloc (Nat.le_refl _) o) hb))
  have hone := hide (flat_one l)
  have HFL := hide (flat_length l)
  have hoe := hide (owns_empty5 w 40)
  have hb63 : 0 + l.length ≤ maxLen := by unfold maxLen; omega
  have hby : (0 + l.length) * 56 ≤ 140737488355328 := by omega
  have heq : ∀ w', (binOp .eql 24 (.slice (some ⟨b, off, none⟩) l.length cap) (.slice none 0 0)).run Tryz.prog w' = .ok (.bool false) w' := fun w' => Lib.run_eql_slice_nil w' 24 40 (some ⟨b, off, none⟩) l.length cap 0 0 Tryz.underlying24
  go_enter Tryz.func89, Tryz.ntmps89
  go_wp2_with (at_builtin; refine wpList_append_own _ rfl (.tmp 5) (.tmp 6) 24 rfl w.heap.size 40 i0 _ 5 56 Tryz.underlying24 hi hz0 hz1 hz2 rfl (by decide) _ 0 [] rfl (unhide hoe) ⟨b, off, none⟩ l.length cap (flat l) rfl (unhide HFL) ((unhide hnews) _) (unhide hone) hb63 hby (by simp) ?_)
  intro v' w' ho hg _
  have hB : Below w.heap.size w w' := ((Below.refl _ w).alloc (Nat.le_refl _) _).grown hg (by simp) (fun q hq => by simp only [Value.ownBlock, Option.some.injEq] at hq; omega)
  have hr := hide (res_of_owns (l := l) (by simpa using ho) hn)
  clear ho hg
  go_wp2_with fail
  go_ret
  exact ⟨_, rfl, unhide hr, hB⟩

end Go.Proofs.YtcolohilnmikiaaGreat

namespace Go.Proofs.YtcolohilnmikiaaGreat
open Go.RowKit
set_option linter.unusedVariables false

set_option maxRecDepth 100000 in
set_option maxHeartbeats 2000000 in
theorem layObjectW_any (kq kc : Nat) (a' : Option Addr) (lc : Nat) (ks : List ByteArray) (ps : List (List M.Cl)) (w : World) (hklt : kq < w.heap.size) (hK : ∀ i, i < ks.length → w.cell? ⟨kq, i, none⟩ = some (.string (ks.getD i ByteArray.empty))) (hL : LV w a' ps) (hkc : ks.length ≤ kc) (hlc : ps.length ≤ lc) (hlen : ks.length = ps.length) (hn : ks.length ≤ 4096) (hv : ∀ j, j < ps.length → M.valueFault (ps.getD j []) = 0) :
    Calls Tryz.prog 91 #[.slice (some ⟨kq, 0, none⟩) ks.length kc, .slice a' ps.length lc] w fun e w' => ∃ s, e = .returned s ∧ Res w' w.heap.size s (objV ks ps) ∧ Below w.heap.size w w' := by
  have HK := hide hK
  have HL := hide hL
  have HV := hide hv
  have hle1 : ks.length ≤ ps.length := by omega
  have hle2 : ps.length ≤ ks.length := by omega
  clear hK hL hv hlen
  go_enter Tryz.func91, Tryz.ntmps91
  go_wp2_with fail
  refine (standing_any kq kc ks _ hklt (unhide HK) (by omega) hkc).mono ?_
  rintro e1 w1 ⟨s1, rfl, ho1, hb1⟩
  have hst := hide (St.stand_lt ks ks.length)
  have hsl := St.stand_length ks ks.length
  have hL200 := hide (show ∀ p ∈ St.stand ks ks.length, (ps.getD p []).length ≤ 200 from fun p hp => (fault_len ((unhide HV) p (by have := (unhide hst) p hp; omega))).2)
  have hfin := hide (show objV ks ps = objK ks ps (St.stand ks ks.length) (St.stand ks ks.length).length from rfl)
  generalize St.stand ks ks.length = L at *
  have hel : ∃ a c, s1 = .slice a L.length c ∧ ∀ i, i < L.length → ∃ b, a = some ⟨b, 0, none⟩ ∧ b < w1.heap.size ∧ w1.cell? ⟨b, i, none⟩ = some (.int .i64 (L.getD i 0 : Nat)) := by
    obtain ⟨_, ⟨rfl, h0⟩ | ⟨g, cap, cur, rfl, hg, hh, hnc, hcm, hcs, ht⟩⟩ := ho1
    · exact ⟨_, _, by rw [h0], fun i hi => by omega⟩
    · refine ⟨_, _, rfl, fun i hi => ⟨g, rfl, (Array.getElem?_eq_some_iff.1 hh).1, ?_⟩⟩
      rw [cell_of_row w1 g i cur 3 (0, 0) hh]
      have h3 : cur.toList[i]? = (natV L)[i]? := by rw [← ht, List.getElem?_take, if_pos (by omega)]
      have h4 : cur[i]? = cur.toList[i]? := by simp
      rw [h4, h3, natV_get L i hi]
  obtain ⟨sa, sc, rfl, hel⟩ := hel
  have HEL := hide hel
  clear hel ho1
  go_wp2_with fail
  go_loopg [6, 17] L.length (fun gh s6 s17 wr => ∃ k : Nat, Hid (gh = L.length - k) ∧ s17 = .int .i64 k ∧ k ≤ L.length ∧ wr.ownsRow w1.heap.size 40 5 s6 (objK ks ps L k).length (flat (objK ks ps L k)) ∧ Below w1.heap.size w1 wr)
  case atStart => exact ⟨0, rfl, rfl, by omega, one_own w1 w1.heap.size _ (headCl 6 L.length) rfl (Nat.le_refl _), (Below.refl _ _).alloc (Nat.le_refl _) _⟩
  case round =>
    obtain ⟨k, hg, rfl, hk, hown, hbel⟩ := hrel
    have BR : Below w.heap.size w wr := hb1.trans (hbel.mono hb1.size)
    by_cases hlt : k < L.length
    · obtain ⟨pb, rfl, hpb, hpc⟩ := (unhide HEL) k hlt
      have hpc2 := (hbel.cell (p := ⟨pb, k, none⟩) hpb).trans hpc
      have hmem : L.getD k 0 ∈ L := by rw [List.getD_eq_getElem?_getD, List.getElem?_eq_getElem hlt]; exact List.getElem_mem _
      have hx := (unhide hst) _ hmem
      have hsucc := hide (objK_succ ks ps L k hlt)
      have hol := objK_length ks ps L (unhide hL200) k hk
      obtain ⟨x, hxe⟩ : ∃ x, x = L.getD k 0 := ⟨_, rfl⟩
      rw [← hxe] at hpc2 hx hsucc
      clear hxe hmem hpc
      obtain ⟨gl, b, off, c, rfl, hgl, f0, hcc, hb, hr⟩ := ((unhide HL).below BR) x (by omega)
      have hp := fault_len ((unhide HV) x (by omega))
      have hpn : ps.getD x [] ≠ [] := by intro e; rw [e] at hp; simp at hp
      have hkey := (BR.cell (p := ⟨kq, x, none⟩) hklt).trans ((unhide HK) x hx)
      have hxz : (x : Int) < (ks.length : Int) := by omega
      have hxz2 : (x : Int) < (ps.length : Int) := by omega
      generalize ks.getD x ByteArray.empty = key at *
      have HAP := hide (appendPart_any w1.heap.size u6 (objK ks ps L k) (ps.getD x []) b off c key wr.drew hown hr hpn (by omega) hbel.size)
      rw [← unhide hsucc] at HAP
      clear hown hr hpn hsucc
      generalize ps.getD x [] = p at *
      go_wp2_with fail
      go_region_with (go_at_call 74; refine (unhide HAP).mono ?_; rintro e2 w2 ⟨v', rfl, ho2, hb2⟩)
      all_goals
        have B2 : Below w1.heap.size w1 w2 := hbel.drew.trans hb2
        have HO2 := hide ho2
        clear ho2 hb2 f0 HAP hkey
        go_wp2_with fail
        go_roundg (L.length - (k + 1))
        case rel => exact ⟨k + 1, rfl, by go_num, by omega, unhide HO2, B2⟩
        case measure => have := hg.out; omega
    · have hke : k = L.length := by omega
      subst hke
      have hol := objK_length ks ps L (unhide hL200) L.length (Nat.le_refl _)
      have fin := hide (show Res wr w.heap.size u6 (objV ks ps) by rw [unhide hfin]; exact (res_of_owns hown (by omega)).mono hb1.size)
      clear hown
      go_wp2_with fail
      go_ret
      exact ⟨_, rfl, unhide fin, BR⟩

set_option maxHeartbeats 1000000 in
theorem standing_none (a : Option Addr) (kc : Nat) (w : World) :
    Calls Tryz.prog 98 #[.slice a 0 kc] w fun e w' => e = .returned (.slice none 0 0) ∧ Below w.heap.size w w' := by
  go_enter Tryz.func98, Tryz.ntmps98
  go_wp2_with fail
  refine wp_loop_rounds 1 ?_
  rw [rounds_succ]
  go_wp2_with fail
  refine (sortStable_none _ _).mono ?_
  rintro r w2 ⟨rfl, rfl⟩
  go_wp2_with fail
  refine wp_loop_rounds 1 ?_
  rw [rounds_succ]
  go_wp2_with fail
  go_ret
  exact ⟨rfl, (Below.refl _ _).alloc (Nat.le_refl _) _⟩
theorem objV_nil' : objV [] [] = [headCl 6 0] := rfl
set_option maxHeartbeats 1000000 in
theorem layObject_none (a a' : Option Addr) (kc lc : Nat) (w : World) :
    Calls Tryz.prog 91 #[.slice a 0 kc, .slice a' 0 lc] w fun e w' => ∃ s, e = .returned s ∧ Res w' w.heap.size s (objV [] []) ∧ Below w.heap.size w w' := by
  go_enter Tryz.func91, Tryz.ntmps91
  go_wp2_with fail
  refine (standing_none _ _ _).mono ?_
  rintro e1 w1 ⟨rfl, hb1⟩
  go_wp2_with fail
  refine wp_loop_rounds 1 ?_
  rw [rounds_succ]
  go_wp2_with fail
  go_ret
  refine ⟨_, rfl, ?_, ?_⟩
  · rw [objV_nil']; exact res_of_owns (one_own w1 w.heap.size _ (headCl 6 0) rfl hb1.size) (by simp)
  · exact hb1.alloc hb1.size _

theorem layObjectV_any (a a' : Option Addr) (kc lc : Nat) (ks : List ByteArray) (ps : List (List M.Cl)) (w : World) (hK : TV w a ks) (hL : LV w a' ps) (hkc : ks.length ≤ kc) (hlc : ps.length ≤ lc) (hlen : ks.length = ps.length) (hn : ks.length ≤ 4096) (hv : ∀ j, j < ps.length → M.valueFault (ps.getD j []) = 0) :
    Calls Tryz.prog 91 #[.slice a ks.length kc, .slice a' ps.length lc] w fun e w' => ∃ s, e = .returned s ∧ Res w' w.heap.size s (objV ks ps) ∧ Below w.heap.size w w' := by
  by_cases h0 : ks.length = 0
  · have h1 : ks = [] := List.length_eq_zero_iff.1 h0
    have h2 : ps = [] := List.length_eq_zero_iff.1 (by omega)
    subst h1 h2
    exact layObject_none a a' kc lc w
  · obtain ⟨g, rfl, hg, _⟩ := hK 0 (by omega)
    refine layObjectW_any g kc a' lc ks ps w hg (fun i hi => ?_) hL hkc hlc hlen hn hv
    obtain ⟨k, e, _, hk⟩ := hK i hi
    cases e
    exact hk
end Go.Proofs.YtcolohilnmikiaaGreat

namespace Go.Proofs.YtcolohilnmikiaaGreat
open Go.RowKit
set_option linter.unusedVariables false

set_option maxRecDepth 100000 in
set_option maxHeartbeats 8000000 in
theorem addImpl_arr (v : List M.Cl) (b off cap : Nat) (u : List M.Cl) (b' off' cap' : Nat) (w : World) (hv : M.valueFault v = 0) (hu : M.valueFault u = 0) (hrow : Row w b off v) (hb : b < w.heap.size) (hn : v.length ≤ 1048576) (hcap : v.length ≤ cap) (hok : ∀ c ∈ v, c.ok) (hrow' : Row w b' off' u) (hb' : b' < w.heap.size) (hn' : u.length ≤ 1048576) (hcap' : u.length ≤ cap') (hok' : ∀ c ∈ u, c.ok) (k5 : (v.getD 0 M.zero).kind = 5) (k5' : (u.getD 0 M.zero).kind = 5) :
    Calls Tryz.prog 76 #[.slice (some ⟨b, off, none⟩) v.length cap, .slice (some ⟨b', off', none⟩) u.length cap'] w (Ans w (addIn v u)) := by
  have OK := hide hok
  have OK' := hide hok'
  have HVV0 := hide hv
  have HUV := hide hu
  have hl1 := (M.fault_zero hv).1
  have hl1' := (M.fault_zero hu).1
  have B0 : ∀ o, Below w.heap.size w (w.alloc o) := fun o => (Below.refl _ _).alloc (Nat.le_refl _) o
  have HB0 := hide B0
  clear B0
  obtain ⟨w0, hw0⟩ : ∃ w0, w0 = w.alloc (.cells #[.int .i64 0, .slice none 0 0] 26) := ⟨_, rfl⟩
  have HR0 : Own w0 w.heap.size 26 [.int .i64 0, .slice none 0 0] := by rw [hw0]; exact ⟨_, heap_alloc_new _ _, rfl⟩
  have B00 : Below w.heap.size w w0 := by rw [hw0]; exact (unhide HB0) _
  have hs0 : w0.heap.size = w.heap.size + 1 := by rw [hw0]; simp
  obtain ⟨f0, f1, f2, _, _⟩ := (hrow.below B00 hb) 0 (by omega)
  obtain ⟨g0, g1, g2, _, _⟩ := (hrow'.below B00 hb') 0 (by omega)
  simp only [Nat.zero_mul, Nat.add_zero] at f0 f1 f2 g0 g1 g2
  rw [k5] at f0
  rw [k5'] at g0
  have hall := subs_all hv hok
  have hall' := subs_all hu hok'
  have HVV := hide (parts_app (P := fun p => M.valueFault p = 0) hall.2.1 hall'.2.1)
  have HOK := hide (show OkS (subs v 0 ++ subs u 0) from parts_app (P := fun p => ∀ c ∈ p, c.ok) hall.2.2.1 hall'.2.2.1)
  have HN := hide (And.intro hall.1 hall'.1)
  have HNE := hide (And.intro hall.2.2.2 hall'.2.2.2)
  have hlJ : (subs v 0 ++ subs u 0).length ≤ 4096 := by rw [List.length_append]; have := hall.1; have := hall'.1; omega
  have HLJ := hide hlJ
  have HOM := hide (And.intro (arrV_ne (subs v 0 ++ subs u 0)) (And.intro (arrV_le hlJ (unhide HVV)) (arrK_ok (subs v 0 ++ subs u 0) hlJ (unhide HOK) (subs v 0 ++ subs u 0).length (Nat.le_refl _))))
  have fin2 := hide (add_5 k5 k5')
  clear hv hu hok hok' hall hall' hlJ k5 k5'
  obtain ⟨i0, hi, hz0, hz1, hz2⟩ := info_parts Tryz.info24
  go_enter Tryz.func76, Tryz.ntmps76
  have HNO := hide (fun k hk => areBoth_no k 5 5 b off v.length cap b' off' u.length cap' w0 (by omega) (by omega) f0 g0 (.inl hk))
  have HYES := hide (areBoth_yes 5 b off v.length cap b' off' u.length cap' w0 (by omega) (by omega) f0 g0)
  clear hs0
  rw [hw0] at f0 f1 f2 g0 g1 g2
  go_wp2_with fail
  rw [← hw0]
  clear hw0 f0 f1 f2 g0 g1 g2
  refine ((unhide HNO) 3 (by decide)).mono ?_
  rintro ea0 wa0 ⟨rfl, hwa0⟩
  have hwb0 := hwa0.symm
  clear hwa0
  subst hwb0
  go_wp2_with fail
  refine ((unhide HNO) 4 (by decide)).mono ?_
  rintro ea1 wa1 ⟨rfl, hwa1⟩
  have hwb1 := hwa1.symm
  clear hwa1
  subst hwb1
  go_wp2_with fail
  refine (unhide HYES).mono ?_
  rintro ea2 wa2 ⟨rfl, hwa2⟩
  have hwb2 := hwa2.symm
  clear hwa2
  subst hwb2
  clear HNO HYES
  go_wp2_with fail
  refine (partsOf_any v b off cap _ (unhide HVV0) (hrow.below B00 hb) (Nat.lt_of_lt_of_le hb B00.size) hcap).mono ?_
  rintro ep1 wp1 ⟨sp1, rfl, hp1, hbp1⟩
  have Bp1 : Below w.heap.size w wp1 := B00.trans (hbp1.mono B00.size)
  obtain ⟨pa1, pc1, hsp1, _, _⟩ := (hp1.ss).lv (unhide HNE).1
  subst hsp1
  go_wp2_with fail
  refine (partsOf_any u b' off' cap' _ (unhide HUV) (hrow'.below Bp1 hb') (Nat.lt_of_lt_of_le hb' Bp1.size) hcap').mono ?_
  rintro ep2 wp2 ⟨sp2, rfl, hp2, hbp2⟩
  have Bp2 : Below w.heap.size w wp2 := Bp1.trans (hbp2.mono Bp1.size)
  have hq1 := (hp1.ss).below hbp2
  have hszA := hbp1.size
  have hszB := hbp2.size
  have hszC := B00.size
  obtain ⟨pa2, pc2, hsp2, _, _⟩ := (hp2.ss).lv (unhide HNE).2
  subst hsp2
  obtain ⟨ss1, hsl1, hown1, hres1⟩ := hq1
  have hp2' := hp2.ss
  obtain ⟨ss2, hsl2, hown2, hres2⟩ := hp2'
  have HO1 := hide hown1
  have HO2 := hide hown2
  have hbse1 := hide (ownsRow_base hown1)
  have hone2 := hide (SS.one (v := Value.slice pa2 (subs u 0).length pc2) hsl2 hres2)
  have hjn := hide (fun w' v' hg ho => SS.join (w' := w') (v' := v') hsl1 hown1 hres1 hsl2 hres2 (show w0.heap.size ≤ wp1.heap.size from hszA) hg ho)
  have hn63 : (subs v 0).length + (subs u 0).length ≤ maxLen := by unfold maxLen; have := (unhide HN).1; have := (unhide HN).2; omega
  have hnby : ((subs v 0).length + (subs u 0).length) * 24 ≤ 140737488355328 := by have := (unhide HN).1; have := (unhide HN).2; omega
  clear hown1 hown2 hres1 hres2 hsl1 hsl2 hp1 hp2
  go_wp2_with (at_builtin; refine wpList_append_row rfl (.tmp 56) (.tmp 58) 58 rfl w0.heap.size 24 i0 (.slice none 0 0) 24 Tryz.underlying58 hi hz0 hz1 hz2 rfl _ (subs v 0).length ss1 rfl (unhide HO1) wp1.heap.size 24 _ (subs u 0).length ss2 rfl (unhide HO2) (unhide hone2) hn63 hnby (by omega) ?_)
  intro vj wj hoj hgj
  have hssJ := (unhide hjn) _ _ hgj hoj
  have BJ : Below w.heap.size w wj := Bp2.grown hgj (by omega) (fun k hk => by have := (unhide hbse1) k hk; omega)
  have BJW : Below w0.heap.size w0 wj := (hbp1.trans (hbp2.mono hszA)).grown hgj (by omega) (unhide hbse1)
  clear hoj hgj HO1 HO2 hjn hone2 hbp1 hbp2
  have hRJ := HR0.below BJW HR0.lt
  have hltJ := hRJ.lt
  obtain ⟨PP, hPP⟩ : ∃ PP, PP = subs v 0 ++ subs u 0 := ⟨_, rfl⟩
  rw [← hPP] at hssJ HVV HOK HLJ HOM fin2
  have HPP := hide hPP
  clear hPP
  obtain ⟨la, lc, hla, hlc, hlv⟩ := hssJ.lv (valid_ne (unhide HVV))
  subst hla
  clear hssJ
  go_wp2_with fail
  refine (layArrayV_any _ _ PP _ hlv hlc (unhide HLJ) (unhide HVV)).mono ?_
  rintro e6 w6 ⟨s6, rfl, hr6, hb6⟩
  have hR6 := hRJ.below hb6 hRJ.lt
  have B6 : Below w.heap.size w w6 := BJ.trans (hb6.mono BJ.size)
  clear hlv
  have hsz6 := hb6.size
  have HT := hide (implTold_any s6 _ _ w6 hr6 hb6.size (unhide HOM).1 (unhide HOM).2.1 (unhide HOM).2.2)
  obtain ⟨at6, mt6, ct6, rfl⟩ := hr6.shape
  clear hr6 hb6
  generalize hR2 : told (arrV PP) = R at *
  obtain ⟨rc, rl⟩ := R
  clear hR2
  go_wp2_with fail
  refine (unhide HT).mono ?_
  rintro e7 w7 ⟨s7, rfl, hr7, hb7⟩
  have hR7 := hR6.below hb7 hR6.lt
  have r0 := hR7.cell 0
  have r1 := hR7.cell 1
  have z0 := hR7.frozen 0
  have z1 := hR7.frozen 1
  simp only [List.getElem?_cons_zero, List.getElem?_cons_succ] at r0 r1
  have HE := hide (Ans.storeC hr7 hltJ (B6.trans (hb7.mono B6.size)))
  obtain ⟨ac, mc, cc, rfl⟩ := hr7.shape
  clear hr7 hb7 HT
  go_wp2_with fail
  refine bodyPost_ret (v := .agg #[.int .i64 rc, .slice ac mc cc]) (by simp [results, Tryz.results76, go_sem, r0, r1]) rfl (ans_of (unhide fin2) ((unhide HE) _ _).1 ((unhide HE) _ _).2)

set_option maxRecDepth 100000 in
set_option maxHeartbeats 8000000 in
theorem addImpl_obj (v : List M.Cl) (b off cap : Nat) (u : List M.Cl) (b' off' cap' : Nat) (w : World) (hv : M.valueFault v = 0) (hu : M.valueFault u = 0) (hrow : Row w b off v) (hb : b < w.heap.size) (hn : v.length ≤ 1048576) (hcap : v.length ≤ cap) (hok : ∀ c ∈ v, c.ok) (hrow' : Row w b' off' u) (hb' : b' < w.heap.size) (hn' : u.length ≤ 1048576) (hcap' : u.length ≤ cap') (hok' : ∀ c ∈ u, c.ok) (k5 : (v.getD 0 M.zero).kind = 6) (k5' : (u.getD 0 M.zero).kind = 6) :
    Calls Tryz.prog 76 #[.slice (some ⟨b, off, none⟩) v.length cap, .slice (some ⟨b', off', none⟩) u.length cap'] w (Ans w (addIn v u)) := by
  have OK := hide hok
  have OK' := hide hok'
  have HVV0 := hide hv
  have HUV := hide hu
  have hl1 := (M.fault_zero hv).1
  have hl1' := (M.fault_zero hu).1
  have B0 : ∀ o, Below w.heap.size w (w.alloc o) := fun o => (Below.refl _ _).alloc (Nat.le_refl _) o
  have HB0 := hide B0
  clear B0
  obtain ⟨w0, hw0⟩ : ∃ w0, w0 = w.alloc (.cells #[.int .i64 0, .slice none 0 0] 26) := ⟨_, rfl⟩
  have HR0 : Own w0 w.heap.size 26 [.int .i64 0, .slice none 0 0] := by rw [hw0]; exact ⟨_, heap_alloc_new _ _, rfl⟩
  have B00 : Below w.heap.size w w0 := by rw [hw0]; exact (unhide HB0) _
  have hs0 : w0.heap.size = w.heap.size + 1 := by rw [hw0]; simp
  obtain ⟨f0, f1, f2, _, _⟩ := (hrow.below B00 hb) 0 (by omega)
  obtain ⟨g0, g1, g2, _, _⟩ := (hrow'.below B00 hb') 0 (by omega)
  simp only [Nat.zero_mul, Nat.add_zero] at f0 f1 f2 g0 g1 g2
  rw [k5] at f0
  rw [k5'] at g0
  have hall := subs_all hv hok
  have hall' := subs_all hu hok'
  have HVV := hide (parts_app (P := fun p => M.valueFault p = 0) hall.2.1 hall'.2.1)
  have HN := hide (And.intro hall.1 hall'.1)
  have HNE := hide (And.intro hall.2.2.2 hall'.2.2.2)
  have hkl := keysAt_length v 0
  have hkl' := keysAt_length u 0
  have hsl := subs_length v 0
  have hsl' := subs_length u 0
  have hlJ : (keysAt v 0 ++ keysAt u 0).length = (subs v 0 ++ subs u 0).length ∧ (keysAt v 0 ++ keysAt u 0).length ≤ 4096 := by rw [List.length_append, List.length_append]; have := hall.1; have := hall'.1; exact ⟨by omega, by omega⟩
  have HLJ := hide hlJ
  have HOM := hide (obj_made hlJ.1 hlJ.2 (unhide HVV) (parts_app (P := fun p => ∀ c ∈ p, c.ok) hall.2.2.1 hall'.2.2.1) (texts_app (keys_text hv) (keys_text hu)))
  have HKN := hide (show (keysAt v 0).length ≤ 200 ∧ (keysAt u 0).length ≤ 200 from ⟨by have := hall.1; omega, by have := hall'.1; omega⟩)
  have fin2 := hide (add_6 k5 k5')
  clear hv hu hok hok' hall hall' hlJ hkl hkl' hsl hsl' k5 k5'
  obtain ⟨i0, hi, hz0, hz1, hz2⟩ := info_parts Tryz.info24
  obtain ⟨t0, ht0, hy0, hy1, hy2⟩ := info_parts Tryz.info9
  go_enter Tryz.func76, Tryz.ntmps76
  have HNO := hide (fun k hk => areBoth_no k 6 6 b off v.length cap b' off' u.length cap' w0 (by omega) (by omega) f0 g0 (.inl hk))
  have HYES := hide (areBoth_yes 6 b off v.length cap b' off' u.length cap' w0 (by omega) (by omega) f0 g0)
  clear hs0
  rw [hw0] at f0 f1 f2 g0 g1 g2
  go_wp2_with fail
  rw [← hw0]
  clear hw0 f0 f1 f2 g0 g1 g2
  refine ((unhide HNO) 3 (by decide)).mono ?_
  rintro ea0 wa0 ⟨rfl, hwa0⟩
  have hwb0 := hwa0.symm
  clear hwa0
  subst hwb0
  go_wp2_with fail
  refine ((unhide HNO) 4 (by decide)).mono ?_
  rintro ea1 wa1 ⟨rfl, hwa1⟩
  have hwb1 := hwa1.symm
  clear hwa1
  subst hwb1
  go_wp2_with fail
  refine ((unhide HNO) 5 (by decide)).mono ?_
  rintro ea2 wa2 ⟨rfl, hwa2⟩
  have hwb2 := hwa2.symm
  clear hwa2
  subst hwb2
  go_wp2_with fail
  refine (unhide HYES).mono ?_
  rintro ea3 wa3 ⟨rfl, hwa3⟩
  have hwb3 := hwa3.symm
  clear hwa3
  subst hwb3
  clear HNO HYES
  go_wp2_with fail
  refine (keysIn_any v b off cap _ (unhide HVV0) (hrow.below B00 hb) (Nat.lt_of_lt_of_le hb B00.size) hcap).mono ?_
  rintro ek1 wk1 ⟨sk1, rfl, hk1, hbk1⟩
  have Bk1 : Below w.heap.size w wk1 := B00.trans (hbk1.mono B00.size)
  obtain ⟨ka1, kc1, hsk1, _, _⟩ := hk1.tv
  subst hsk1
  go_wp2_with fail
  refine (keysIn_any u b' off' cap' _ (unhide HUV) (hrow'.below Bk1 hb') (Nat.lt_of_lt_of_le hb' Bk1.size) hcap').mono ?_
  rintro ek2 wk2 ⟨sk2, rfl, hk2, hbk2⟩
  have Bk2 : Below w.heap.size w wk2 := Bk1.trans (hbk2.mono Bk1.size)
  have hkq1 := hk1.below hbk2
  have hszK1 := hbk1.size
  have hszK2 := hbk2.size
  have hszK0 := B00.size
  obtain ⟨ka2, kc2, hsk2, _, _⟩ := hk2.tv
  subst hsk2
  have HK1 := hide hkq1
  have HK2 := hide hk2
  have hkbse := hide (ownsRow_base hkq1)
  have hkone := hide (texts_plain (keysAt u 0))
  have hk63 : (keysAt v 0).length + (keysAt u 0).length ≤ maxLen := by unfold maxLen; have := (unhide HKN).1; have := (unhide HKN).2; omega
  have hkby : ((keysAt v 0).length + (keysAt u 0).length) * 16 ≤ 140737488355328 := by have := (unhide HKN).1; have := (unhide HKN).2; omega
  clear hk1 hk2 hkq1
  go_wp2_with (at_builtin; refine wpList_append_row rfl (.tmp 67) (.tmp 69) 54 rfl w0.heap.size 9 t0 (.string ByteArray.empty) 16 Tryz.underlying54 ht0 hy0 hy1 hy2 rfl _ (keysAt v 0).length _ rfl (unhide HK1) wk1.heap.size 9 _ (keysAt u 0).length _ rfl (unhide HK2) (unhide hkone) hk63 hkby (by omega) ?_)
  intro vk wk hok hgk
  have hKJ := hide (KS.join hok)
  have BK : Below w.heap.size w wk := Bk2.grown hgk (by omega) (fun k hk => by have := (unhide hkbse) k hk; omega)
  have BKW : Below w0.heap.size w0 wk := (hbk1.trans (hbk2.mono hszK1)).grown hgk (by omega) (unhide hkbse)
  obtain ⟨KK, hKK⟩ : ∃ KK, KK = keysAt v 0 ++ keysAt u 0 := ⟨_, rfl⟩
  rw [← hKK] at hKJ HLJ HOM fin2
  have HKK := hide hKK
  clear hKK hok hgk HK1 HK2 hbk1 hbk2 hkone
  obtain ⟨kaJ, kcJ, hkJ, _, _⟩ := (unhide hKJ).tv
  subst hkJ
  have hRk := HR0.below BKW HR0.lt
  go_wp2_with fail
  refine (partsOf_any v b off cap _ (unhide HVV0) (hrow.below BK hb) (Nat.lt_of_lt_of_le hb BK.size) hcap).mono ?_
  rintro ep1 wp1 ⟨sp1, rfl, hp1, hbp1⟩
  have Bp1 : Below w.heap.size w wp1 := BK.trans (hbp1.mono BK.size)
  have hKJ1 := hide ((unhide hKJ).below hbp1)
  obtain ⟨pa1, pc1, hsp1, _, _⟩ := (hp1.ss).lv (unhide HNE).1
  subst hsp1
  go_wp2_with fail
  refine (partsOf_any u b' off' cap' _ (unhide HUV) (hrow'.below Bp1 hb') (Nat.lt_of_lt_of_le hb' Bp1.size) hcap').mono ?_
  rintro ep2 wp2 ⟨sp2, rfl, hp2, hbp2⟩
  have Bp2 : Below w.heap.size w wp2 := Bp1.trans (hbp2.mono Bp1.size)
  have hKJ2 := hide ((unhide hKJ1).below hbp2)
  have hq1 := (hp1.ss).below hbp2
  have hszA := hbp1.size
  have hszB := hbp2.size
  have hszC := BK.size
  obtain ⟨pa2, pc2, hsp2, _, _⟩ := (hp2.ss).lv (unhide HNE).2
  subst hsp2
  obtain ⟨ss1, hsl1, hown1, hres1⟩ := hq1
  have hp2' := hp2.ss
  obtain ⟨ss2, hsl2, hown2, hres2⟩ := hp2'
  have HO1 := hide hown1
  have HO2 := hide hown2
  have hbse1 := hide (ownsRow_base hown1)
  have hone2 := hide (SS.one (v := Value.slice pa2 (subs u 0).length pc2) hsl2 hres2)
  have hjn := hide (fun w' v' hg ho => SS.join (w' := w') (v' := v') hsl1 hown1 hres1 hsl2 hres2 (show wk.heap.size ≤ wp1.heap.size from hszA) hg ho)
  have hn63 : (subs v 0).length + (subs u 0).length ≤ maxLen := by unfold maxLen; have := (unhide HN).1; have := (unhide HN).2; omega
  have hnby : ((subs v 0).length + (subs u 0).length) * 24 ≤ 140737488355328 := by have := (unhide HN).1; have := (unhide HN).2; omega
  have hKJ3 := hide (fun (w' : World) hg => (unhide hKJ2).grown (w' := w') hown1 (by decide) hg)
  clear hown1 hown2 hres1 hres2 hsl1 hsl2 hp1 hp2
  go_wp2_with (at_builtin; refine wpList_append_row rfl (.tmp 72) (.tmp 74) 58 rfl wk.heap.size 24 i0 (.slice none 0 0) 24 Tryz.underlying58 hi hz0 hz1 hz2 rfl _ (subs v 0).length ss1 rfl (unhide HO1) wp1.heap.size 24 _ (subs u 0).length ss2 rfl (unhide HO2) (unhide hone2) hn63 hnby (by omega) ?_)
  intro vj wj hoj hgj
  have hssJ := (unhide hjn) _ _ hgj hoj
  have BJ : Below w.heap.size w wj := Bp2.grown hgj (by omega) (fun k hk => by have := (unhide hbse1) k hk; omega)
  have BJW : Below wk.heap.size wk wj := (hbp1.trans (hbp2.mono hszA)).grown hgj (by omega) (unhide hbse1)
  have hKJ4 := (unhide hKJ3) _ hgj
  clear hoj hgj HO1 HO2 hjn hone2 hbp1 hbp2
  have hRJ := hRk.below BJW hRk.lt
  have hltJ := hRJ.lt
  obtain ⟨PP, hPP⟩ : ∃ PP, PP = subs v 0 ++ subs u 0 := ⟨_, rfl⟩
  rw [← hPP] at hssJ HVV HLJ HOM fin2
  have HPP := hide hPP
  clear hPP
  obtain ⟨la, lc, hla, hlc, hlv⟩ := hssJ.lv (valid_ne (unhide HVV))
  obtain ⟨ka6, kc6, hka6, hkc6, htv6⟩ := hKJ4.tv
  cases hka6
  subst hla
  clear hssJ hKJ hKJ1 hKJ2 hKJ3 hKJ4
  go_wp2_with fail
  refine (layObjectV_any _ _ _ _ KK PP _ htv6 hlv hkc6 hlc (unhide HLJ).1 (unhide HLJ).2 (unhide HVV)).mono ?_
  rintro e6 w6 ⟨s6, rfl, hr6, hb6⟩
  have hR6 := hRJ.below hb6 hRJ.lt
  have B6 : Below w.heap.size w w6 := BJ.trans (hb6.mono BJ.size)
  clear hlv htv6
  have hsz6 := hb6.size
  have HT := hide (implTold_any s6 _ _ w6 hr6 hb6.size (unhide HOM).1 (unhide HOM).2.1 (unhide HOM).2.2)
  obtain ⟨at6, mt6, ct6, rfl⟩ := hr6.shape
  clear hr6 hb6
  generalize hR2 : told (objV KK PP) = R at *
  obtain ⟨rc, rl⟩ := R
  clear hR2
  go_wp2_with fail
  refine (unhide HT).mono ?_
  rintro e7 w7 ⟨s7, rfl, hr7, hb7⟩
  have hR7 := hR6.below hb7 hR6.lt
  have r0 := hR7.cell 0
  have r1 := hR7.cell 1
  have z0 := hR7.frozen 0
  have z1 := hR7.frozen 1
  simp only [List.getElem?_cons_zero, List.getElem?_cons_succ] at r0 r1
  have HE := hide (Ans.storeC hr7 hltJ (B6.trans (hb7.mono B6.size)))
  obtain ⟨ac, mc, cc, rfl⟩ := hr7.shape
  clear hr7 hb7 HT
  go_wp2_with fail
  refine bodyPost_ret (v := .agg #[.int .i64 rc, .slice ac mc cc]) (by simp [results, Tryz.results76, go_sem, r0, r1]) rfl (ans_of (unhide fin2) ((unhide HE) _ _).1 ((unhide HE) _ _).2)

end Go.Proofs.YtcolohilnmikiaaGreat

namespace Go.Proofs.YtcolohilnmikiaaGreat
open Go.RowKit
set_option linter.unusedVariables false

set_option maxRecDepth 100000 in
set_option maxHeartbeats 8000000 in
theorem addImpl_nl (v : List M.Cl) (b off cap : Nat) (u : List M.Cl) (b' off' cap' : Nat) (w : World) (hv : M.valueFault v = 0) (hu : M.valueFault u = 0) (hrow : Row w b off v) (hb : b < w.heap.size) (hn : v.length ≤ 1048576) (hcap : v.length ≤ cap) (hok : ∀ c ∈ v, c.ok) (hrow' : Row w b' off' u) (hb' : b' < w.heap.size) (hn' : u.length ≤ 1048576) (hcap' : u.length ≤ cap') (hok' : ∀ c ∈ u, c.ok) (k0 : (v.getD 0 M.zero).kind = 0) :
    Calls Tryz.prog 76 #[.slice (some ⟨b, off, none⟩) v.length cap, .slice (some ⟨b', off', none⟩) u.length cap'] w (Ans w (addIn v u)) := by
  have hl1 := (M.fault_zero hv).1
  have hl1' := (M.fault_zero hu).1
  have hl2 := (M.fault_zero hv).2.1
  have hl2' := (M.fault_zero hu).2.1
  have B0 : ∀ o, Below w.heap.size w (w.alloc o) := fun o => (Below.refl _ _).alloc (Nat.le_refl _) o
  have HB0 := hide B0
  clear B0
  obtain ⟨w0, hw0⟩ : ∃ w0, w0 = w.alloc (.cells #[.int .i64 0, .slice none 0 0] 26) := ⟨_, rfl⟩
  have HR0 : Own w0 w.heap.size 26 [.int .i64 0, .slice none 0 0] := by rw [hw0]; exact ⟨_, heap_alloc_new _ _, rfl⟩
  have B00 : Below w.heap.size w w0 := by rw [hw0]; exact (unhide HB0) _
  have hs0 : w0.heap.size = w.heap.size + 1 := by rw [hw0]; simp
  obtain ⟨f0, f1, f2, _, _⟩ := (hrow.below B00 hb) 0 (by omega)
  obtain ⟨g0, g1, g2, _, _⟩ := (hrow'.below B00 hb') 0 (by omega)
  simp only [Nat.zero_mul, Nat.add_zero] at f0 f1 f2 g0 g1 g2
  have hcv := code_bd (M.first_zero (M.fault_zero hv).2.2.1 _ (getD_mem v 0 (by omega)))
  have hcu := code_bd (M.first_zero (M.fault_zero hu).2.2.1 _ (getD_mem u 0 (by omega)))
  have fin := hide (add_l (u := u) k0)
  clear hv hu hok hok' hcv hcu
  rw [k0] at f0
  clear k0
  have HCL := hide (clone_any u b' off' cap' w0 (hrow'.below B00 hb') (Nat.lt_of_lt_of_le hb' B00.size) hn')
  rw [hw0] at f0 f1 f2 g0 g1 g2
  go_enter Tryz.func76, Tryz.ntmps76
  go_wp2_with fail
  rw [← hw0]
  clear hw0 f0 f1 f2 g0 g1 g2 hs0
  refine (unhide HCL).mono ?_
  rintro ec wc ⟨sc, rfl, hrc, hbc⟩
  have hRc := HR0.below hbc HR0.lt
  have r0 := hRc.cell 0
  have r1 := hRc.cell 1
  have z0 := hRc.frozen 0
  have z1 := hRc.frozen 1
  simp only [List.getElem?_cons_zero, List.getElem?_cons_succ] at r0 r1
  have HE := hide (Ans.store hrc B00 HR0.lt hbc)
  obtain ⟨ac, mc, cc, rfl⟩ := hrc.shape
  clear hrc hbc
  go_wp2_with fail
  refine bodyPost_ret (v := .agg #[.int .i64 0, .slice ac mc cc]) (by simp [results, Tryz.results76, go_sem, r0, r1]) rfl (ans_of (unhide fin) ((unhide HE) _ _).1 ((unhide HE) _ _).2)

set_option maxRecDepth 100000 in
set_option maxHeartbeats 8000000 in
theorem addImpl_nr (v : List M.Cl) (b off cap : Nat) (u : List M.Cl) (b' off' cap' : Nat) (w : World) (hv : M.valueFault v = 0) (hu : M.valueFault u = 0) (hrow : Row w b off v) (hb : b < w.heap.size) (hn : v.length ≤ 1048576) (hcap : v.length ≤ cap) (hok : ∀ c ∈ v, c.ok) (hrow' : Row w b' off' u) (hb' : b' < w.heap.size) (hn' : u.length ≤ 1048576) (hcap' : u.length ≤ cap') (hok' : ∀ c ∈ u, c.ok) (k0 : (v.getD 0 M.zero).kind ≠ 0) (k1 : (u.getD 0 M.zero).kind = 0) :
    Calls Tryz.prog 76 #[.slice (some ⟨b, off, none⟩) v.length cap, .slice (some ⟨b', off', none⟩) u.length cap'] w (Ans w (addIn v u)) := by
  have hl1 := (M.fault_zero hv).1
  have hl1' := (M.fault_zero hu).1
  have hl2 := (M.fault_zero hv).2.1
  have hl2' := (M.fault_zero hu).2.1
  have B0 : ∀ o, Below w.heap.size w (w.alloc o) := fun o => (Below.refl _ _).alloc (Nat.le_refl _) o
  have HB0 := hide B0
  clear B0
  obtain ⟨w0, hw0⟩ : ∃ w0, w0 = w.alloc (.cells #[.int .i64 0, .slice none 0 0] 26) := ⟨_, rfl⟩
  have HR0 : Own w0 w.heap.size 26 [.int .i64 0, .slice none 0 0] := by rw [hw0]; exact ⟨_, heap_alloc_new _ _, rfl⟩
  have B00 : Below w.heap.size w w0 := by rw [hw0]; exact (unhide HB0) _
  have hs0 : w0.heap.size = w.heap.size + 1 := by rw [hw0]; simp
  obtain ⟨f0, f1, f2, _, _⟩ := (hrow.below B00 hb) 0 (by omega)
  obtain ⟨g0, g1, g2, _, _⟩ := (hrow'.below B00 hb') 0 (by omega)
  simp only [Nat.zero_mul, Nat.add_zero] at f0 f1 f2 g0 g1 g2
  have hcv := code_bd (M.first_zero (M.fault_zero hv).2.2.1 _ (getD_mem v 0 (by omega)))
  have hcu := code_bd (M.first_zero (M.fault_zero hu).2.2.1 _ (getD_mem u 0 (by omega)))
  have fin := hide (add_r k0 k1)
  clear hv hu hok hok' hcv hcu
  rw [k1] at g0
  generalize v.getD 0 M.zero = c at *
  have e0 : (c.kind == 0) = false := by simp [k0]
  clear k0 k1
  have HCL := hide (clone_any v b off cap w0 (hrow.below B00 hb) (Nat.lt_of_lt_of_le hb B00.size) hn)
  rw [hw0] at f0 f1 f2 g0 g1 g2
  go_enter Tryz.func76, Tryz.ntmps76
  go_wp2_with fail
  rw [← hw0]
  clear hw0 f0 f1 f2 g0 g1 g2 hs0
  refine (unhide HCL).mono ?_
  rintro ec wc ⟨sc, rfl, hrc, hbc⟩
  have hRc := HR0.below hbc HR0.lt
  have r0 := hRc.cell 0
  have r1 := hRc.cell 1
  have z0 := hRc.frozen 0
  have z1 := hRc.frozen 1
  simp only [List.getElem?_cons_zero, List.getElem?_cons_succ] at r0 r1
  have HE := hide (Ans.store hrc B00 HR0.lt hbc)
  obtain ⟨ac, mc, cc, rfl⟩ := hrc.shape
  clear hrc hbc
  go_wp2_with fail
  refine bodyPost_ret (v := .agg #[.int .i64 0, .slice ac mc cc]) (by simp [results, Tryz.results76, go_sem, r0, r1]) rfl (ans_of (unhide fin) ((unhide HE) _ _).1 ((unhide HE) _ _).2)

set_option maxRecDepth 100000 in
set_option maxHeartbeats 8000000 in
theorem addImpl_no (v : List M.Cl) (b off cap : Nat) (u : List M.Cl) (b' off' cap' : Nat) (w : World) (hv : M.valueFault v = 0) (hu : M.valueFault u = 0) (hrow : Row w b off v) (hb : b < w.heap.size) (hn : v.length ≤ 1048576) (hcap : v.length ≤ cap) (hok : ∀ c ∈ v, c.ok) (hrow' : Row w b' off' u) (hb' : b' < w.heap.size) (hn' : u.length ≤ 1048576) (hcap' : u.length ≤ cap') (hok' : ∀ c ∈ u, c.ok) (k0 : (v.getD 0 M.zero).kind ≠ 0) (k1 : (u.getD 0 M.zero).kind ≠ 0) (hno : (v.getD 0 M.zero).kind ≠ (u.getD 0 M.zero).kind ∨ (v.getD 0 M.zero).kind = 1 ∨ (v.getD 0 M.zero).kind = 2) :
    Calls Tryz.prog 76 #[.slice (some ⟨b, off, none⟩) v.length cap, .slice (some ⟨b', off', none⟩) u.length cap'] w (Ans w (addIn v u)) := by
  have hl1 := (M.fault_zero hv).1
  have hl1' := (M.fault_zero hu).1
  have hl2 := (M.fault_zero hv).2.1
  have hl2' := (M.fault_zero hu).2.1
  have B0 : ∀ o, Below w.heap.size w (w.alloc o) := fun o => (Below.refl _ _).alloc (Nat.le_refl _) o
  have HB0 := hide B0
  clear B0
  obtain ⟨w0, hw0⟩ : ∃ w0, w0 = w.alloc (.cells #[.int .i64 0, .slice none 0 0] 26) := ⟨_, rfl⟩
  have HR0 : Own w0 w.heap.size 26 [.int .i64 0, .slice none 0 0] := by rw [hw0]; exact ⟨_, heap_alloc_new _ _, rfl⟩
  have B00 : Below w.heap.size w w0 := by rw [hw0]; exact (unhide HB0) _
  have hs0 : w0.heap.size = w.heap.size + 1 := by rw [hw0]; simp
  obtain ⟨f0, f1, f2, _, _⟩ := (hrow.below B00 hb) 0 (by omega)
  obtain ⟨g0, g1, g2, _, _⟩ := (hrow'.below B00 hb') 0 (by omega)
  simp only [Nat.zero_mul, Nat.add_zero] at f0 f1 f2 g0 g1 g2
  have hcv := code_bd (M.first_zero (M.fault_zero hv).2.2.1 _ (getD_mem v 0 (by omega)))
  have hcu := code_bd (M.first_zero (M.fault_zero hu).2.2.1 _ (getD_mem u 0 (by omega)))
  have fin := hide (show addIn v u = (6, []) by
    by_cases e : (v.getD 0 M.zero).kind = (u.getD 0 M.zero).kind
    · exact add_b e k0 (by omega) (by omega) (by omega) (by omega)
    · exact add_k k0 k1 e)
  clear hv hu hok hok' hcv hcu
  generalize v.getD 0 M.zero = c at *
  generalize u.getD 0 M.zero = d at *
  have e0 : (c.kind == 0) = false := by simp [k0]
  have e1 : (d.kind == 0) = false := by simp [k1]
  have HNO := hide (fun k hk => areBoth_no k c.kind d.kind b off v.length cap b' off' u.length cap' w0 (by omega) (by omega) f0 g0 hk)
  have q3 : c.kind ≠ 3 ∨ d.kind ≠ 3 := by omega
  have q4 : c.kind ≠ 4 ∨ d.kind ≠ 4 := by omega
  have q5 : c.kind ≠ 5 ∨ d.kind ≠ 5 := by omega
  have q6 : c.kind ≠ 6 ∨ d.kind ≠ 6 := by omega
  have Q3 := hide q3
  have Q4 := hide q4
  have Q5 := hide q5
  have Q6 := hide q6
  have r0 := HR0.cell 0
  have r1 := HR0.cell 1
  have z0 := HR0.frozen 0
  have z1 := HR0.frozen 1
  simp only [List.getElem?_cons_zero, List.getElem?_cons_succ] at r0 r1
  clear q3 q4 q5 q6 hno k0 k1
  rw [hw0] at f0 f1 f2 g0 g1 g2
  go_enter Tryz.func76, Tryz.ntmps76
  go_wp2_with fail
  rw [← hw0]
  clear hw0 f0 f1 f2 g0 g1 g2 hs0
  refine ((unhide HNO) 3 (unhide Q3)).mono ?_
  rintro ea3 wa3 ⟨rfl, hwa3⟩
  have hwb3 := hwa3.symm
  clear hwa3
  subst hwb3
  go_wp2_with fail
  refine ((unhide HNO) 4 (unhide Q4)).mono ?_
  rintro ea4 wa4 ⟨rfl, hwa4⟩
  have hwb4 := hwa4.symm
  clear hwa4
  subst hwb4
  go_wp2_with fail
  refine ((unhide HNO) 5 (unhide Q5)).mono ?_
  rintro ea5 wa5 ⟨rfl, hwa5⟩
  have hwb5 := hwa5.symm
  clear hwa5
  subst hwb5
  go_wp2_with fail
  refine ((unhide HNO) 6 (unhide Q6)).mono ?_
  rintro ea6 wa6 ⟨rfl, hwa6⟩
  have hwb6 := hwa6.symm
  clear hwa6
  subst hwb6
  go_wp2_with fail
  refine bodyPost_ret (v := .agg #[.int .i64 6, .slice none 0 0]) (by simp [results, Tryz.results76, go_sem, r0, r1]) rfl (ans_of (unhide fin) (resNil _ _) (store_below B00 _ _))

set_option maxRecDepth 100000 in
set_option maxHeartbeats 8000000 in
theorem addImpl_num (v : List M.Cl) (b off cap : Nat) (u : List M.Cl) (b' off' cap' : Nat) (w : World) (hv : M.valueFault v = 0) (hu : M.valueFault u = 0) (hrow : Row w b off v) (hb : b < w.heap.size) (hn : v.length ≤ 1048576) (hcap : v.length ≤ cap) (hok : ∀ c ∈ v, c.ok) (hrow' : Row w b' off' u) (hb' : b' < w.heap.size) (hn' : u.length ≤ 1048576) (hcap' : u.length ≤ cap') (hok' : ∀ c ∈ u, c.ok) (k3 : (v.getD 0 M.zero).kind = 3) (k3' : (u.getD 0 M.zero).kind = 3) :
    Calls Tryz.prog 76 #[.slice (some ⟨b, off, none⟩) v.length cap, .slice (some ⟨b', off', none⟩) u.length cap'] w (Ans w (addIn v u)) := by
  have hl1 := (M.fault_zero hv).1
  have hl1' := (M.fault_zero hu).1
  have hl2 := (M.fault_zero hv).2.1
  have hl2' := (M.fault_zero hu).2.1
  have B0 : ∀ o, Below w.heap.size w (w.alloc o) := fun o => (Below.refl _ _).alloc (Nat.le_refl _) o
  have HB0 := hide B0
  clear B0
  obtain ⟨w0, hw0⟩ : ∃ w0, w0 = w.alloc (.cells #[.int .i64 0, .slice none 0 0] 26) := ⟨_, rfl⟩
  have HR0 : Own w0 w.heap.size 26 [.int .i64 0, .slice none 0 0] := by rw [hw0]; exact ⟨_, heap_alloc_new _ _, rfl⟩
  have B00 : Below w.heap.size w w0 := by rw [hw0]; exact (unhide HB0) _
  have hs0 : w0.heap.size = w.heap.size + 1 := by rw [hw0]; simp
  obtain ⟨f0, f1, f2, _, _⟩ := (hrow.below B00 hb) 0 (by omega)
  obtain ⟨g0, g1, g2, _, _⟩ := (hrow'.below B00 hb') 0 (by omega)
  simp only [Nat.zero_mul, Nat.add_zero] at f0 f1 f2 g0 g1 g2
  have hcv := code_bd (M.first_zero (M.fault_zero hv).2.2.1 _ (getD_mem v 0 (by omega)))
  have hcu := code_bd (M.first_zero (M.fault_zero hu).2.2.1 _ (getD_mem u 0 (by omega)))
  have fin := hide ((add_3 k3 k3').trans (told_num _))
  rw [k3] at f0
  rw [k3'] at g0
  obtain ⟨_, _, x1, x2, _, _, x3, _⟩ := hcv
  obtain ⟨_, _, y1, y2, _, _, y3, _⟩ := hcu
  have x4 := textOk_size x3
  have y4 := textOk_size y3
  clear hv hu hok hok' k3 k3' x3 y3
  generalize v.getD 0 M.zero = c at *
  generalize u.getD 0 M.zero = d at *
  have hwrp : IntKind.i64.wrap (c.num + d.num) = c.num + d.num := IntWalk.i64_in _ ⟨by omega, by omega⟩
  have HSZ := hide (show (c.text ++ d.text).size = c.text.size + d.text.size by simp)
  have HNO := hide (fun k hk => areBoth_no k 3 3 b off v.length cap b' off' u.length cap' w0 (by omega) (by omega) f0 g0 (.inl hk))
  have HYES := hide (areBoth_yes 3 b off v.length cap b' off' u.length cap' w0 (by omega) (by omega) f0 g0)
  generalize hR2 : numOut (c.num + d.num) = R at *
  obtain ⟨rc, rl⟩ := R
  have HR2 := hide hR2
  clear hR2
  have f19 := f1
  have g19 := g1
  rw [hw0] at f0 f1 f2 g0 g1 g2
  go_enter Tryz.func76, Tryz.ntmps76
  go_wp2_with fail
  rw [← hw0]
  clear hw0 f0 f1 f2 g0 g1 g2 hs0
  refine (unhide HYES).mono ?_
  rintro ea3 wa3 ⟨rfl, hwa3⟩
  have hwb3 := hwa3.symm
  clear hwa3
  subst hwb3
  go_wp2_with fail
  go_region_with (go_at_call 41; skip; refine (numberValue_any _ _).mono ?_; rintro e7 w7 ⟨s7, rfl, hr7, hb7⟩; rw [unhide HR2] at hr7 ⊢; have hR7 := HR0.drew.below hb7 HR0.drew.lt; have r0 := hR7.cell 0; have r1 := hR7.cell 1; have z0 := hR7.frozen 0; have z1 := hR7.frozen 1; simp only [List.getElem?_cons_zero, List.getElem?_cons_succ] at r0 r1; have HE := hide (Ans.storeC hr7 (show w.heap.size < _ from by exact HR0.lt) (B00.drew.trans (hb7.mono (by exact B00.size)))); obtain ⟨ac, mc, cc, rfl⟩ := hr7.shape)
  all_goals
    go_wp2_with fail
    refine bodyPost_ret (v := .agg #[.int .i64 rc, .slice ac mc cc]) (by simp [results, Tryz.results76, go_sem, r0, r1]) rfl (ans_of (unhide fin) ((unhide HE) _ _).1 ((unhide HE) _ _).2)

set_option maxRecDepth 100000 in
set_option maxHeartbeats 8000000 in
theorem addImpl_str (v : List M.Cl) (b off cap : Nat) (u : List M.Cl) (b' off' cap' : Nat) (w : World) (hv : M.valueFault v = 0) (hu : M.valueFault u = 0) (hrow : Row w b off v) (hb : b < w.heap.size) (hn : v.length ≤ 1048576) (hcap : v.length ≤ cap) (hok : ∀ c ∈ v, c.ok) (hrow' : Row w b' off' u) (hb' : b' < w.heap.size) (hn' : u.length ≤ 1048576) (hcap' : u.length ≤ cap') (hok' : ∀ c ∈ u, c.ok) (k3 : (v.getD 0 M.zero).kind = 4) (k3' : (u.getD 0 M.zero).kind = 4) :
    Calls Tryz.prog 76 #[.slice (some ⟨b, off, none⟩) v.length cap, .slice (some ⟨b', off', none⟩) u.length cap'] w (Ans w (addIn v u)) := by
  have hl1 := (M.fault_zero hv).1
  have hl1' := (M.fault_zero hu).1
  have hl2 := (M.fault_zero hv).2.1
  have hl2' := (M.fault_zero hu).2.1
  have B0 : ∀ o, Below w.heap.size w (w.alloc o) := fun o => (Below.refl _ _).alloc (Nat.le_refl _) o
  have HB0 := hide B0
  clear B0
  obtain ⟨w0, hw0⟩ : ∃ w0, w0 = w.alloc (.cells #[.int .i64 0, .slice none 0 0] 26) := ⟨_, rfl⟩
  have HR0 : Own w0 w.heap.size 26 [.int .i64 0, .slice none 0 0] := by rw [hw0]; exact ⟨_, heap_alloc_new _ _, rfl⟩
  have B00 : Below w.heap.size w w0 := by rw [hw0]; exact (unhide HB0) _
  have hs0 : w0.heap.size = w.heap.size + 1 := by rw [hw0]; simp
  obtain ⟨f0, f1, f2, _, _⟩ := (hrow.below B00 hb) 0 (by omega)
  obtain ⟨g0, g1, g2, _, _⟩ := (hrow'.below B00 hb') 0 (by omega)
  simp only [Nat.zero_mul, Nat.add_zero] at f0 f1 f2 g0 g1 g2
  have hcv := code_bd (M.first_zero (M.fault_zero hv).2.2.1 _ (getD_mem v 0 (by omega)))
  have hcu := code_bd (M.first_zero (M.fault_zero hu).2.2.1 _ (getD_mem u 0 (by omega)))
  have fin := hide ((add_4 k3 k3').trans (told_str _))
  rw [k3] at f0
  rw [k3'] at g0
  obtain ⟨_, _, x1, x2, _, _, x3, _⟩ := hcv
  obtain ⟨_, _, y1, y2, _, _, y3, _⟩ := hcu
  have x4 := textOk_size x3
  have y4 := textOk_size y3
  clear hv hu hok hok' k3 k3' x3 y3
  generalize v.getD 0 M.zero = c at *
  generalize u.getD 0 M.zero = d at *
  have hwrp : IntKind.i64.wrap (c.num + d.num) = c.num + d.num := IntWalk.i64_in _ ⟨by omega, by omega⟩
  have HSZ := hide (show (c.text ++ d.text).size = c.text.size + d.text.size by simp)
  have HNO := hide (fun k hk => areBoth_no k 4 4 b off v.length cap b' off' u.length cap' w0 (by omega) (by omega) f0 g0 (.inl hk))
  have HYES := hide (areBoth_yes 4 b off v.length cap b' off' u.length cap' w0 (by omega) (by omega) f0 g0)
  generalize hR2 : strOut (c.text ++ d.text) = R at *
  obtain ⟨rc, rl⟩ := R
  have HR2 := hide hR2
  clear hR2
  have f19 := f2
  have g19 := g2
  rw [hw0] at f0 f1 f2 g0 g1 g2
  go_enter Tryz.func76, Tryz.ntmps76
  go_wp2_with fail
  rw [← hw0]
  clear hw0 f0 f1 f2 g0 g1 g2 hs0
  refine ((unhide HNO) 3 (by decide)).mono ?_
  rintro ea3 wa3 ⟨rfl, hwa3⟩
  have hwb3 := hwa3.symm
  clear hwa3
  subst hwb3
  go_wp2_with fail
  refine (unhide HYES).mono ?_
  rintro ea4 wa4 ⟨rfl, hwa4⟩
  have hwb4 := hwa4.symm
  clear hwa4
  subst hwb4
  go_wp2_with fail
  go_region_with (go_at_call 46; skip; refine (stringValue_any _ _ (by rw [unhide HSZ]; omega)).mono ?_; rintro e7 w7 ⟨s7, rfl, hr7, hb7⟩; rw [unhide HR2] at hr7 ⊢; have hR7 := HR0.drew.below hb7 HR0.drew.lt; have r0 := hR7.cell 0; have r1 := hR7.cell 1; have z0 := hR7.frozen 0; have z1 := hR7.frozen 1; simp only [List.getElem?_cons_zero, List.getElem?_cons_succ] at r0 r1; have HE := hide (Ans.storeC hr7 (show w.heap.size < _ from by exact HR0.lt) (B00.drew.trans (hb7.mono (by exact B00.size)))); obtain ⟨ac, mc, cc, rfl⟩ := hr7.shape)
  all_goals
    go_wp2_with fail
    refine bodyPost_ret (v := .agg #[.int .i64 rc, .slice ac mc cc]) (by simp [results, Tryz.results76, go_sem, r0, r1]) rfl (ans_of (unhide fin) ((unhide HE) _ _).1 ((unhide HE) _ _).2)

set_option maxHeartbeats 1000000 in
theorem addTwo_any (v : List M.Cl) (b off cap : Nat) (u : List M.Cl) (b' off' cap' : Nat) (w : World) (hv : M.valueFault v = 0) (hu : M.valueFault u = 0) (hrow : Row w b off v) (hb : b < w.heap.size) (hn : v.length ≤ 1048576) (hcap : v.length ≤ cap) (hok : ∀ c ∈ v, c.ok) (hrow' : Row w b' off' u) (hb' : b' < w.heap.size) (hn' : u.length ≤ 1048576) (hcap' : u.length ≤ cap') (hok' : ∀ c ∈ u, c.ok) :
    Calls Tryz.prog 76 #[.slice (some ⟨b, off, none⟩) v.length cap, .slice (some ⟨b', off', none⟩) u.length cap'] w (Ans w (addIn v u)) := by
  by_cases k0 : (v.getD 0 M.zero).kind = 0
  · exact addImpl_nl v b off cap u b' off' cap' w hv hu hrow hb hn hcap hok hrow' hb' hn' hcap' hok' k0
  by_cases k1 : (u.getD 0 M.zero).kind = 0
  · exact addImpl_nr v b off cap u b' off' cap' w hv hu hrow hb hn hcap hok hrow' hb' hn' hcap' hok' k0 k1
  by_cases hno : (v.getD 0 M.zero).kind ≠ (u.getD 0 M.zero).kind ∨ (v.getD 0 M.zero).kind = 1 ∨ (v.getD 0 M.zero).kind = 2
  · exact addImpl_no v b off cap u b' off' cap' w hv hu hrow hb hn hcap hok hrow' hb' hn' hcap' hok' k0 k1 hno
  have hl1 := (M.fault_zero hv).1
  have hcv := code_bd (M.first_zero (M.fault_zero hv).2.2.1 _ (getD_mem v 0 (by omega)))
  by_cases k3 : (v.getD 0 M.zero).kind = 3
  · exact addImpl_num v b off cap u b' off' cap' w hv hu hrow hb hn hcap hok hrow' hb' hn' hcap' hok' k3 (by omega)
  by_cases k4 : (v.getD 0 M.zero).kind = 4
  · exact addImpl_str v b off cap u b' off' cap' w hv hu hrow hb hn hcap hok hrow' hb' hn' hcap' hok' k4 (by omega)
  by_cases k5 : (v.getD 0 M.zero).kind = 5
  · exact addImpl_arr v b off cap u b' off' cap' w hv hu hrow hb hn hcap hok hrow' hb' hn' hcap' hok' k5 (by omega)
  · exact addImpl_obj v b off cap u b' off' cap' w hv hu hrow hb hn hcap hok hrow' hb' hn' hcap' hok' (by omega) (by omega)

end Go.Proofs.YtcolohilnmikiaaGreat
