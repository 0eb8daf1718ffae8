/-
  impl.SetKey.
  impl.setSteps, impl.setMember and impl.setElement.
-/
import Derived.Test.YtcglddahphkcpaaGreatDoorU10
import Derived.Test.YtcglddahphkcpaaGreatDoorU16
import Derived.Test.YtcglddahphkcpaaGreatDoorU17
import Derived.Test.YtcglddahphkcpaaGreatDoorU18
import Derived.Test.YtcglddahphkcpaaGreatDoorU20
namespace Go.Proofs.YtcglddahphkcpaaGreatDoor
open Go.RowKit
set_option linter.unusedVariables false

set_option maxRecDepth 100000 in
set_option maxHeartbeats 4000000 in
theorem implSetKey_any (v : List M.Cl) (b off cap : Nat) (key : ByteArray) (u : List M.Cl) (b' off' cap' : Nat) (w : World) (hrow : Row w b off v) (hb : b < w.heap.size) (hn : v.length ≤ 1048576) (hcap : v.length ≤ cap) (hok : ∀ c ∈ v, c.ok) (hrow' : Row w b' off' u) (hb' : b' < w.heap.size) (hn' : u.length ≤ 1048576) (hcap' : u.length ≤ cap') (hok' : ∀ c ∈ u, c.ok) (hk : key.size ≤ 9223372036854775807) :
    Calls Tryz.prog 179 #[.slice (some ⟨b, off, none⟩) v.length cap, .string key, .slice (some ⟨b', off', none⟩) u.length cap'] w (Ans w (setOut v key u)) := by
  have OK := hide hok
  have OK' := hide hok'
  have B0 : ∀ o, Below w.heap.size w (w.alloc o) := fun o => (Below.refl _ _).alloc (Nat.le_refl _) o
  have HB0 := hide B0
  clear B0
  have HKF := hide (fun o => keyedFault_any key (some ⟨w.heap.size + 1, 0, none⟩) 2 [v, u] ((w.alloc o).alloc (.cells #[.slice (some ⟨b, off, none⟩) v.length cap, .slice (some ⟨b', off', none⟩) u.length cap'] 24)) (LV.two (w.alloc o) (w.heap.size + 1) b off cap b' off' cap' v u 24 (by simp) (hrow.below ((unhide HB0) _) hb) (by simp; omega) hcap (hrow'.below ((unhide HB0) _) hb') (by simp; omega) hcap') (by simp) (by simp) (len_two hn hn') (okS_two hok hok') hk)
  simp only [List.length_cons, List.length_nil, Nat.zero_add] at HKF
  clear hok hok'
  go_enter Tryz.func179, Tryz.ntmps179
  go_wp2_with fail
  refine ((unhide HKF) _).mono ?_
  rintro e1 w1 ⟨rfl, hb1⟩
  have hR : Own w1 w.heap.size 59 [.int .i64 0, .slice none 0 0] := Own.below (Own.alloc ⟨_, heap_alloc_new _ _, rfl⟩ _) hb1 (by simp; omega)
  have B1 : Below w.heap.size w w1 := (((unhide HB0) _).alloc (by simp) _).trans (hb1.mono (by simp; omega))
  have hrow1 := hrow.below B1 hb
  have hb1' : b < w1.heap.size := Nat.lt_of_lt_of_le hb B1.size
  have hrow2 := hrow'.below B1 hb'
  have hb2' : b' < w1.heap.size := Nat.lt_of_lt_of_le hb' B1.size
  clear hb1 HKF
  by_cases hq : bothOut v u = 0
  · obtain ⟨hv, hu⟩ := both_zero hq
    by_cases ht : M.textOk key = true
    · have hko : keyedOut [v, u] key = 0 := by unfold keyedOut; rw [firstBad_both, if_neg (by simp [hq]), if_pos ht]
      rw [hko]
      clear hko
      have fin := hide (set_ok hq ht)
      have hl1 := (M.fault_zero hv).1
      obtain ⟨f0, _, _, _, _⟩ := hrow1 0 (by omega)
      simp only [Nat.zero_mul, Nat.add_zero] at f0
      by_cases kk : (v.getD 0 M.zero).kind = 0 ∨ (v.getD 0 M.zero).kind = 6
      · have fin2 := hide ((unhide fin).trans (set_some kk))
        clear hq fin
        rcases kk with kk | kk
        all_goals
          rw [kk] at f0
          clear kk
          have HK := hide (keysIn_any v b off cap w1 hv hrow1 hb1' hcap)
          have HPF := hide (fun w' (r : Row w' b off v) hb' => partsOf_any v b off cap w' hv r hb' hcap)
          have hall := subs_all hv (unhide OK)
          have hom := obj_made (ks := keysAt v 0 ++ [key]) (ps := subs v 0 ++ [u]) (by simp [keysAt_length, subs_length]) (by have := hall.1; rw [subs_length] at this; simp [keysAt_length]; omega) (parts_snoc (P := fun p => M.valueFault p = 0) hall.2.1 hu) (parts_snoc (P := fun p => ∀ c ∈ p, c.ok) hall.2.2.1 (unhide OK')) (texts_snoc (keys_text hv) ht)
          have hvv := parts_snoc (P := fun p => M.valueFault p = 0) hall.2.1 hu
          have hlen : (keysAt v 0 ++ [key]).length = (subs v 0 ++ [u]).length ∧ (keysAt v 0 ++ [key]).length ≤ 4096 := ⟨by simp [keysAt_length, subs_length], by have := hall.1; rw [subs_length] at this; simp [keysAt_length]; omega⟩
          obtain ⟨KK, hKK⟩ : ∃ KK, KK = keysAt v 0 ++ [key] := ⟨_, rfl⟩
          obtain ⟨PP, hPP⟩ : ∃ PP, PP = subs v 0 ++ [u] := ⟨_, rfl⟩
          rw [← hKK, ← hPP] at hom hlen
          rw [← hPP] at hvv
          rw [← hKK, ← hPP] at fin2
          have HOM := hide hom
          have HVV := hide hvv
          have HLEN := hide hlen
          have HKK := hide hKK
          have HPP := hide hPP
          have hm200 : M.arity v 0 ≤ 200 := by have := hall.1; rwa [subs_length] at this
          have HNE := hide hall.2.2.2
          have HKL := hide (keysAt_length v 0)
          have HSL := hide (subs_length v 0)
          obtain ⟨i0, hi, hz0, hz1, hz2⟩ := info_parts Tryz.info24
          obtain ⟨t0, ht0, hy0, hy1, hy2⟩ := info_parts Tryz.info9
          clear hv hu ht hall hom hvv hlen hKK hPP
          go_wp2_with fail
          refine (unhide HK).mono ?_
          rintro e2 w2 ⟨s2, rfl, hk2, hb2⟩
          have hR2 := hR.below hb2 hR.lt
          have B2 : Below w.heap.size w w2 := B1.trans (hb2.mono B1.size)
          have hsz2 := hb2.size
          obtain ⟨ka2, kc2, rfl, _, _⟩ := hk2.tv
          have hkownk := hide (fun o => (KS.row (hk2) (unhide HKL)).alloc o)
          have hkbsek := hide (ownsRow_base (hk2))
          have hkonek := hide (one_val w2 (.string key) 9)
          have hkonepk := hide (app_string key)
          have hk63k : (M.arity v 0) + 1 ≤ maxLen := by unfold maxLen; omega
          have hkbyk : ((M.arity v 0) + 1) * 16 ≤ 140737488355328 := by omega
          go_wp2_with (at_builtin; refine wpList_append_own _ rfl (.tmp 31) (.tmp 33) 69 rfl (w1.heap.size) 9 t0 (.string ByteArray.empty) 1 16 Tryz.underlying69 ht0 hy0 hy1 hy2 rfl (by decide) _ (M.arity v 0) _ rfl ((unhide hkownk) _) ⟨w2.heap.size, 0, none⟩ 1 1 [.string key] rfl rfl (unhide hkonek) (unhide hkonepk) hk63k hkbyk (by simp; omega) ?_)
          intro kvk w3 hkok hkgk _
          have hk3 := hide (KS.snoc (unhide HKL) hkok)
          rw [← unhide HKK] at hk3
          have B3 : Below w1.heap.size w1 w3 := ((hb2.alloc hb2.size _).grown hkgk (by simp; omega) (unhide hkbsek))
          have hR3 := hR.below B3 hR.lt
          have B3' : Below w.heap.size w w3 := B1.trans (B3.mono B1.size)
          clear hb2 hkok hkgk hk2 hkownk hkonek HK hR2 B2
          obtain ⟨ka3, kc3, hka3, hkc3, htv3⟩ := (unhide hk3).tv
          subst hka3
          go_wp2_with fail
          refine ((unhide HPF) _ (hrow.below B3' hb) (Nat.lt_of_lt_of_le hb B3'.size)).mono ?_
          rintro e4 w4 ⟨s4, rfl, hs4, hb4⟩
          have hss4 : SS w4 w3.heap.size s4 (subs v 0) := hs4.ss
          have hk4 := hide ((unhide hk3).below hb4)
          have B4 : Below w.heap.size w w4 := B3'.trans (hb4.mono B3'.size)
          have hR4 := hR3.below hb4 hR3.lt
          have hsz4 := hb4.size
          have hsz3 := B3'.size
          have hsz5 := B4.size
          have hbse4 := hide (fun (xs : List Value) (h : w4.ownsRow w3.heap.size 24 1 s4 (subs v 0).length xs) => ownsRow_base h)
          obtain ⟨ss4, hsl4, hown4, hres4⟩ := hss4
          have hrow4 := hrow'.below B4 hb'
          have hlk4 := unhide HSL
          have hown5 := hide (fun o => (hlk4 ▸ hown4 : World.ownsRow w4 w3.heap.size 24 1 _ (M.arity v 0) ss4).alloc o)
          have hbse5 := hide (ownsRow_base hown4)
          have hone5 := hide (one_val w4 (.slice (some ⟨b', off', none⟩) u.length cap') 24)
          have honep5 := hide (one_plain' (some ⟨b', off', none⟩) u.length cap')
          have hkg5 := hide (fun (w' : World) o hg => ((unhide hk4).alloc o).grown (w' := w') (hown4.alloc o) (by decide) hg)
          have hlv5 := hide (fun w' o v' hg ho hr hbb => SS.lvSnoc (w3 := w') (o := o) (v' := v') (u := u) (b := b') (off := off') (cap := cap') hlk4 hsl4 hown4 hres4 (unhide HNE) hg ho hr hbb hcap')
          have hb635 : M.arity v 0 + 1 ≤ maxLen := by unfold maxLen; omega
          have hby5 : (M.arity v 0 + 1) * 24 ≤ 140737488355328 := by omega
          obtain ⟨sa4, sn4, sc4, hsh4⟩ : ∃ x y z, s4 = Value.slice x y z := by
            rcases hown4.2 with ⟨h, _⟩ | ⟨_, _, _, h, _⟩
            · exact ⟨_, _, _, h⟩
            · exact ⟨_, _, _, h⟩
          subst hsh4
          clear hs4 hres4 hsl4 hown4 hlk4 hbse4 htv3 HPF B3' B3
          generalize hm : M.arity v 0 = m at *
          clear hm
          go_wp2_with (at_builtin; refine wpList_append_own _ rfl (.tmp 36) (.tmp 38) 28 rfl w3.heap.size 24 i0 (.slice none 0 0) 1 24 Tryz.underlying28 hi hz0 hz1 hz2 rfl (by decide) _ m ss4 rfl ((unhide hown5) _) ⟨w4.heap.size, 0, none⟩ 1 1 [.slice (some ⟨b', off', none⟩) u.length cap'] rfl rfl (unhide hone5) (unhide honep5) hb635 hby5 (by simp; omega) ?_)
          intro v5 w5 ho5 hg5 _
          have B5 : Below w3.heap.size w3 w5 := ((hb4.alloc hb4.size _).grown hg5 (by simp; omega) (unhide hbse5))
          have B5' : Below w.heap.size w w5 := (B4.alloc B4.size _).grown hg5 (by simp; omega) (fun k hk => by have := (unhide hbse5) k hk; omega)
          have hRx : Own w5 w.heap.size 59 [.int .i64 0, .slice none 0 0] := hR3.below B5 hR3.lt
          have hk5 := (unhide hkg5) _ _ hg5
          have h5 := (unhide hlv5) _ _ _ hg5 ho5 (hrow'.below B5' hb') (Nat.lt_of_lt_of_le hb' B5'.size)
          rw [← unhide HPP] at h5
          obtain ⟨la5, lc5, hla5, hlc5, hlv5'⟩ := h5
          obtain ⟨ka5, kc5, hka5, hkc5, htv5⟩ := hk5.tv
          cases hka5
          subst hla5
          clear ho5 hg5 hk5 hk4 hkg5 hlv5 hown5 hone5 hR4 B4 B5 hb4
          go_wp2_with fail
          refine (layObjectV_any _ _ _ _ KK PP _ htv5 hlv5' hkc5 hlc5 (unhide HLEN).1 (unhide HLEN).2 (unhide HVV)).mono ?_
          rintro e6 w6 ⟨s6, rfl, hr6, hb6⟩
          have hR6 := hRx.below hb6 hRx.lt
          have hlt5 := hRx.lt
          have B6 : Below w.heap.size w w6 := B5'.trans (hb6.mono B5'.size)
          have HT := hide (implTold_any s6 _ _ w6 hr6 hb6.size (unhide HOM).1 (unhide HOM).2.1 (unhide HOM).2.2)
          obtain ⟨at6, mt6, ct6, rfl⟩ := hr6.shape
          clear hr6 hb6 hlv5' htv5 hRx B5'
          generalize hR2 : told (objV KK PP) = R at *
          obtain ⟨rc, rl⟩ := R
          clear hR2
          go_wp2_with fail
          refine (unhide HT).mono ?_
          rintro e7 w7 ⟨s7, rfl, hr7, hb7⟩
          have hR7 := hR6.below hb7 hR6.lt
          have r0 := hR7.cell 0
          have r1 := hR7.cell 1
          have z0 := hR7.frozen 0
          have z1 := hR7.frozen 1
          simp only [List.getElem?_cons_zero, List.getElem?_cons_succ] at r0 r1
          have HE := hide (Ans.storeC hr7 hlt5 (B6.trans (hb7.mono B6.size)))
          obtain ⟨ac, mc, cc, rfl⟩ := hr7.shape
          clear hr7 hb7 HT
          go_wp2_with fail
          refine bodyPost_ret (v := .agg #[.int .i64 rc, .slice ac mc cc]) (by simp [results, Tryz.results179, go_sem, r0, r1]) rfl (ans_of (unhide fin2) ((unhide HE) _ _).1 ((unhide HE) _ _).2)
      · have h0 : (v.getD 0 M.zero).kind ≠ 0 := fun e => kk (.inl e)
        have h6 : (v.getD 0 M.zero).kind ≠ 6 := fun e => kk (.inr e)
        have fin2 := hide ((unhide fin).trans (set_kind h0 h6))
        generalize v.getD 0 M.zero = c at *
        have n0 : (c.kind != 0) = true := by simp [h0]
        have n6 : (c.kind != 6) = true := by simp [h6]
        have r0 := hR.cell 0
        have r1 := hR.cell 1
        have z0 := hR.frozen 0
        have z1 := hR.frozen 1
        simp only [List.getElem?_cons_zero, List.getElem?_cons_succ] at r0 r1
        clear h0 h6 kk fin hv ht hq hu
        go_wp2_with fail
        refine bodyPost_ret (v := .agg #[.int .i64 6, .slice none 0 0]) (by simp [results, Tryz.results179, go_sem, r0, r1]) rfl (ans_of (unhide fin2) (resNil _ _) (store_below B1 _ _))
    · have ht' : M.textOk key = false := by simpa using ht
      have hko : keyedOut [v, u] key = 5 := by unfold keyedOut; rw [firstBad_both, if_neg (by simp [hq]), if_neg ht]
      rw [hko]
      have fin := hide (set_text hq ht')
      have r0 := hR.cell 0
      have r1 := hR.cell 1
      have z0 := hR.frozen 0
      have z1 := hR.frozen 1
      simp only [List.getElem?_cons_zero, List.getElem?_cons_succ] at r0 r1
      clear hko ht ht' hv hu hq
      go_wp2_with fail
      refine bodyPost_ret (v := .agg #[.int .i64 5, .slice none 0 0]) (by simp [results, Tryz.results179, go_sem, r0, r1]) rfl (ans_of (unhide fin) (resNil _ _) (store_below B1 _ _))
  · have hko : keyedOut [v, u] key = bothOut v u := by unfold keyedOut; rw [firstBad_both, if_pos hq]
    have fin := hide (set_bad (key := key) hq)
    rw [hko]
    clear hko
    generalize bothOut v u = q at *
    have hz' : (q == 0) = false := by simp [hq]
    have r0 := hR.cell 0
    have r1 := hR.cell 1
    have z0 := hR.frozen 0
    have z1 := hR.frozen 1
    simp only [List.getElem?_cons_zero, List.getElem?_cons_succ] at r0 r1
    clear hq
    go_wp2_with fail
    refine bodyPost_ret (v := .agg #[.int .i64 q, .slice none 0 0]) (by simp [results, Tryz.results179, go_sem, r0, r1]) rfl (ans_of (unhide fin) (resNil _ _) (store_below B1 _ _))

end Go.Proofs.YtcglddahphkcpaaGreatDoor

namespace Go.Proofs.YtcglddahphkcpaaGreatDoor
open Go.RowKit
set_option linter.unusedVariables false

/-- What SetPath tells of a string and the steps behind it. -/
def Pth.memOut (v : List M.Cl) (key : ByteArray) (cs x : List M.Cl) : Int × List M.Cl :=
  if (getOut v key).1 = 0 then (if (Pth.setS (getOut v key).2 cs x).1 = 0 then setOut v key (Pth.setS (getOut v key).2 cs x).2 else Pth.setS (getOut v key).2 cs x) else getOut v key
theorem Pth.mem_no {v : List M.Cl} {key : ByteArray} {cs x : List M.Cl} {R : Int × List M.Cl} (h : getOut v key = R) (hz : R.1 ≠ 0) : Pth.memOut v key cs x = R := by unfold Pth.memOut; rw [h, if_neg hz]
theorem Pth.mem_in {v : List M.Cl} {key : ByteArray} {cs x l : List M.Cl} {R : Int × List M.Cl} (h : getOut v key = (0, l)) (h2 : Pth.setS l cs x = R) (hz : R.1 ≠ 0) : Pth.memOut v key cs x = R := by unfold Pth.memOut; rw [h]; simp only [if_pos, h2]; rw [if_neg hz]
theorem Pth.mem_ok {v : List M.Cl} {key : ByteArray} {cs x l l2 : List M.Cl} (h : getOut v key = (0, l)) (h2 : Pth.setS l cs x = (0, l2)) : Pth.memOut v key cs x = setOut v key l2 := by unfold Pth.memOut; rw [h]; simp only [if_pos, h2]
/-- What setSteps says of steps. -/
def Pth.SetI (cs x : List M.Cl) : Prop := ∀ (v : List M.Cl) (b off cap b' o cap' bx ox cx : Nat) (w : World), M.valueFault v = 0 → Row w b off v → b < w.heap.size → v.length ≤ cap → Row w b' o cs → b' < w.heap.size → cs.length ≤ cap' → cap' ≤ 9223372036854775807 → Row w bx ox x → bx < w.heap.size → x.length ≤ cx →
  Calls Tryz.prog 80 #[.slice (some ⟨b, off, none⟩) v.length cap, .slice (some ⟨b', o, none⟩) cs.length cap', .slice (some ⟨bx, ox, none⟩) x.length cx] w (Ans w (Pth.setS v cs x))
/-- What was told lies behind the answer's own block: it is put there. -/
theorem Pth.ret {w W : World} {s : Value} {l : List M.Cl} (hr : Res W (w.heap.size + 1) s l) (B : Below w.heap.size w W) (x y : Value) :
    Res ((W.setCell ⟨w.heap.size, 0, none⟩ x).setCell ⟨w.heap.size, 1, none⟩ y) w.heap.size s l ∧ Below w.heap.size w ((W.setCell ⟨w.heap.size, 0, none⟩ x).setCell ⟨w.heap.size, 1, none⟩ y) := by
  have hne : ∀ b, s.ownBlock = some b → b ≠ w.heap.size := fun b h => by have := hr.base b h; omega
  exact ⟨((hr.mono (by omega)).setOther _ _ hne).setOther _ _ hne, (B.setCell (Nat.le_refl _) _).setCell (Nat.le_refl _) _⟩

set_option maxRecDepth 100000 in
set_option maxHeartbeats 1000000 in
theorem setMember_any (cs x : List M.Cl) (ih : Hid (Pth.SetI cs x)) (hx : M.valueFault x = 0) (v : List M.Cl) (key : ByteArray) (b off cap b' o cap' bx ox cx : Nat) (w : World) (hv : M.valueFault v = 0) (ht : M.textOk key = true) (hrow : Row w b off v) (hb : b < w.heap.size) (hcap : v.length ≤ cap) (hrow' : Row w b' o cs) (hb' : b' < w.heap.size) (hcap' : cs.length ≤ cap') (hc' : cap' ≤ 9223372036854775807) (hrowx : Row w bx ox x) (hbx : bx < w.heap.size) (hcx : x.length ≤ cx) :
    Calls Tryz.prog 139 #[.slice (some ⟨b, off, none⟩) v.length cap, .string key, .slice (some ⟨b', o, none⟩) cs.length cap', .slice (some ⟨bx, ox, none⟩) x.length cx] w (Ans w (Pth.memOut v key cs x)) := by
  have hks := textOk_size ht
  have hlen := (Pth.lens hv).2
  have ROWS := hide (fun W (h : Below w.heap.size w W) => And.intro (hrow.below h hb) (And.intro (hrow'.below h hb') (hrowx.below h hbx)))
  have HGK := hide (fun W (h : Below w.heap.size w W) => implGetKey_any v b off cap key W (hrow.below h hb) (Nat.lt_of_lt_of_le hb h.size) (by omega) hcap (Pth.oks hv) (by omega))
  have HSK := hide (fun W (h : Below w.heap.size w W) u b2 c2 (hu : M.valueFault u = 0) (r : Row W b2 0 u) (hb2 : b2 < W.heap.size) (hc2 : u.length ≤ c2) => implSetKey_any v b off cap key u b2 0 c2 W (hrow.below h hb) (Nat.lt_of_lt_of_le hb h.size) (by omega) hcap (Pth.oks hv) r hb2 (by have := (Pth.lens hu).2; omega) hc2 (Pth.oks hu) (by omega))
  rw [gk_ok hv ht] at HGK
  have HGD := hide (Pth.get_gd hv key)
  have HIH := hide (fun u b2 c2 W (h : Below w.heap.size w W) hu r hb2 hc2 => ih.out u b2 0 c2 b' o cap' bx ox cx W hu r hb2 hc2 (hrow'.below h hb') (Nat.lt_of_lt_of_le hb' h.size) hcap' hc' (hrowx.below h hbx) (Nat.lt_of_lt_of_le hbx h.size) hcx)
  have SGD := hide (fun u (hu : M.valueFault u = 0) => Pth.setS_gd hu hx cs)
  have B0 : ∀ o, Below w.heap.size w (w.alloc o) := fun o => (Below.refl _ _).alloc (Nat.le_refl _) o
  have HB0 := hide B0
  clear ih B0 hrow hrow' hrowx
  generalize hR : getOut v key = R at *
  have HRR := hide hR
  clear hR
  obtain ⟨rc, rl⟩ := R
  go_enter Tryz.func139, Tryz.ntmps139
  go_wp2_with fail
  refine ((unhide HGK) _ ((unhide HB0) _)).mono ?_
  rintro e1 w1 ⟨s1, rfl, hr1, hb1⟩
  simp only [World.size_alloc] at hr1 hb1
  have hR1 : Own w1 w.heap.size 59 [.int .i64 0, .slice none 0 0] := Own.below ⟨_, heap_alloc_new _ _, rfl⟩ hb1 (by omega)
  have B1 : Below w.heap.size w w1 := ((unhide HB0) _).trans (hb1.mono (by omega))
  have L1 := hb1.size
  simp only [World.size_alloc] at L1
  obtain ⟨a1, n1, c1, rfl⟩ := hr1.shape
  obtain ⟨W1, hW1⟩ : ∃ W1, W1 = w1.alloc (.cells #[.int .i64 rc, .slice a1 n1 c1] 59) := ⟨_, rfl⟩
  have O1 : Own W1 w1.heap.size 59 [.int .i64 rc, .slice a1 n1 c1] := by rw [hW1]; exact ⟨_, heap_alloc_new _ _, rfl⟩
  have R1 : Own W1 w.heap.size 59 [.int .i64 0, .slice none 0 0] := by rw [hW1]; exact hR1.alloc _
  have V1 : Res W1 (w.heap.size + 1) (.slice a1 n1 c1) rl := by rw [hW1]; exact hr1.alloc _
  have C1 : Below w.heap.size w W1 := by rw [hW1]; exact B1.alloc B1.size _
  have S1 : w1.heap.size < W1.heap.size := by rw [hW1]; simp
  clear hR1 hr1 hb1 B1 HGK
  generalize hg1 : w1.heap.size = g1 at *
  have p0 := R1.cell 0
  have p1 := R1.cell 1
  have y0 := R1.frozen 0
  have y1 := R1.frozen 1
  have q0 := O1.cell 0
  have q1 := O1.cell 1
  simp only [List.getElem?_cons_zero, List.getElem?_cons_succ] at p0 p1 q0 q1
  go_upto_region 2 with fail
  rw [← hW1]
  clear hW1 hg1
  by_cases hz : rc = 0
  · subst hz
    have hrl := (unhide HGD).ok rfl
    obtain ⟨b1, c1', hsh, hc1, hl1, hlt1, hrw1⟩ := V1.rowedQ (Pth.val_ne hrl)
    simp only [Value.slice.injEq] at hsh
    obtain ⟨rfl, rfl, rfl⟩ := hsh
    have HC := hide ((unhide HIH) rl b1 c1 W1 C1 hrl hrw1 hlt1 hc1)
    have SG := hide ((unhide SGD) rl hrl)
    have EIN := hide (fun R h2 hz => Pth.mem_in (cs := cs) (x := x) (R := R) (unhide HRR) h2 hz)
    have EOK := hide (fun l2 h2 => Pth.mem_ok (cs := cs) (x := x) (l2 := l2) (unhide HRR) h2)
    clear V1 hrw1 HIH SGD HRR HGD
    generalize hR2 : Pth.setS rl cs x = R2 at *
    have HR2 := hide hR2
    clear hR2
    obtain ⟨rc2, rl2⟩ := R2
    have B1 := Below.refl W1.heap.size W1
    go_wp2_with fail
    refine (unhide HC).mono ?_
    rintro e2 w2 ⟨s2, rfl, hr2, hb2⟩
    obtain ⟨a2, n2, c2, rfl⟩ := hr2.shape
    obtain ⟨W2, hW2⟩ : ∃ W2, W2 = w2.alloc (.cells #[.int .i64 rc2, .slice a2 n2 c2] 59) := ⟨_, rfl⟩
    have O2 : Own W2 w2.heap.size 59 [.int .i64 rc2, .slice a2 n2 c2] := by rw [hW2]; exact ⟨_, heap_alloc_new _ _, rfl⟩
    have R2 : Own W2 w.heap.size 59 [.int .i64 0, .slice none 0 0] := by rw [hW2]; exact (R1.below hb2 R1.lt).alloc _
    have V2 : Res W2 (w.heap.size + 1) (.slice a2 n2 c2) rl2 := by rw [hW2]; exact (hr2.alloc _).mono (by omega)
    have C2 : Below w.heap.size w W2 := by rw [hW2]; exact (C1.trans (hb2.mono C1.size)).alloc (by have := C1.size; have := hb2.size; omega) _
    clear p0 p1 y0 y1 q0 q1 O1 R1 hr2 hb2 HC B1 C1
    generalize hg2 : w2.heap.size = g2 at *
    have p0 := R2.cell 0
    have p1 := R2.cell 1
    have y0 := R2.frozen 0
    have y1 := R2.frozen 1
    have q0 := O2.cell 0
    have q1 := O2.cell 1
    simp only [List.getElem?_cons_zero, List.getElem?_cons_succ] at p0 p1 q0 q1
    go_upto_region 5 with fail
    rw [← hW2]
    clear hW2 hg2
    by_cases hz2 : rc2 = 0
    · subst hz2
      have hr0 := (unhide SG).ok rfl
      obtain ⟨b2, c2', hsh, hc2, hl2, hlt2, hrw2⟩ := V2.rowedQ (Pth.val_ne hr0)
      simp only [Value.slice.injEq] at hsh
      obtain ⟨rfl, rfl, rfl⟩ := hsh
      have HC := hide ((unhide HSK) W2 C2 rl2 b2 c2 hr0 hrw2 hlt2 hc2)
      have E := hide ((unhide EOK) rl2 rfl)
      have R2' := hide R2
      clear V2 hrw2 SG EIN EOK HR2 HSK O2 R2
      generalize setOut v key rl2 = R3 at *
      obtain ⟨rc3, rl3⟩ := R3
      go_wp2_with fail
      refine (unhide HC).mono ?_
      rintro e3 w3 ⟨s3, rfl, hr3, hb3⟩
      obtain ⟨a3, n3, c3, rfl⟩ := hr3.shape
      have R3 := (unhide R2').below hb3 (unhide R2').lt
      have F := hide (Pth.ret (hr3.mono (by have := (unhide R2').lt; omega)) (C2.trans (hb3.mono C2.size)))
      clear p0 p1 y0 y1 q0 q1 hr3 hb3 HC
      have p0 := R3.cell 0
      have p1 := R3.cell 1
      have y0 := R3.frozen 0
      have y1 := R3.frozen 1
      simp only [List.getElem?_cons_zero, List.getElem?_cons_succ] at p0 p1
      go_wp2_with fail
      refine bodyPost_ret (v := .agg #[.int .i64 rc3, .slice a3 n3 c3]) (by simp [results, Tryz.results139, go_sem, p0, p1]) rfl (ans_of (unhide E) ((unhide F) _ _).1 ((unhide F) _ _).2)
    · have E := hide ((unhide EIN) _ rfl hz2)
      have F := hide (Pth.ret V2 C2)
      have hz' : (rc2 == 0) = false := by simp [hz2]
      clear V2 SG EIN EOK HR2 HSK O2 R2 hz2
      go_wp2_with fail
      refine bodyPost_ret (v := .agg #[.int .i64 rc2, .slice a2 n2 c2]) (by simp [results, Tryz.results139, go_sem, p0, p1]) rfl (ans_of (unhide E) ((unhide F) _ _).1 ((unhide F) _ _).2)
  · have E := hide (Pth.mem_no (cs := cs) (x := x) (unhide HRR) hz)
    have F := hide (Pth.ret V1 C1)
    have hz' : (rc == 0) = false := by simp [hz]
    clear V1 HIH SGD HRR HGD O1 R1 hz
    go_wp2_with fail
    refine bodyPost_ret (v := .agg #[.int .i64 rc, .slice a1 n1 c1]) (by simp [results, Tryz.results139, go_sem, p0, p1]) rfl (ans_of (unhide E) ((unhide F) _ _).1 ((unhide F) _ _).2)
end Go.Proofs.YtcglddahphkcpaaGreatDoor
