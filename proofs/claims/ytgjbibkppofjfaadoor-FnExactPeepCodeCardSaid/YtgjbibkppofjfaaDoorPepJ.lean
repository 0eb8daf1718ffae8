/-
  impl.PeepCode.
-/
import Derived.Test.YtgjbibkppofjfaaDoorPepI
import Derived.Test.YtgjbibkppofjfaaDoorPepS
namespace Go.Proofs.YtgjbibkppofjfaaDoor
open Go.RowKit
set_option linter.unusedVariables false
set_option linter.unusedSimpArgs false


theorem peep_list (c : Int) (s : Value) (w : World) : (Instr.field 47 (.agg #[.int .i64 c, s]) 1).run Tryd.prog w = .ok s w := by kernel_rfl
theorem resI_view {w : World} {B : Nat} {s : Value} {l : List Int} (h : ResI w B s l) : ∃ a c, s = .slice a l.length c ∧ ∀ k, k < l.length → ∃ g, a = some ⟨g, 0, none⟩ ∧ w.cell? ⟨g, k, none⟩ = some (.int .i64 (l.getD k 0)) := by
  obtain ⟨hn, ⟨h1, h2⟩ | ⟨b, cap, h1, h2, h3, h4⟩⟩ := h
  · exact ⟨none, 0, by rw [h1, h2]; rfl, fun k hk => by rw [h2] at hk; cases hk⟩
  · exact ⟨_, cap, h1, fun k hk => ⟨b, rfl, h4.cell hk⟩⟩
set_option maxRecDepth 100000 in
set_option maxHeartbeats 8000000 in
theorem implPeep_any (b : Nat) (l : List Ic) (rg : Int) (w : World) (hrow : Ic.Row w b l) (hb : b < w.heap.size) (hsz : ∀ i, i < l.length → (l.getD i Ic.zero).val.length ≤ 1048576) (hok : ∀ c ∈ l, c.ok) (hn : l.length ≤ 1048576) (hS : Shp w) :
    Calls Tryd.prog 7 #[.slice (some ⟨b, 0, none⟩) l.length l.length, .int .i64 rg] w (Pe.Said w l rg) := by
  obtain ⟨w0, hw0⟩ : ∃ w0, w0 = w.alloc (.cells #[.int .i64 0, .int .i64 0, .slice none 0 0, .int .i64 0] 26) := ⟨_, rfl⟩
  have B0 : Below w.heap.size w w0 := by rw [hw0]; exact (Below.refl _ _).alloc (Nat.le_refl _) _
  have O0 : Own w0 w.heap.size 26 [.int .i64 0, .int .i64 0, .slice none 0 0, .int .i64 0] := by rw [hw0]; exact ⟨_, heap_alloc_new _ _, rfl⟩
  have hs0 : w0.heap.size = w.heap.size + 1 := by rw [hw0]; simp
  have HC := hide (implCode_any b l rg w0 (hrow.below B0 hb) (Nat.lt_of_lt_of_le hb B0.size) hsz hok hn (hS.below B0))
  have HBAD := hide (fun h => Ic.peep_bad (l := l) (rg := rg) h)
  have HOK := hide (fun (h : (Ic.fault l rg).1 = 0) => Ic.fault_parts h)
  have HOUT := hide (fun (h : (Ic.fault l rg).1 = 0) => Ic.peep_ok (l := l) (rg := rg) h)
  have HTG := hide (fun (h : (Ic.fault l rg).1 = 0) => Ic.targets_ok (l := l) (rg := rg) h)
  have HR := hide hrow
  have HSZ := hide hsz
  have HOKS := hide hok
  have HSH := hide hS
  have HS0 := hide hs0
  have HCF := hide (show ∀ e w', Ic.CfSaid w0 l rg e w' → e = .returned (.agg #[.int .i64 (Ic.fault l rg).1, .int .i64 (Ic.fault l rg).2, .slice none 0 0, .int .i64 0]) ∧ Below w0.heap.size w0 w' from fun e w' h => h)
  clear hrow hsz hok hs0 hS
  obtain ⟨x, y, hxy⟩ : ∃ x y, Ic.fault l rg = (x, y) := ⟨_, _, rfl⟩
  rw [hxy] at HCF HBAD HOK HOUT HTG
  clear hxy
  obtain ⟨i0, hi, hz0, hz1, hz2⟩ := info_parts Cm.infoIn
  go_enter Tryd.func7, Tryd.ntmps7
  go_wp2_with fail
  rw [← hw0]
  clear hw0
  refine (unhide HC).mono ?_
  rintro e w2 hcf
  obtain ⟨rfl, hb2⟩ := (unhide HCF) e w2 hcf
  have BW2 : Below w.heap.size w w2 := B0.trans (hb2.mono B0.size)
  have O2 := O0.below hb2 O0.lt
  have hs2 : w.heap.size + 1 ≤ w2.heap.size := by have := hb2.size; have := unhide HS0; omega
  clear hcf HC HCF hb2 O0 B0
  obtain ⟨w3, hw3⟩ : ∃ w3, w3 = w2.alloc (.cells #[.int .i64 x, .int .i64 y, .slice none 0 0, .int .i64 0] 26) := ⟨_, rfl⟩
  have BW3 : Below w.heap.size w w3 := by rw [hw3]; exact BW2.alloc BW2.size _
  have O3 : Own w3 w.heap.size 26 [.int .i64 0, .int .i64 0, .slice none 0 0, .int .i64 0] := by rw [hw3]; exact O2.alloc _
  have F3 : Own w3 w2.heap.size 26 [.int .i64 x, .int .i64 y, .slice none 0 0, .int .i64 0] := by rw [hw3]; exact ⟨_, heap_alloc_new _ _, rfl⟩
  have hs3 : w3.heap.size = w2.heap.size + 1 := by rw [hw3]; simp
  by_cases hx : x = 0
  · subst hx
    obtain ⟨⟨hr0, hr1⟩, ⟨hl1, hl6⟩, hall, _⟩ := (unhide HOK) (by first | rfl | trivial)
    have fin := hide ((unhide HOUT) (by first | rfl | trivial))
    have htg := hide ((unhide HTG) (by first | rfl | trivial))
    have HA := hide hall
    have f0' := F3.cell 0
    rw [hw3] at f0'
    simp only [List.getElem?_cons_zero] at f0'
    have HT := hide (implTargetsOf_any b l rg w3 ((unhide HR).below BW3 hb) (Nat.lt_of_lt_of_le hb BW3.size) (unhide HSZ) (unhide HOKS) hn ((unhide HSH).below BW3))
    clear hall F3 HBAD HOK HOUT HTG HOKS
    go_wp2_with fail
    rw [← hw3]
    clear hw3 f0'
    refine (unhide HT).mono ?_
    rintro e w4 ⟨s, rfl, hrs, hb4⟩
    rw [unhide htg] at hrs ⊢
    simp only at hrs ⊢
    obtain ⟨sa, sn, sc, rfl⟩ := hrs.shape
    have hpl := peep_list 0 (.slice sa sn sc)
    have BW4 : Below w.heap.size w w4 := BW3.trans (hb4.mono BW3.size)
    have HST := hide (staying_any w3.heap.size sa sn sc b l rg w4 ((unhide HR).below BW4 hb) (Nat.lt_of_lt_of_le hb BW4.size) hl6 (unhide HA) hrs)
    clear HT hrs
    go_wp2_with fail
    refine (unhide HST).mono ?_
    rintro e wT ⟨v, rfl, hkv, hbT⟩
    have BT3 : Below w3.heap.size w3 wT := hb4.trans (hbT.mono hb4.size)
    have BWT : Below w.heap.size w wT := BW4.trans (hbT.mono BW4.size)
    have hsT : w3.heap.size ≤ wT.heap.size := BT3.size
    have HKV := hide hkv
    obtain ⟨ka, kc, hkx, hview⟩ := resI_view hkv
    subst hkx
    have HV := hide hview
    have OT := O3.below BT3 (by omega)
    have hkl := Ic.kept_len l l.length
    obtain ⟨N, hN⟩ : ∃ N, N = (Ic.kept l l.length).length := ⟨_, rfl⟩
    have HN := hide hN
    have HKP := hide (fun k (hk : k < N) => Ic.kept_at (l := l) (k := k) (by rw [← hN]; exact hk))
    have hNb : N ≤ 6000 := by omega
    have HPOS := hide (fun (u : Nat) (hu : u ≤ l.length) (p : Nat) (hp : Bs.Pos (Ic.kept l l.length) (u : Int) p) => Ic.kept_pos l u l.length hu p hp.1 hp.2.1 hp.2.2)
    rw [← hN]
    clear hN hkv hview hb4 hbT HST hpl O2 O3 BW2 hkl
    go_wp2_with fail
    go_loopg [7, 32] N (fun gh s7 s32 wr => ∃ (k : Nat) (v : Value) (cs : List (Ic × Value)), Hid (gh = N - k) ∧ s32 = .int .i64 (k : Int) ∧ k ≤ N ∧ s7 = v ∧ Hid (cs.map Prod.fst = (Ic.peeped l).take k) ∧ Hid (Cm.Rw wr wT.heap.size v cs) ∧ Hid ((Cm.bls cs).Nodup) ∧ Below wT.heap.size wT wr)
    case atStart => exact ⟨0, _, [], rfl, rfl, by omega, rfl, rfl, Cm.Rw.nil _ _, List.nodup_nil, Below.refl _ _⟩
    case round =>
      obtain ⟨k, v, cs, hgk, rfl, hkN, rfl, hcs, HRW, hnd, hbel⟩ := hrel
      have hlen : cs.length = k := by
        have h1 := congrArg List.length hcs.out
        rw [List.length_map, List.length_take, Ic.peeped_len, ← unhide HN] at h1
        omega
      have hcb : cs.length ≤ 6000 := by omega
      clear hlen
      obtain ⟨va, vc, hv⟩ := (unhide HRW).slice
      subst hv
      have BWR : Below w.heap.size w wr := BWT.trans (hbel.mono BWT.size)
      by_cases hlt : k < N
      · have hltI : (k : Int) < (N : Int) := by omega
        have hk0 : (0 : Int) ≤ (k : Int) := by omega
        obtain ⟨kp, hkp1, hkp2, hkp3⟩ := (unhide HKP) k hlt
        obtain ⟨kg, hka, kcell⟩ := (unhide HV) k (by rw [← unhide HN]; exact hlt)
        subst hka
        rw [hkp1] at kcell
        have hkgl : kg < wT.heap.size := (unhide HKV).lt kg rfl
        have sk := (hbel.cell (by exact hkgl)).trans kcell
        have hpI : (kp : Int) < (l.length : Int) := by omega
        have hp0 : (0 : Int) ≤ (kp : Int) := by omega
        obtain ⟨f0, f1, vg, f2, hvg, hvr⟩ := ((unhide HR).below BWR hb) kp hkp2
        have hvl := (unhide HSZ) kp hkp2
        have hone1 := (unhide HA) kp hkp2
        have hop1 := (Ic.one_parts hone1).1
        have hjmp := hide (fun h => Ic.one_jump hone1 h)
        have HPK := hide hkp3
        clear hone1 hkp3 hkp1 kcell
        generalize l.getD kp Ic.zero = n at *
        obtain ⟨nop, narg, nval⟩ := n
        dsimp only at *
        obtain ⟨op, rfl⟩ : ∃ op : Nat, nop = (op : Int) := ⟨nop.toNat, by omega⟩
        have hopl : op < 20 := by omega
        have hopI : (op : Int) < 20 := by omega
        have hop0 : (0 : Int) ≤ (op : Int) := by omega
        obtain ⟨w5, hw5⟩ : ∃ w5, wr.alloc (.cells #[.int .i64 (op : Int), .int .i64 narg, .slice (some ⟨vg, 0, none⟩) nval.length nval.length] 41) = w5 := ⟨_, rfl⟩
        have B5 : Below wr.heap.size wr w5 := by rw [← hw5]; exact (Below.refl _ _).alloc (Nat.le_refl _) _
        have N5 : Own w5 wr.heap.size 41 [.int .i64 (op : Int), .int .i64 narg, .slice (some ⟨vg, 0, none⟩) nval.length nval.length] := by rw [← hw5]; exact ⟨_, heap_alloc_new _ _, rfl⟩
        have hs5 : w5.heap.size = wr.heap.size + 1 := by rw [← hw5]; simp
        have hTs : wT.heap.size ≤ w5.heap.size := by have := hbel.size; omega
        have HNC := hide (newCells_any vg 0 nval.length nval w5 (hvr.below B5 hvg) (by omega) hvl)
        have m0 := N5.cell 0
        have m1 := N5.cell 1
        have m2 := N5.cell 2
        simp only [List.getElem?_cons_zero, List.getElem?_cons_succ] at m0 m1 m2
        clear hvr
        go_wp2_with fail
        refine (unhide HNC).mono ?_
        rintro e wB ⟨xv, rfl, hRx, hbB⟩
        have NB := N5.below hbB N5.lt
        have BB : Below wr.heap.size wr wB := B5.trans (hbB.mono (by omega))
        have hxb : ∀ b, xv.ownBlock = some b → wr.heap.size < b := fun b hb => by have := hRx.base b hb; omega
        obtain ⟨xa, xn, xc, rfl⟩ := hRx.shape
        obtain ⟨w6, hw6⟩ : ∃ w6, wB.setCell ⟨wr.heap.size, 2, none⟩ (.slice xa xn xc) = w6 := ⟨_, rfl⟩
        have N6 : Own w6 wr.heap.size 41 [.int .i64 (op : Int), .int .i64 narg, .slice xa xn xc] := by rw [← hw6]; exact NB.set 2 _
        have B6 : Below wr.heap.size wr w6 := by rw [← hw6]; exact BB.setCell (Nat.le_refl _) _
        have R6 : Res w6 w5.heap.size (.slice xa xn xc) nval := by rw [← hw6]; exact hRx.setOther _ _ (fun b hb e => by have := hxb b hb; simp only at e; omega)
        have BW6 : Below w.heap.size w w6 := BWR.trans (B6.mono BWR.size)
        have b2 := NB.cell 2
        have y2 := NB.frozen 2
        have n0 := N6.cell 0
        have n1 := N6.cell 1
        have n2 := N6.cell 2
        have y1 := N6.frozen 1
        simp only [List.getElem?_cons_zero, List.getElem?_cons_succ] at n0 n1 n2 b2
        obtain ⟨t0, t1, t2, t3, t4, t5⟩ := ((unhide HSH).below BW6).cell op hopl
        have HBS6 := hide (fun (u : Int) => bs_any u w6 (((unhide HKV).below hbel).below B6) (Ic.kept_rises l l.length))
        clear t0 t2 t3 t4 t5 hbB hRx NB HNC m0 m1 m2 hw5
        rw [← unhide HN] at HBS6
        cases hj : Ic.jumps (op : Int) with
        | true =>
          have hjb := (unhide hjmp) hj
          obtain ⟨u, rfl⟩ : ∃ u : Nat, narg = (u : Int) := ⟨narg.toNat, by omega⟩
          rw [Ic.jump_K hj] at t1
          have HB6 := hide ((unhide HBS6) (u : Int))
          clear HBS6 hjmp
          go_wp2_with fail
          refine (unhide HB6).mono ?_
          rintro e w6' ⟨hw6', q, hq, rfl⟩
          rw [hw6']
          clear hw6' HB6
          have hqq := (unhide HPOS) u (by omega) q hq
          subst hqq
          clear hq
          obtain ⟨w7, hw7⟩ : ∃ w7, w6.setCell ⟨wr.heap.size, 1, none⟩ (.int .i64 ((Ic.kept l u).length : Int)) = w7 := ⟨_, rfl⟩
          have N7 : Own w7 wr.heap.size 41 [.int .i64 (op : Int), .int .i64 ((Ic.kept l u).length : Int), .slice xa xn xc] := by rw [← hw7]; exact N6.set 1 _
          have B7 : Below wr.heap.size wr w7 := by rw [← hw7]; exact B6.setCell (Nat.le_refl _) _
          have R7 : Res w7 w5.heap.size (.slice xa xn xc) nval := by rw [← hw7]; exact R6.setOther _ _ (fun b hb e => by have := hxb b hb; simp only at e; omega)
          have k0 := N7.cell 0
          have k1 := N7.cell 1
          have k2 := N7.cell 2
          simp only [List.getElem?_cons_zero, List.getElem?_cons_succ] at k0 k1 k2
          obtain ⟨w8, hw8⟩ : ∃ w8, w7.alloc (.cells #[.int .i64 (op : Int), .int .i64 ((Ic.kept l u).length : Int), .slice xa xn xc] 41) = w8 := ⟨_, rfl⟩
          have hsz7 : w5.heap.size ≤ w7.heap.size := by have := hs5; have := N7.lt; omega
          clear N7 N6 R6 B6 BB
          have B8 : Below wr.heap.size wr w8 := by rw [← hw8]; exact B7.alloc B7.size _
          have hs8 : w8.heap.size = w7.heap.size + 1 := by rw [← hw8]; simp
          have X8 : Own w8 w7.heap.size 41 [.int .i64 (op : Int), .int .i64 ((Ic.kept l u).length : Int), .slice xa xn xc] := by rw [← hw8]; exact ⟨_, heap_alloc_new _ _, rfl⟩
          have R8 : Res w8 wT.heap.size (.slice xa xn xc) nval := by rw [← hw8]; exact (R7.alloc _).mono hTs
          have RW8 := (unhide HRW).below B8
          have HO8 := hide RW8.1
          have HN8 := hide (show ∀ j uu, (Cm.inV (⟨op, ((Ic.kept l u).length : Int), nval⟩ : Ic) (.slice xa xn xc))[j]? = some uu → w8.cell? ((⟨w7.heap.size, 0, none⟩ : Addr).add j) = some uu from fun j uu hu => by rw [addr_add0, X8.cell j]; exact hu)
          have HP8 := hide (Cm.plain_in (⟨op, ((Ic.kept l u).length : Int), nval⟩ : Ic) (.slice xa xn xc) rfl)
          have hb63 : cs.length + 1 ≤ maxLen := by unfold maxLen; omega
          have hby : (cs.length + 1) * 40 ≤ 140737488355328 := by omega
          have hbase : wT.heap.size ≤ w8.heap.size := by have := B8.size; have := hbel.size; omega
          have HPU := hide (fun (wA : World) (v' : Value) ho hg => RW8.push (wA := wA) (v' := v') (x := .slice xa xn xc) (c := (⟨op, ((Ic.kept l u).length : Int), nval⟩ : Ic)) ho hg R8)
          have HBO := hide (fun b (hb : (Value.slice va cs.length vc).ownBlock = some b) => ((unhide HRW).typed hb).1)
          have HTOLD := hide (show Ic.told l (⟨op, (u : Int), nval⟩ : Ic) = ⟨op, ((Ic.kept l u).length : Int), nval⟩ by unfold Ic.told; simp only [hj, if_pos, Int.toNat_natCast])
          clear X8 R8 RW8 R7
          go_wp2_with (at_builtin; refine wpList_append_own _ rfl (.tmp 59) (.tmp 61) 24 rfl wT.heap.size 41 i0 (.agg #[.int .i64 0, .int .i64 0, .slice none 0 0]) 3 40 Tryd.underlying24 hi hz0 hz1 hz2 rfl (by decide) _ cs.length _ rfl (unhide HO8) ⟨w7.heap.size, 0, none⟩ 1 1 (Cm.inV (⟨op, ((Ic.kept l u).length : Int), nval⟩ : Ic) (.slice xa xn xc)) rfl rfl (unhide HN8) (unhide HP8) hb63 hby hbase ?_)
          intro v' wA ho hg _
          have hRA := (unhide HPU) wA v' ho hg
          have BA : Below wT.heap.size wT wA := (hbel.trans (B8.mono hbel.size)).grown hg hbase (unhide HBO)
          have hND : (Cm.bls (cs ++ [((⟨op, ((Ic.kept l u).length : Int), nval⟩ : Ic), Value.slice xa xn xc)])).Nodup := by
            rw [Cm.bls_append, Cm.bls_one]
            exact Cm.nodup_snoc hnd.out (fun b hb hm => by have := hxb b hb; have := (unhide HRW).bls_lt b hm; omega)
          have hEQ : (cs ++ [((⟨op, ((Ic.kept l u).length : Int), nval⟩ : Ic), Value.slice xa xn xc)]).map Prod.fst = (Ic.peeped l).take (k + 1) := by
            rw [List.map_append, hcs.out, List.take_add_one, unhide HPK, unhide HTOLD]; rfl
          obtain ⟨ya, yc, hv'⟩ := hRA.slice
          rw [show (cs ++ [((⟨op, ((Ic.kept l u).length : Int), nval⟩ : Ic), Value.slice xa xn xc)]).length = cs.length + 1 by simp] at hv'
          subst hv'
          have HRA := hide hRA
          have HND := hide hND
          have HEQ := hide hEQ
          clear ho hg hRA hND hEQ HPU HO8 HN8 HP8 hw8 HTOLD
          go_wp2_with fail
          go_roundg (N - (k + 1))
          case rel => exact ⟨k + 1, _, _, rfl, by go_num, by omega, rfl, unhide HEQ, unhide HRA, unhide HND, BA⟩
          case measure => have := hgk.out; omega
        | false =>
          have g3 : (Ic.argK (op : Int) == 3) = false := beq_eq_false_iff_ne.2 (fun e => by rw [Ic.K_jump e] at hj; cases hj)
          generalize Ic.argK (op : Int) = ak at *
          have B7 := B6
          have R7 := R6
          obtain ⟨w8, hw8⟩ : ∃ w8, w6.alloc (.cells #[.int .i64 (op : Int), .int .i64 narg, .slice xa xn xc] 41) = w8 := ⟨_, rfl⟩
          clear HBS6 hjmp N6 R6 B6 BB
          have B8 : Below wr.heap.size wr w8 := by rw [← hw8]; exact B7.alloc B7.size _
          have hs8 : w8.heap.size = w6.heap.size + 1 := by rw [← hw8]; simp
          have X8 : Own w8 w6.heap.size 41 [.int .i64 (op : Int), .int .i64 narg, .slice xa xn xc] := by rw [← hw8]; exact ⟨_, heap_alloc_new _ _, rfl⟩
          have R8 : Res w8 wT.heap.size (.slice xa xn xc) nval := by rw [← hw8]; exact (R7.alloc _).mono hTs
          have RW8 := (unhide HRW).below B8
          have HO8 := hide RW8.1
          have HN8 := hide (show ∀ j uu, (Cm.inV (⟨op, narg, nval⟩ : Ic) (.slice xa xn xc))[j]? = some uu → w8.cell? ((⟨w6.heap.size, 0, none⟩ : Addr).add j) = some uu from fun j uu hu => by rw [addr_add0, X8.cell j]; exact hu)
          have HP8 := hide (Cm.plain_in (⟨op, narg, nval⟩ : Ic) (.slice xa xn xc) rfl)
          have hb63 : cs.length + 1 ≤ maxLen := by unfold maxLen; omega
          have hby : (cs.length + 1) * 40 ≤ 140737488355328 := by omega
          have hbase : wT.heap.size ≤ w8.heap.size := by have := B8.size; have := hbel.size; omega
          have HPU := hide (fun (wA : World) (v' : Value) ho hg => RW8.push (wA := wA) (v' := v') (x := .slice xa xn xc) (c := (⟨op, narg, nval⟩ : Ic)) ho hg R8)
          have HBO := hide (fun b (hb : (Value.slice va cs.length vc).ownBlock = some b) => ((unhide HRW).typed hb).1)
          have HTOLD := hide (show Ic.told l (⟨op, narg, nval⟩ : Ic) = ⟨op, narg, nval⟩ by unfold Ic.told; simp only [hj]; rfl)
          clear X8 R8 RW8 R7
          go_wp2_with (at_builtin; refine wpList_append_own _ rfl (.tmp 59) (.tmp 61) 24 rfl wT.heap.size 41 i0 (.agg #[.int .i64 0, .int .i64 0, .slice none 0 0]) 3 40 Tryd.underlying24 hi hz0 hz1 hz2 rfl (by decide) _ cs.length _ rfl (unhide HO8) ⟨w6.heap.size, 0, none⟩ 1 1 (Cm.inV (⟨op, narg, nval⟩ : Ic) (.slice xa xn xc)) rfl rfl (unhide HN8) (unhide HP8) hb63 hby hbase ?_)
          intro v' wA ho hg _
          have hRA := (unhide HPU) wA v' ho hg
          have BA : Below wT.heap.size wT wA := (hbel.trans (B8.mono hbel.size)).grown hg hbase (unhide HBO)
          have hND : (Cm.bls (cs ++ [((⟨op, narg, nval⟩ : Ic), Value.slice xa xn xc)])).Nodup := by
            rw [Cm.bls_append, Cm.bls_one]
            exact Cm.nodup_snoc hnd.out (fun b hb hm => by have := hxb b hb; have := (unhide HRW).bls_lt b hm; omega)
          have hEQ : (cs ++ [((⟨op, narg, nval⟩ : Ic), Value.slice xa xn xc)]).map Prod.fst = (Ic.peeped l).take (k + 1) := by
            rw [List.map_append, hcs.out, List.take_add_one, unhide HPK, unhide HTOLD]; rfl
          obtain ⟨ya, yc, hv'⟩ := hRA.slice
          rw [show (cs ++ [((⟨op, narg, nval⟩ : Ic), Value.slice xa xn xc)]).length = cs.length + 1 by simp] at hv'
          subst hv'
          have HRA := hide hRA
          have HND := hide hND
          have HEQ := hide hEQ
          clear ho hg hRA hND hEQ HPU HO8 HN8 HP8 hw8 HTOLD
          go_wp2_with fail
          go_roundg (N - (k + 1))
          case rel => exact ⟨k + 1, _, _, rfl, by go_num, by omega, rfl, unhide HEQ, unhide HRA, unhide HND, BA⟩
          case measure => have := hgk.out; omega
      · have hke : k = N := by omega
        subst hke
        have HF := hide (show cs.map Prod.fst = Ic.peeped l by rw [hcs.out, List.take_of_length_le]; rw [Ic.peeped_len, ← unhide HN]; exact Nat.le_refl _)
        have OF := OT.below hbel (by omega)
        have c0 := OF.cell 0
        have z0 := OF.frozen 0
        have c1 := OF.cell 1
        have z1 := OF.frozen 1
        have c2 := OF.cell 2
        have z2 := OF.frozen 2
        have c3 := OF.cell 3
        have z3 := OF.frozen 3
        simp only [List.getElem?_cons_zero, List.getElem?_cons_succ] at c0 c1 c2 c3
        have FIN := hide (And.intro (unhide HRW) hnd.out)
        have hbb : w.heap.size < wT.heap.size := by omega
        clear HRW OF hcs hnd
        go_wp2_with fail
        refine bodyPost_ret (v := .agg #[.int .i64 0, .int .i64 0, .slice va cs.length vc, .int .i64 rg]) (by simp [results, Tryd.results7, go_sem, c0, c1, c2, c3]; try rfl) rfl (Pe.said_ok (unhide fin) (unhide HF) (Pe.rw4 (unhide FIN).1 hbb _ _ _ _) (Nat.le_of_lt hbb) (unhide FIN).2 (Pe.sets4 BWR _ _ _ _))
  · have g1 : (x != 0) = true := by simpa using hx
    have fin := hide ((unhide HBAD) hx)
    have c0 := O3.cell 0
    have z0 := O3.frozen 0
    have c1 := O3.cell 1
    have z1 := O3.frozen 1
    have c2 := O3.cell 2
    have z2 := O3.frozen 2
    have c3 := O3.cell 3
    have z3 := O3.frozen 3
    have f0 := F3.cell 0
    have f1 := F3.cell 1
    simp only [List.getElem?_cons_zero, List.getElem?_cons_succ] at c0 c1 c2 c3 f0 f1
    rw [hw3] at c0 c1 c2 c3 z0 z1 z2 z3 f0 f1
    clear hx O2 O3 F3 HBAD HOK HOUT HTG
    go_wp2_with fail
    rw [← hw3] at *
    refine bodyPost_ret (v := .agg #[.int .i64 x, .int .i64 y, .slice none 0 0, .int .i64 0]) (by simp [results, Tryd.results7, go_sem, c0, c1, c2, c3]; try rfl) rfl (Pe.said_bad (unhide fin) (Pe.sets4 BW3 _ _ _ _))

end Go.Proofs.YtgjbibkppofjfaaDoor
