/-
  Proved: whatever bytes it is given, laws.FnParts returns true: a value is its parts. No condition.
-/
import Derived.Test.YthbiclpifeobkaaS54
import Derived.ChangeOld
import Derived.Deep.RegionHeld3
import Derived.OpenShut
import Derived.ProofKit
import Derived.ShutString
namespace Go.Proofs.Ythbiclpifeobkaa
open Go.ChangeShapes Go.WideShapes Go.ChangeAt Go.RowKit
set_option linter.unusedVariables false
set_option linter.unusedSimpArgs false

set_option maxRecDepth 100000 in
set_option maxHeartbeats 4000000 in
theorem lawParts_walk (a : Option Addr) (len cap : Nat) (w : World) (hB : BytR w a len cap) :
    Calls Try.prog 4 #[.slice a len cap] w fun e w' => e = .returned (.bool true) ∧ Below w.heap.size w w' := by
  by_cases hbig : 1048576 < len
  · go_enter Try.func4, Try.ntmps4
    go_wp2_with fail
    refine (lwBig_any a len cap _).mono ?_
    rintro e w1 ⟨rfl, hw1⟩
    rw [hw1, decide_eq_true hbig]
    clear hw1
    go_wp2_with fail
    go_ret
    exact ⟨rfl, Below.refl _ _⟩
  have HD := hide (drawEach_any a len cap w hB.1 (by omega))
  clear hB
  go_enter Try.func4, Try.ntmps4
  go_wp2_with fail
  refine (lwBig_any a len cap _).mono ?_
  rintro e w1 ⟨rfl, hw1⟩
  rw [hw1, decide_eq_false hbig]
  clear hw1
  go_wp2_with fail
  refine (unhide HD).mono ?_
  rintro e V0 ⟨s1, l, rfl, G1, BW⟩
  have HG := hide G1
  have FIN := hide (fun (V : World) (hV : Below V0.heap.size V0 V) => BW.trans (hV.mono BW.size))
  obtain ⟨g1, c1, rfl, hg1, hc1, hrow1⟩ := G1.at
  have hok := G1.2.2.2
  have hl3 := G1.2.2.1
  clear HD BW
  by_cases hx : (eachOut l).1 = 0
  · obtain ⟨F, hkd⟩ := Dv.fp_of hok hx
    have HF := hide F
    have hsub := F.sub
    have hsl := F.len
    have hsml := F.small
    have hv := F.ok
    clear hx F
    go_wp2_with fail
    refine (Dv.eci (unhide HG) (Below.refl _ _) hsub).mono ?_
    rintro e V1 ⟨a2, c2, rfl, hc2, hlv2, hb2⟩
    rw [hsl] at hc2 ⊢
    generalize hn : M.arity l 0 = n at *
    obtain ⟨w3, hw3⟩ : ∃ w3, w3 = V1.alloc (.cells #[.int .i64 0, .slice a2 n c2] 33) := ⟨_, rfl⟩
    have B13 : Below V1.heap.size V1 w3 := by rw [hw3]; exact (Below.refl _ _).alloc (Nat.le_refl _) _
    have B03 : Below V0.heap.size V0 w3 := hb2.trans (B13.mono hb2.size)
    have O3 : Own w3 V1.heap.size 33 [.int .i64 0, .slice a2 n c2] := by rw [hw3]; exact ⟨_, heap_alloc_new _ _, rfl⟩
    have HCH := hide (Dv.chi (unhide HG) B03 hv)
    rw [hn] at HCH
    go_wp2_with fail
    rw [← hw3]
    clear hw3
    refine (unhide HCH).mono ?_
    rintro e w4 ⟨a4, c4, rfl, hc4, hiv4, hb4⟩
    obtain ⟨w5, hw5⟩ : ∃ w5, w5 = w4.alloc (.cells #[.int .i64 0, .slice a4 n c4] 37) := ⟨_, rfl⟩
    have B45 : Below w4.heap.size w4 w5 := by rw [hw5]; exact (Below.refl _ _).alloc (Nat.le_refl _) _
    have B04 : Below V0.heap.size V0 w4 := B03.trans (hb4.mono B03.size)
    have B05 : Below V0.heap.size V0 w5 := B04.trans (B45.mono B04.size)
    have LQ : Dv.Lq w5 V1.heap.size w4.heap.size c2 c4 n a2 a4 l := ⟨(O3.below hb4 O3.lt).below B45 (by have := (O3.below hb4 O3.lt).lt; exact this), by rw [hw5]; exact ⟨_, heap_alloc_new _ _, rfl⟩, ((hlv2.below B13).below hb4).below B45, hiv4.below B45⟩
    have HLQ := hide LQ
    have c50 := LQ.res2.cell 0
    have c51 := LQ.res2.cell 1
    have c31 := LQ.res1.cell 1
    simp only [List.getElem?_cons_zero, List.getElem?_cons_succ] at c50 c51 c31
    rw [hw5] at c50 c51 c31
    have hne : ((n : Int) != (n : Int)) = false := by simp
    obtain ⟨i0, hi, hz0, hz1, hz2⟩ := info_parts Try.info9
    obtain ⟨w6, hw6⟩ : ∃ w6, w6 = w5.alloc (.cells #[] 9) := ⟨_, rfl⟩
    have B56 : Below w5.heap.size w5 w6 := by rw [hw6]; exact (Below.refl _ _).alloc (Nat.le_refl _) _
    have hs5 : w5.heap.size = w4.heap.size + 1 := by rw [hw5]; simp
    have K0 := hide (show KS w6 w5.heap.size (.slice (some ⟨w4.heap.size + 1, 0, none⟩) 0 0) (firstK l 0) by rw [hw6]; exact KS.emptyAt w5 w5.heap.size _ hs5.symm (by omega))
    clear hs5
    clear hlv2 hb2 B13 O3 HCH B45 B04 hiv4 hb4 B03 LQ
    go_wp2_with fail
    rw [← hw5, ← hw6]
    clear c50 c51 c31 hw6 hw5
    go_loopg [6, 7] n (fun gh s6 s7 wr => ∃ k : Nat, Hid (gh = n - k) ∧ s7 = .int .i64 (k : Int) ∧ k ≤ n ∧ Hid (KS wr w5.heap.size s6 (firstK l k)) ∧ Below w5.heap.size w5 wr)
    case atStart => exact ⟨0, rfl, rfl, by omega, unhide K0, B56⟩
    case round =>
      obtain ⟨k, hg, rfl, hk, hks, hbel⟩ := hrel
      have BR : Below V0.heap.size V0 wr := B05.trans (hbel.mono B05.size)
      have LR := (unhide HLQ).below hbel
      have e1 := LR.res2.cell 1
      simp only [List.getElem?_cons_zero, List.getElem?_cons_succ] at e1
      by_cases hlt : k < n
      · have hltI : (k : Int) < (n : Int) := by omega
        have hk0 : (0 : Int) ≤ (k : Int) := by omega
        obtain ⟨f1, f2, f3, f4, f5, f6⟩ := (unhide HF).at_ k hlt
        obtain ⟨g4, rfl, hg4, x4⟩ := LR.iv k hlt
        have hfl : (firstK l k).length = k := by simp [firstK]
        obtain ⟨a6, c6, rfl, hc6, _⟩ := (hks.out).tv
        rw [hfl] at hc6 hks ⊢
        obtain ⟨g2, bb2, off2, cc2, rfl, hg2, x2, hx2c, hbb2, hrow2⟩ := LR.lv k (by rw [hsl]; exact hlt)
        rw [f2] at x2 hx2c hrow2
        have HPA := hide (Dv.ptq (unhide HG) BR f4)
        have hpne : part l (M.iter l k 1) ≠ [] := fun e => by have := (M.fault_zero f3).1; rw [e] at this; simp at this
        have hpl := (M.fault_zero f3).2.1
        have hkey := hide (firstK_snoc l k)
        generalize M.iter l k 1 = p at *
        generalize part l p = P at *
        have hp0 : (0 : Int) ≤ (p : Int) := by omega
        have hpI : (p : Int) < (l.length : Int) := by omega
        go_wp2_with fail
        refine (unhide HPA).mono ?_
        rintro e w7 ⟨s7, rfl, hr7, hb7⟩
        obtain ⟨b7, c7, rfl, hc7, _, hlt7, hrow7⟩ := hr7.rowedP hpne
        obtain ⟨w8, hw8⟩ : ∃ w8, w8 = w7.alloc (.cells #[.int .i64 0, .slice (some ⟨b7, 0, none⟩) P.length c7] 41) := ⟨_, rfl⟩
        have B78 : Below w7.heap.size w7 w8 := by rw [hw8]; exact (Below.refl _ _).alloc (Nat.le_refl _) _
        have BR8 : Below wr.heap.size wr w8 := hb7.trans (B78.mono hb7.size)
        have B58 : Below w5.heap.size w5 w8 := hbel.trans (BR8.mono hbel.size)
        have o8 : Own w8 w7.heap.size 41 [.int .i64 0, .slice (some ⟨b7, 0, none⟩) P.length c7] := by rw [hw8]; exact ⟨_, heap_alloc_new _ _, rfl⟩
        have L8 := (unhide HLQ).below B58
        have d0 := o8.cell 0
        have d1 := o8.cell 1
        have d2 := L8.res1.cell 1
        have d3 := (BR8.cell hg2).trans x2
        have d4 := L8.res2.cell 1
        have d5 := (BR8.cell hg4).trans x4
        have B08 : Below V0.heap.size V0 w8 := B05.trans (B58.mono B05.size)
        obtain ⟨_, _, _, d6, _⟩ := (hrow1.below B08 hg1) p f1
        simp only [List.getElem?_cons_zero, List.getElem?_cons_succ, Nat.zero_add] at d0 d1 d2 d4 d6
        have HS := hide (fun (w' : World) (hb : Below w8.heap.size w8 w') => show Calls Try.prog 14 #[.slice (some ⟨b7, 0, none⟩) P.length c7, .slice (some ⟨bb2, off2, none⟩) P.length cc2] w' fun e w'' => e = .returned (.bool true) ∧ Below w8.heap.size w8 w'' from by
          refine (implSame_any P P b7 0 c7 bb2 off2 cc2 w' ((hrow7.below B78 hlt7).below hb (Nat.lt_of_lt_of_le hlt7 B78.size)) (Nat.lt_of_lt_of_le (Nat.lt_of_lt_of_le hlt7 B78.size) hb.size) (by omega) hc7 f6 ((hrow2.below BR8 hbb2).below hb (Nat.lt_of_lt_of_le hbb2 BR8.size)) (Nat.lt_of_lt_of_le (Nat.lt_of_lt_of_le hbb2 BR8.size) hb.size) (by omega) hx2c f6).mono fun e w'' h => ?_
          rw [f5] at h
          exact ⟨h.1, hb.trans (h.2.mono hb.size)⟩)
        have HK8 := hide ((hks.out).below BR8)
        have t0 : w7.heap.size < w8.heap.size := o8.lt
        have t1 : V1.heap.size < w8.heap.size := L8.res1.lt
        have t2 : g2 < w8.heap.size := Nat.lt_of_lt_of_le hg2 BR8.size
        have t4 : w4.heap.size < w8.heap.size := L8.res2.lt
        have t5 : g4 < w8.heap.size := Nat.lt_of_lt_of_le hg4 BR8.size
        have t6 : g1 < w8.heap.size := Nat.lt_of_lt_of_le hg1 B08.size
        have hkw : IntKind.i64.wrap ((k : Int) + 1) = ((k + 1 : Nat) : Int) := by rw [IntWalk.i64_in _ ⟨by omega, by omega⟩]; simp
        have B88 : Below w8.heap.size w8 w8 := Below.refl _ _
        generalize (l.getD p M.zero).key = key at *
        clear hr7 hb7 hrow7 B78 L8 o8 BR HPA LR e1 x4 x2 hrow2 BR8 hks
        go_wp2_with fail
        rw [← hw8]
        clear hw8
        go_region_held3 (fun w' => w'.cell? ⟨w7.heap.size, 0, none⟩ = some (.int .i64 0) ∧ w'.cell? ⟨w7.heap.size, 1, none⟩ = some (.slice (some ⟨b7, 0, none⟩) P.length c7) ∧ w'.cell? ⟨V1.heap.size, 1, none⟩ = some (.slice (some ⟨g2, 0, none⟩) n c2) ∧ w'.cell? ⟨g2, k, none⟩ = some (.slice (some ⟨bb2, off2, none⟩) P.length cc2)) (first | (simp [go_sem, d0, d1, d2, d3]; done) | exact ⟨(hbq.cell (by exact t0)).trans d0, (hbq.cell (by exact t0)).trans d1, (hbq.cell (by exact t1)).trans d2, (hbq.cell (by exact t2)).trans d3⟩)
          (first | (go_at_call 14; refine ((unhide HS) _ B88.drew).mono ?_; rintro e wq ⟨rfl, hbq⟩))
        have B5q : Below w5.heap.size w5 wq := B58.trans (hbq.mono B58.size)
        have r4 := (hbq.cell (p := ⟨w4.heap.size, 1, none⟩) t4).trans d4
        have r5 := (hbq.cell (p := ⟨g4, k, none⟩) t5).trans d5
        have r6 := (hbq.cell (p := ⟨g1, p * 5 + 3, none⟩) t6).trans d6
        have hown := ((unhide HK8).below hbq).row hfl
        have hown3 := hide (fun o => hown.alloc o)
        have hbse := hide (ownsRow_base hown)
        have hone := hide (one_val wq (.string key) 9)
        have honep := hide (str_plain key)
        have hb63 : k + 1 ≤ maxLen := by unfold maxLen; omega
        have hby : (k + 1) * 16 ≤ 140737488355328 := by omega
        have hbase : w5.heap.size ≤ wq.heap.size + 1 := by have := B5q.size; omega
        clear hbq B58 d0 d1 d2 d3 d4 d5 d6 HS hown HK8 B08
        go_wp2_with (at_builtin; refine wpList_append_own _ rfl (.tmp 68) (.tmp 78) 39 rfl w5.heap.size 9 i0 _ 1 16 Try.underlying39 hi hz0 hz1 hz2 rfl (by decide) _ k _ rfl ((unhide hown3) _) ⟨wq.heap.size, 0, none⟩ 1 1 [.string key] rfl rfl (unhide hone) (unhide honep) hb63 hby (by simpa using hbase) ?_)
        intro v' w9 ho' hg' _
        have HK9 := hide (show KS w9 w5.heap.size v' (firstK l (k + 1)) by rw [← unhide hkey]; exact KS.snoc hfl ho')
        have B59 : Below w5.heap.size w5 w9 := (B5q.alloc B5q.size _).grown hg' (by simpa using hbase) (unhide hbse)
        clear ho' hg' hown3 hone
        go_wp2_with fail
        go_roundg (n - (k + 1))
        case rel => exact ⟨k + 1, rfl, by go_num, by omega, unhide HK9, B59⟩
        case measure => have := hg.out; omega
      · have hltI : ¬ (k : Int) < (n : Int) := by omega
        have hke : k = n := by omega
        subst hke
        have hka : firstK l k = keysAt l 0 := by rw [← hn]; exact firstK_all l
        have hkl : (keysAt l 0).length = k := by rw [keysAt_length, hn]
        rw [hka] at hks
        obtain ⟨a6, c6, rfl, hc6, htv⟩ := (hks.out).tv
        rw [hkl] at hc6 ⊢
        have HF2 := unhide HF
        have e3 := LR.res1.cell 1
        have hl1 := (M.fault_zero hv).1
        have hl2 := (M.fault_zero hv).2.1
        have hlne : l ≠ [] := fun e => by rw [e] at hl1; simp at hl1
        simp only [List.getElem?_cons_zero, List.getElem?_cons_succ] at e3
        have hsz : ∀ j, j < (subs l 0).length → ((subs l 0).getD j []).length ≤ 1048576 := fun j hj => by have := (M.fault_zero (HF2.valid j hj)).2.1; omega
        obtain ⟨⟨q, r⟩, har⟩ : ∃ q, arrOut (subs l 0) = q := ⟨_, rfl⟩
        have HAR := hide (implArrayV_any a2 c2 (subs l 0) wr LR.lv (by omega) (by omega) hsz HF2.okS)
        rw [har, hsl] at HAR
        have HSM := hide (fun (V : World) (hV : Below V0.heap.size V0 V) (b c : Nat) (hb : b < V.heap.size) (hc : l.length ≤ c) (hr : Row V b 0 l) => show Calls Try.prog 14 #[.slice (some ⟨b, 0, none⟩) l.length c, .slice (some ⟨g1, 0, none⟩) l.length c1] V fun e V' => e = .returned (.bool true) ∧ Below V0.heap.size V0 V' from by
          refine (implSame_any l l b 0 c g1 0 c1 V hr hb (by omega) hc hok (hrow1.below hV hg1) (Nat.lt_of_lt_of_le hg1 hV.size) (by omega) hc1 hok).mono fun e V' h => ?_
          rw [HF2.same] at h
          exact ⟨h.1, hV.trans (h.2.mono hV.size)⟩)
        have HEN := hide (fun (V : World) (hV : Below V0.heap.size V0 V) => Dv.eni (unhide HG) hV hv)
        have hf1 := fun W => fldIR 0 (l.length : Nat) W
        have hlI : (0 : Int) < (l.length : Int) := by omega
        rcases hkd with h5 | h6
        · have har' := Dv.arr_told HF2 h5
          rw [har] at har'
          obtain ⟨rfl, rfl⟩ : q = 0 ∧ r = l := by simpa using har'
          clear har har' htv
          go_wp2_with fail
          refine (unhide HAR).mono ?_
          rintro e w10 ⟨s10, rfl, hr10, hb10⟩
          obtain ⟨b10, c10, rfl, hc10, _, hlt10, hrow10⟩ := hr10.rowedP hlne
          obtain ⟨w11, hw11⟩ : ∃ w11, w11 = w10.alloc (.cells #[.int .i64 0, .slice (some ⟨b10, 0, none⟩) r.length c10] 41) := ⟨_, rfl⟩
          have B1011 : Below w10.heap.size w10 w11 := by rw [hw11]; exact (Below.refl _ _).alloc (Nat.le_refl _) _
          have B010 : Below V0.heap.size V0 w10 := BR.trans (hb10.mono BR.size)
          have B011 : Below V0.heap.size V0 w11 := B010.trans (B1011.mono B010.size)
          have HS := hide ((unhide HSM) w11 B011 b10 c10 (Nat.lt_of_lt_of_le hlt10 B1011.size) hc10 (hrow10.below B1011 hlt10))
          obtain ⟨d0, _, _, _, _⟩ := (hrow1.below B011 hg1) 0 (by omega)
          simp only [Nat.zero_mul, Nat.add_zero, h5] at d0
          rw [hw11] at d0
          clear hr10 hb10 hrow10 HAR
          go_wp2_with fail
          rw [← hw11]
          clear hw11 d0
          refine (unhide HS).mono ?_
          rintro e w12 ⟨rfl, hb12⟩
          go_wp2_with fail
          refine ((unhide HEN) _ hb12).mono ?_
          rintro e w13 ⟨rfl, hb13⟩
          go_wp2_with fail
          go_ret
          exact ⟨ret_bool (by simp), unhide FIN _ (hb12.trans (hb13.mono hb12.size))⟩
        · have hob := Dv.obj_told HF2 h6
          have HOB := hide (fun (V : World) (hV : Below wr.heap.size wr V) => implObjectV_any a6 a2 c6 c2 (keysAt l 0) (subs l 0) V (htv.below hV) (LR.lv.below hV) (by omega) (by omega) (by omega) (by omega) (Dv.key_small hv).1 hsz HF2.okS)
          rw [hob, hkl, hsl] at HOB
          clear har hob htv
          go_wp2_with fail
          refine (unhide HAR).mono ?_
          rintro e w10 ⟨s10, rfl, hr10, hb10⟩
          obtain ⟨a10, n10, c10, rfl⟩ := hr10.shape
          obtain ⟨w11, hw11⟩ : ∃ w11, w11 = w10.alloc (.cells #[.int .i64 q, .slice a10 n10 c10] 41) := ⟨_, rfl⟩
          have B1011 : Below w10.heap.size w10 w11 := by rw [hw11]; exact (Below.refl _ _).alloc (Nat.le_refl _) _
          have BR11 : Below wr.heap.size wr w11 := hb10.trans (B1011.mono hb10.size)
          have B011 : Below V0.heap.size V0 w11 := BR.trans (BR11.mono BR.size)
          have o11 : Own w11 w10.heap.size 41 [.int .i64 q, .slice a10 n10 c10] := by rw [hw11]; exact ⟨_, heap_alloc_new _ _, rfl⟩
          have HO := hide ((unhide HOB) w11 BR11)
          obtain ⟨d0, _, _, _, _⟩ := (hrow1.below B011 hg1) 0 (by omega)
          have d1 := (LR.res1.below BR11 LR.res1.lt).cell 1
          simp only [Nat.zero_mul, Nat.add_zero, h6, List.getElem?_cons_zero, List.getElem?_cons_succ] at d0 d1
          rw [hw11] at d0 d1
          have hs10 : V0.heap.size ≤ w10.heap.size := Nat.le_trans BR.size hb10.size
          clear hr10 hb10 HAR HOB
          go_wp2_with fail
          rw [← hw11]
          clear hw11 d0 d1
          refine (unhide HO).mono ?_
          rintro e w12 ⟨s12, rfl, hr12, hb12⟩
          obtain ⟨b12, c12, rfl, hc12, hlo12, hlt12, hrow12⟩ := hr12.rowedP hlne
          have o12 := o11.below hb12 o11.lt
          have z0 := o12.frozen 0
          have z1 := o12.frozen 1
          have r0 := o12.cell 0
          have r1 := o12.cell 1
          have hlt11 := o11.lt
          simp only [List.getElem?_cons_zero, List.getElem?_cons_succ] at r0 r1
          have HX := hide (fun (x y : Value) => show Below V0.heap.size V0 ((w12.setCell ⟨w10.heap.size, 0, none⟩ x).setCell ⟨w10.heap.size, 1, none⟩ y) ∧ Row ((w12.setCell ⟨w10.heap.size, 0, none⟩ x).setCell ⟨w10.heap.size, 1, none⟩ y) b12 0 l ∧ b12 < ((w12.setCell ⟨w10.heap.size, 0, none⟩ x).setCell ⟨w10.heap.size, 1, none⟩ y).heap.size from
            ⟨((B011.trans (hb12.mono B011.size)).setCell hs10 _).setCell hs10 _, by
              have hr := (hr12.setOther ⟨w10.heap.size, 0, none⟩ x (fun b h => by cases h; simp only; omega)).setOther ⟨w10.heap.size, 1, none⟩ y (fun b h => by cases h; simp only; omega)
              obtain ⟨b', c', e', _, _, hl', hr'⟩ := hr.rowedP hlne
              cases e'
              exact ⟨hr', hl'⟩⟩)
          have HS := hide (fun x y => (unhide HSM) _ ((unhide HX) x y).1 b12 c12 ((unhide HX) x y).2.2 hc12 ((unhide HX) x y).2.1)
          clear hr12 hrow12 hb12 o12
          go_wp2_with fail
          refine ((unhide HS) _ _).mono ?_
          rintro e w13 ⟨rfl, hb13⟩
          go_wp2_with fail
          refine ((unhide HEN) _ hb13).mono ?_
          rintro e w14 ⟨rfl, hb14⟩
          go_wp2_with fail
          go_ret
          exact ⟨ret_bool (by simp), unhide FIN _ (hb13.trans (hb14.mono hb13.size))⟩
  · obtain ⟨⟨x, r⟩, hq⟩ : ∃ q, eachOut l = q := ⟨_, rfl⟩
    rw [hq] at hx
    simp only at hx
    have g0 : (x != 0) = true := by simpa using hx
    go_wp2_with fail
    refine (Dv.eci (unhide HG) (Below.refl _ _) hq).mono ?_
    rintro e V1 ⟨a2, c2, rfl, _, _, hb2⟩
    obtain ⟨w3, hw3⟩ : ∃ w3, w3 = V1.alloc (.cells #[.int .i64 x, .slice a2 r.length c2] 33) := ⟨_, rfl⟩
    have O3 : Own w3 V1.heap.size 33 [.int .i64 x, .slice a2 r.length c2] := by rw [hw3]; exact ⟨_, heap_alloc_new _ _, rfl⟩
    have B3 : Below V0.heap.size V0 w3 := by rw [hw3]; exact hb2.alloc hb2.size _
    have HS := hide (fun (V : World) (hV : Below V0.heap.size V0 V) => Dv.ecs (unhide HG) hV hq)
    have c0 := O3.cell 0
    simp only [List.getElem?_cons_zero] at c0
    clear hb2 hx
    go_wp2_with fail
    rw [← hw3]
    clear hw3
    go_region_with (go_at_call 17; refine ((unhide HS) _ B3.drew).mono ?_; rintro e w4 ⟨a4, n4, c4, rfl, hb4⟩; have hf0 := fun W => fldPR x a4 n4 c4 W; have cc := ((show Own w3.drew V1.heap.size 33 [.int .i64 x, .slice a2 r.length c2] from O3).below hb4 O3.lt).cell 0; simp only [List.getElem?_cons_zero] at cc)
    all_goals
      go_wp2_with fail
      go_ret
      exact ⟨ret_bool (by simp), unhide FIN _ (B3.drew.trans (hb4.mono B3.size))⟩

namespace lawParts
theorem own : ownKnob Try.prog.godebug = none := by kernel_rfl
theorem laidOut : laidOutB Try.prog = true := by kernel_rfl

set_option maxRecDepth 100000 in
theorem lifted (os : Os) (started : os.Started) (H : Type) (enc : TypeId × Value → H) :
    ReturnsInHanded {} Try.checked os 4 .any (Rows.fnPartsSpec.pre6 enc Try.prog Try.f4 Rows.fnPartsRow.domain false) (Rows.fnPartsSpec.post enc Try.prog Try.f4 false true false false) := by
  refine returnsInHanded_of_change (C := Try.checked) own started (by kernel_rfl) Try.func4
    (ChangeSpec.witness6 (enc := enc) (C := Try.checked) false ⟨#[], #[.slice none 0 0], []⟩ 8 (by kernel_rfl) (by kernel_rfl) (by kernel_rfl) (by kernel_rfl)) ?_
  intro W base args ds gs before hval0 hW hcnd _
  have hval : ∀ (j : Nat) t v, Try.f4.params[j]? = some t → args[j]? = some v → Value.okWide Try.prog W .any base t v := hval0
  have hW' := hW
  obtain ⟨p, q, hA0, hV, rfl, hfz, hnd⟩ := hW
  have hA : DataW.TrodAll enc Try.prog W 0 (fun _ => true) true Try.f4.params.toList args.toList ds p := hA0
  rw [Try.params4] at hA hval
  obtain ⟨v0, vs0, d0, ds0, p0, q0, hargs, rfl, rfl, h0, r0⟩ := trodAll_cons hA
  obtain ⟨rfl, rfl, rfl⟩ := trodAll_nil r0
  obtain rfl : args = #[v0] := by cases args; simp_all
  obtain ⟨rfl, rfl⟩ := trodVars_none hV
  obtain ⟨a0, len0, cap0, rfl⟩ := okWide_slice Try.underlying22 (hval 0 22 v0 rfl rfl)
  have k0 := h0
  have lt0 : ∀ x ∈ p0, x.block < W.heap.size := by obtain ⟨m, hm⟩ := k0; exact DataW.trod_lt m _ _ _ hm
  have w0 : BytR W a0 len0 cap0 := by
    obtain ⟨fuel, hf⟩ := h0
    exact open_bytR hf
  clear hA0 hval0
  refine (lawParts_walk a0 len0 cap0 W w0).mono fun e W' ⟨he, bel⟩ => ?_
  subst he
  exact ⟨_, rfl, _, _, _, [], _, [], hW', trodAll_mk1 (shut_bool Try.underlying4 _), (trodAll_cons_mk (Below.trod laidOut (by kernel_rfl) (of_decide_eq_true (by kernel_rfl)) k0 bel lt0) trodAll_mk0), rfl, bel.frame _, fun h => by cases h⟩

theorem over : Rows.fnPartsRow.holds Try.pinned (OpenSpec.ofChange Rows.fnPartsSpec) :=
  OpenClaim.holds_of_wide 4 Try.f4 rfl rfl rfl rfl rfl rfl rfl ⟨rfl, rfl, rfl, rfl, rfl⟩ rfl rfl rfl rfl rfl (by kernel_rfl) Try.func4 (by kernel_rfl)
    (of_decide_eq_true (by kernel_rfl)) (by unfold Func.isWrapper; first | (rw [if_pos (by decide +kernel)]; kernel_rfl) | (rw [if_neg (by decide +kernel)]; exact ⟨rfl, rfl⟩))
    (fun os started H enc _ => lifted os started H enc)
end lawParts

/-- The statement. -/
theorem lawParts_holds : Rows.FnPartsSaid := lawParts.over
#print axioms lawParts_holds

end Go.Proofs.Ythbiclpifeobkaa
