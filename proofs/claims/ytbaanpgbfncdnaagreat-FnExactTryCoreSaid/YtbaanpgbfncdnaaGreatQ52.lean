/-
  spec.l10Pass; spec.FoldCore, PipeCore, DeadCore, TryCore.
-/
import Derived.Test.YtbaanpgbfncdnaaGreatQ29
import Derived.Test.YtbaanpgbfncdnaaGreatQ42
import Derived.Test.YtbaanpgbfncdnaaGreatQ50
import Derived.Test.YtbaanpgbfncdnaaGreatQ51
import Derived.Deep.RegionWith
namespace Go.Proofs.YtbaanpgbfncdnaaGreat
open Go.RowKit
set_option linter.unusedVariables false
set_option linter.unusedSimpArgs false
namespace Ste
/-- An answer of the model's passes, as it lies. -/
def Sr (w : World) (o : Int × Int × List Co) (e : Ending) (w' : World) : Prop := ∃ a n c ds, e = .returned (.agg #[.int .i64 o.1, .int .i64 o.2.1, .slice a n c]) ∧ Lm.Rn w' 0 (.slice a n c) ds ∧ ds.map Prod.fst = o.2.2 ∧ Below w.heap.size w w'
theorem pAt_one (p : Int) (s : Ste) : pAt [p] s 1 = pass p s := by
  show ((pass p s).1, 0 + (pass p s).2) = _
  rw [Nat.zero_add]
theorem pOut_fault {l : List Co} {p : Int} (h : Co.fault l ≠ 0) : pOut l [p] = (Co.fault l, 0, []) := by
  have e := pFault_core (ps := [p]) h
  unfold pOut
  rw [e, if_neg h]
theorem pOut_pass {l : List Co} {p : Int} (h : Co.fault l = 0) (h1 : 1 ≤ p) (h4 : p ≤ 4) : pOut l [p] = (0, ((pass p (tre l (l.length - 1))).2 : Int), lay 0 (pass p (tre l (l.length - 1))).1) := by
  have e : pFault l [p] = 0 := pFault_ok h (by simp) (fun i hi => by
    have : i = 0 := by simpa using hi
    subst this
    exact ⟨h1, h4⟩)
  rw [pOut_eq e]
  show (0, ((pAt [p] _ 1).2 : Int), lay 0 (pAt [p] _ 1).1) = _
  rw [pAt_one]
end Ste
set_option maxRecDepth 100000 in
set_option maxHeartbeats 4000000 in
theorem specl10Pass_any (p : Int) (h1 : 1 ≤ p) (h4 : p ≤ 4) (hone : Ste.OneSays p) (b E : Nat) (l : List Co) (w : World) (hrow : Co.LaidRow w b E l) (hn : l.length ≤ 1048576) (hsz : ∀ i, i < l.length → (l.getD i Co.zero).val.length ≤ 1048576) (hok : ∀ c ∈ l, c.ok) :
    Calls Tryz.prog 29 #[.slice (some ⟨b, 0, none⟩) l.length l.length, .int .i64 p] w (Ste.Sr w (Ste.pOut l [p])) := by
  obtain ⟨w0, hw0⟩ : ∃ w0, w0 = w.alloc (.cells #[.int .i64 0, .int .i64 0, .slice none 0 0] 26) := ⟨_, rfl⟩
  have B0 : Below w.heap.size w w0 := by rw [hw0]; exact (Below.refl _ _).alloc (Nat.le_refl _) _
  have O0 : Own w0 w.heap.size 26 [.int .i64 0, .int .i64 0, .slice none 0 0] := by rw [hw0]; exact ⟨_, heap_alloc_new _ _, rfl⟩
  have r0 := hrow.below B0
  have HC := hide (specCoreFault_any b l w0 r0.row r0.lt hn hsz hok)
  have HR0 := hide r0
  clear hsz hok hrow r0
  go_enter Tryz.func29, Tryz.ntmps29
  go_wp2_with fail
  rw [← hw0]
  clear hw0
  refine (unhide HC).mono ?_
  rintro e w1 ⟨rfl, hb1⟩
  have B1 : Below w.heap.size w w1 := B0.trans (hb1.mono B0.size)
  have O1 := O0.below hb1 O0.lt
  have HR1 := hide ((unhide HR0).below hb1)
  clear O0 B0 hb1 HC HR0
  by_cases hf : Co.fault l = 0
  case neg =>
    have FIN := hide (Ste.pOut_fault (p := p) hf)
    generalize Co.fault l = q at *
    have g1 : (q != 0) = true := by simpa using hf
    obtain ⟨c0, c1, c2⟩ := pres_co O1
    have z0 := O1.frozen 0
    have z1 := O1.frozen 1
    have z2 := O1.frozen 2
    have O2 := hide (((O1.set 0 (.int .i64 q)).set 1 (.int .i64 0)).set 2 (.slice none 0 0))
    clear hf O1 HR1
    go_wp2_with fail
    obtain ⟨q0, q1, q2⟩ := pres_co (x := q) (y := 0) (v := .slice none 0 0) (unhide O2)
    clear c0 c1 c2 z0 z1 z2 O2
    have B2 : Below w.heap.size w (((w1.setCell ⟨w.heap.size, 0, none⟩ (.int .i64 q)).setCell ⟨w.heap.size, 1, none⟩ (.int .i64 0)).setCell ⟨w.heap.size, 2, none⟩ (.slice none 0 0)) := ((B1.setCell (Nat.le_refl _) _).setCell (Nat.le_refl _) _).setCell (Nat.le_refl _) _
    generalize ((w1.setCell ⟨w.heap.size, 0, none⟩ (.int .i64 q)).setCell ⟨w.heap.size, 1, none⟩ (.int .i64 0)).setCell ⟨w.heap.size, 2, none⟩ (.slice none 0 0) = WW at *
    refine bodyPost_ret (v := .agg #[.int .i64 q, .int .i64 0, .slice none 0 0]) (by simp [results, Tryz.results29, go_sem, q0, q1, q2]; try rfl) rfl ?_
    rw [unhide FIN]
    exact ⟨_, _, _, [], rfl, .inl ⟨rfl, rfl⟩, rfl, B2⟩
  case pos =>
  have FIN := hide (Ste.pOut_pass hf h1 h4)
  obtain ⟨hokw, hszw, hpos, h900, _⟩ := Ste.tre_whole hf
  have hpk := Ste.pass_ok p _ hokw
  have hcc := Ste.Cc.of (unhide HR1) hf
  obtain ⟨w2, hw2⟩ : ∃ w2, w2 = w1.alloc (.cells #[.slice (some ⟨b, 0, none⟩) l.length l.length, .slice none 0 0, .int .i64 p, .int .i64 0] 65) := ⟨_, rfl⟩
  have B2 : Below w1.heap.size w1 w2 := by rw [hw2]; exact (Below.refl _ _).alloc (Nat.le_refl _) _
  have P2 : Own w2 w1.heap.size 65 [.slice (some ⟨b, 0, none⟩) l.length l.length, .slice none 0 0, .int .i64 p, .int .i64 ((0 : Nat) : Int)] := by rw [hw2]; exact ⟨_, heap_alloc_new _ _, rfl⟩
  have O2 := O1.below B2 O1.lt
  have hlt1 := O1.lt
  obtain ⟨m, hm⟩ : ∃ m, l.length = m + 1 := ⟨l.length - 1, by omega⟩
  have HGO := hide (specl10Go_says p hone b w1.heap.size l hf (l.length) (l.length - 1) 0 w2 (by omega) (by omega) (by omega) (by omega) (hcc.below B2) P2)
  rw [show l.length - 1 = m by omega] at HGO FIN hpk
  have hmb : (m : Int) ≤ 900 := by omega
  have hmb0 : (0 : Int) ≤ (m : Int) := by omega
  rw [hf]
  have HPK := hide hpk
  have hsz9 : Ste.sz (Ste.pass p (Ste.tre l m)).1 ≤ 900 := by have := hpk.2.1; rw [show l.length - 1 = m by omega] at hszw; omega
  have hdd : ((0 + (Ste.pass p (Ste.tre l m)).2 : Nat) : Int) = ((Ste.pass p (Ste.tre l m)).2 : Int) := by rw [Nat.zero_add]
  rw [hdd] at HGO
  rw [hm] at HGO hw2 ⊢
  clear hf hokw hszw hpos hcc HR1 hpk hdd P2 O1
  generalize Ste.pass p (Ste.tre l m) = R at *
  obtain ⟨s, dd⟩ := R
  simp only at HGO FIN hsz9
  clear HPK hm
  go_upto_region 5 with fail
  rw [← hw2]
  clear hw2
  go_wp2_with fail
  refine (unhide HGO).mono ?_
  rintro e w3 ⟨ra, rn, rc, rfl, hpt, hwk, hgf⟩
  have B23 : Below w1.heap.size w2 w3 := ⟨hgf.os, hgf.tape, hgf.output, hgf.size, fun k hk => hgf.block k (Nat.lt_of_lt_of_le hk B2.size) (by omega)⟩
  have B13 : Below w1.heap.size w1 w3 := B2.trans B23
  have B3 : Below w.heap.size w w3 := B1.trans (B13.mono B1.size)
  have O3 := O2.below B23 hlt1
  have HCOP := hide (fun (W : World) (hb : Below w3.heap.size w3 W) => specl10Copy_any (.slice ra rn rc) s W (hpt.below hb) hsz9)
  have k3 : w3.cell? ⟨w1.heap.size, 3, none⟩ = some (.int .i64 (dd : Int)) := hwk.cell 3
  have HK3 := hide (fun (W : World) (hb : Below w3.heap.size w3 W) => show W.cell? ⟨w1.heap.size, 3, none⟩ = some (.int .i64 (dd : Int)) from (hwk.below hb hwk.lt).cell 3)
  have HO3 := hide (fun (W : World) (hb : Below w3.heap.size w3 W) => O3.below hb O3.lt)
  have HB3 := hide (fun (W : World) (hb : Below w3.heap.size w3 W) => B3.trans (hb.mono B3.size))
  clear HGO B23 B13 O2 O3 hgf hpt hwk B2 B1
  go_wp2_with fail
  go_region_with (go_at_call 36; refine ((unhide HCOP) _ (by first | exact (Below.refl _ _).drew | exact Below.refl _ _)).mono ?_; rintro e w4 ⟨qa, qn, qc, rfl, hpt4, hb4'⟩; have hb4 : Below w3.heap.size w3 w4 := (by first | exact hb4' | exact ((Below.refl w3.heap.size w3).drew).trans (hb4'.mono (Nat.le_refl _))); have k34 := (unhide HK3) w4 hb4; have O4 := (unhide HO3) w4 hb4; obtain ⟨c0, c1, c2⟩ := pres_co O4; have z0 := O4.frozen 0; have z1 := O4.frozen 1; have z2 := O4.frozen 2)
  all_goals
    have O5 := hide (((O4.set 0 (.int .i64 0)).set 1 (.int .i64 (dd : Int))).set 2 (.slice qa qn qc))
    have B5 := hide (show Below w.heap.size w (((w4.setCell ⟨w.heap.size, 0, none⟩ (.int .i64 0)).setCell ⟨w.heap.size, 1, none⟩ (.int .i64 (dd : Int))).setCell ⟨w.heap.size, 2, none⟩ (.slice qa qn qc)) from ((((unhide HB3) w4 hb4).setCell (Nat.le_refl _) _).setCell (Nat.le_refl _) _).setCell (Nat.le_refl _) _)
    have P5 := hide (((hpt4.far (j := 0) (x := .int .i64 0) O4 (fun e => absurd e (by decide)) (by decide)).far (j := 1) (x := .int .i64 (dd : Int)) (O4.set 0 (.int .i64 0)) (fun e => absurd e (by decide)) (by decide)).far (j := 2) (x := .slice qa qn qc) ((O4.set 0 (.int .i64 0)).set 1 (.int .i64 (dd : Int))) (fun e => absurd e (by decide)) (by decide))
    clear hpt4 hb4' hb4 k34 c0 c1 c2 z0 z1 z2 O4 HCOP HK3 HO3 HB3 k3 B3
    go_wp2_with fail
    obtain ⟨q0, q1, q2⟩ := pres_co (x := 0) (y := (dd : Int)) (v := .slice qa qn qc) (unhide O5)
    have BF := unhide B5
    have PF := unhide P5
    clear O5 B5 P5
    generalize ((w4.setCell ⟨w.heap.size, 0, none⟩ (.int .i64 0)).setCell ⟨w.heap.size, 1, none⟩ (.int .i64 (dd : Int))).setCell ⟨w.heap.size, 2, none⟩ (.slice qa qn qc) = WW at *
    refine bodyPost_ret (v := .agg #[.int .i64 0, .int .i64 (dd : Int), .slice qa qn qc]) (by simp [results, Tryz.results29, go_sem, q0, q1, q2]; try rfl) rfl ?_
    rw [unhide FIN]
    obtain ⟨ds, hrn, hds⟩ := PF
    exact ⟨_, _, _, ds, rfl, hrn, hds, BF⟩
set_option maxRecDepth 100000 in
set_option maxHeartbeats 4000000 in
theorem specDeadCore_any (b E : Nat) (l : List Co) (w : World) (hrow : Co.LaidRow w b E l) (hn : l.length ≤ 1048576) (hsz : ∀ i, i < l.length → (l.getD i Co.zero).val.length ≤ 1048576) (hok : ∀ c ∈ l, c.ok) :
    Calls Tryz.prog 19 #[.slice (some ⟨b, 0, none⟩) l.length l.length] w (Ste.Sr w (Ste.pOut l [3])) := by
  obtain ⟨w0, hw0⟩ : ∃ w0, w0 = w.alloc (.cells #[.int .i64 0, .int .i64 0, .slice none 0 0] 26) := ⟨_, rfl⟩
  have B0 : Below w.heap.size w w0 := by rw [hw0]; exact (Below.refl _ _).alloc (Nat.le_refl _) _
  have O0 : Own w0 w.heap.size 26 [.int .i64 0, .int .i64 0, .slice none 0 0] := by rw [hw0]; exact ⟨_, heap_alloc_new _ _, rfl⟩
  have HC := hide (specl10Pass_any 3 (by decide) (by decide) specl10One_3 b E l w0 (hrow.below B0) hn hsz hok)
  clear hsz hok hrow
  generalize Ste.pOut l [3] = o at *
  go_enter Tryz.func19, Tryz.ntmps19
  go_upto_region 1 with fail
  rw [← hw0]
  clear hw0
  go_wp2_with fail
  refine (unhide HC).mono ?_
  rintro e w4 ⟨qa, qn, qc, ds, rfl, hrn, hds, hb4⟩
  have O4 := O0.below hb4 O0.lt
  have B4 : Below w.heap.size w w4 := B0.trans (hb4.mono B0.size)
  obtain ⟨o1, o2, o3⟩ := o
  simp only at hds ⊢
  obtain ⟨c0, c1, c2⟩ := pres_co O4
  have z0 := O4.frozen 0
  have z1 := O4.frozen 1
  have z2 := O4.frozen 2
  have O5 := hide (((O4.set 0 (.int .i64 o1)).set 1 (.int .i64 o2)).set 2 (.slice qa qn qc))
  have B5 := hide (show Below w.heap.size w (((w4.setCell ⟨w.heap.size, 0, none⟩ (.int .i64 o1)).setCell ⟨w.heap.size, 1, none⟩ (.int .i64 o2)).setCell ⟨w.heap.size, 2, none⟩ (.slice qa qn qc)) from ((B4.setCell (Nat.le_refl _) _).setCell (Nat.le_refl _) _).setCell (Nat.le_refl _) _)
  have R5 := hide (show Lm.Rn (((w4.setCell ⟨w.heap.size, 0, none⟩ (.int .i64 o1)).setCell ⟨w.heap.size, 1, none⟩ (.int .i64 o2)).setCell ⟨w.heap.size, 2, none⟩ (.slice qa qn qc)) 0 (.slice qa qn qc) ds from hrn.keep fun k c t h1 h2 _ => by
    have hne : k ≠ w.heap.size := fun e => by
      obtain ⟨c', q1, _⟩ := O4
      rw [e, q1] at h1
      simp only [Option.some.injEq, Obj.cells.injEq] at h1
      rcases h2 with h2 | h2
      · rw [h2] at h1; exact absurd h1.2.1 (by decide)
      · rw [h2] at h1; exact absurd h1.2.1 (by decide)
    rw [heap_setCell_other _ ⟨w.heap.size, 2, none⟩ k _ hne, heap_setCell_other _ ⟨w.heap.size, 1, none⟩ k _ hne, heap_setCell_other _ ⟨w.heap.size, 0, none⟩ k _ hne])
  have HDS := hide hds
  clear HC hrn hds hb4 O4 O0 B4 B0
  go_wp2_with fail
  obtain ⟨q0, q1, q2⟩ := pres_co (x := o1) (y := o2) (v := .slice qa qn qc) (unhide O5)
  have BF := unhide B5
  have RF := unhide R5
  clear O5 B5 R5 c0 c1 c2 z0 z1 z2
  generalize ((w4.setCell ⟨w.heap.size, 0, none⟩ (.int .i64 o1)).setCell ⟨w.heap.size, 1, none⟩ (.int .i64 o2)).setCell ⟨w.heap.size, 2, none⟩ (.slice qa qn qc) = WW at *
  refine bodyPost_ret (v := .agg #[.int .i64 o1, .int .i64 o2, .slice qa qn qc]) (by simp [results, Tryz.results19, go_sem, q0, q1, q2]; try rfl) rfl ?_
  exact ⟨_, _, _, ds, rfl, RF, unhide HDS, BF⟩
set_option maxRecDepth 100000 in
set_option maxHeartbeats 4000000 in
theorem specTryCore_any (b E : Nat) (l : List Co) (w : World) (hrow : Co.LaidRow w b E l) (hn : l.length ≤ 1048576) (hsz : ∀ i, i < l.length → (l.getD i Co.zero).val.length ≤ 1048576) (hok : ∀ c ∈ l, c.ok) :
    Calls Tryz.prog 21 #[.slice (some ⟨b, 0, none⟩) l.length l.length] w (Ste.Sr w (Ste.pOut l [4])) := by
  obtain ⟨w0, hw0⟩ : ∃ w0, w0 = w.alloc (.cells #[.int .i64 0, .int .i64 0, .slice none 0 0] 26) := ⟨_, rfl⟩
  have B0 : Below w.heap.size w w0 := by rw [hw0]; exact (Below.refl _ _).alloc (Nat.le_refl _) _
  have O0 : Own w0 w.heap.size 26 [.int .i64 0, .int .i64 0, .slice none 0 0] := by rw [hw0]; exact ⟨_, heap_alloc_new _ _, rfl⟩
  have HC := hide (specl10Pass_any 4 (by decide) (by decide) specl10One_4 b E l w0 (hrow.below B0) hn hsz hok)
  clear hsz hok hrow
  generalize Ste.pOut l [4] = o at *
  go_enter Tryz.func21, Tryz.ntmps21
  go_upto_region 1 with fail
  rw [← hw0]
  clear hw0
  go_wp2_with fail
  refine (unhide HC).mono ?_
  rintro e w4 ⟨qa, qn, qc, ds, rfl, hrn, hds, hb4⟩
  have O4 := O0.below hb4 O0.lt
  have B4 : Below w.heap.size w w4 := B0.trans (hb4.mono B0.size)
  obtain ⟨o1, o2, o3⟩ := o
  simp only at hds ⊢
  obtain ⟨c0, c1, c2⟩ := pres_co O4
  have z0 := O4.frozen 0
  have z1 := O4.frozen 1
  have z2 := O4.frozen 2
  have O5 := hide (((O4.set 0 (.int .i64 o1)).set 1 (.int .i64 o2)).set 2 (.slice qa qn qc))
  have B5 := hide (show Below w.heap.size w (((w4.setCell ⟨w.heap.size, 0, none⟩ (.int .i64 o1)).setCell ⟨w.heap.size, 1, none⟩ (.int .i64 o2)).setCell ⟨w.heap.size, 2, none⟩ (.slice qa qn qc)) from ((B4.setCell (Nat.le_refl _) _).setCell (Nat.le_refl _) _).setCell (Nat.le_refl _) _)
  have R5 := hide (show Lm.Rn (((w4.setCell ⟨w.heap.size, 0, none⟩ (.int .i64 o1)).setCell ⟨w.heap.size, 1, none⟩ (.int .i64 o2)).setCell ⟨w.heap.size, 2, none⟩ (.slice qa qn qc)) 0 (.slice qa qn qc) ds from hrn.keep fun k c t h1 h2 _ => by
    have hne : k ≠ w.heap.size := fun e => by
      obtain ⟨c', q1, _⟩ := O4
      rw [e, q1] at h1
      simp only [Option.some.injEq, Obj.cells.injEq] at h1
      rcases h2 with h2 | h2
      · rw [h2] at h1; exact absurd h1.2.1 (by decide)
      · rw [h2] at h1; exact absurd h1.2.1 (by decide)
    rw [heap_setCell_other _ ⟨w.heap.size, 2, none⟩ k _ hne, heap_setCell_other _ ⟨w.heap.size, 1, none⟩ k _ hne, heap_setCell_other _ ⟨w.heap.size, 0, none⟩ k _ hne])
  have HDS := hide hds
  clear HC hrn hds hb4 O4 O0 B4 B0
  go_wp2_with fail
  obtain ⟨q0, q1, q2⟩ := pres_co (x := o1) (y := o2) (v := .slice qa qn qc) (unhide O5)
  have BF := unhide B5
  have RF := unhide R5
  clear O5 B5 R5 c0 c1 c2 z0 z1 z2
  generalize ((w4.setCell ⟨w.heap.size, 0, none⟩ (.int .i64 o1)).setCell ⟨w.heap.size, 1, none⟩ (.int .i64 o2)).setCell ⟨w.heap.size, 2, none⟩ (.slice qa qn qc) = WW at *
  refine bodyPost_ret (v := .agg #[.int .i64 o1, .int .i64 o2, .slice qa qn qc]) (by simp [results, Tryz.results21, go_sem, q0, q1, q2]; try rfl) rfl ?_
  exact ⟨_, _, _, ds, rfl, RF, unhide HDS, BF⟩
end Go.Proofs.YtbaanpgbfncdnaaGreat
