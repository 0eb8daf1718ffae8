/-
  spec.l10Dead.
-/
import Derived.Test.YtbaanpgbfncdnaaGreatQ44
namespace Go.Proofs.YtbaanpgbfncdnaaGreat
open Go.RowKit
set_option linter.unusedVariables false
set_option linter.unusedSimpArgs false

/-- The rest of a pass over a node with two parts or more, by what the two make. -/
theorem Ste.dead_of {h : Hd} {L : List Ste} {x0 x1 : Int} (e0 : (Ste.g L 0).hd.op = x0) (e1 : (Ste.g L 1).hd.op = x1) : Ste.dead h L = (if h.op = 3 ∨ h.op = 8 ∨ h.op = 9 ∨ h.op = 12 ∨ h.op = 14 ∨ h.op = 7 ∨ h.op = 11 then (if x0 = 17 then some (Ste.g L 0) else none)
    else if h.op = 6 ∨ h.op = 13 then (if x1 = 17 then some (Ste.g L 1) else none)
    else if h.op = 4 then (if x0 = 17 then some (Ste.g L 1) else if x1 = 17 then some (Ste.g L 0) else none)
    else if h.op = 5 then (if x0 = 17 then some (Ste.g L 1) else if x0 = 2 then some (if truthy (Ste.g L 0).hd.val = true then Ste.g L 0 else Ste.g L 1) else none)
    else none) := by unfold Ste.dead; rw [e0, e1]
set_option maxRecDepth 100000 in
set_option maxHeartbeats 4000000 in
theorem specl10Dead_a (h : Hd) (na nb nc : Int) (va : Option Addr) (vn vc : Nat) (q cap : Nat) (L : List Ste) (w : World) (H : Ste.Ps w q h L) (hl : 2 ≤ L.length) (hops : h.op = 3 ∨ h.op = 7 ∨ h.op = 11 ∨ h.op = 12 ∨ h.op = 14) :
    Calls Tryz.prog 98 #[.agg #[.int .i64 h.op, .int .i64 na, .int .i64 nb, .int .i64 nc, .int .i64 h.num, .slice va vn vc], .slice (some ⟨q, 0, none⟩) L.length cap] w (Ste.Ons w (Ste.dead h L)) := by
  obtain ⟨w0, hw0⟩ : ∃ w0, w0 = w.alloc (.cells #[.int .i64 h.op, .int .i64 na, .int .i64 nb, .int .i64 nc, .int .i64 h.num, .slice va vn vc] 47) := ⟨_, rfl⟩
  have B0 : Below w.heap.size w w0 := by rw [hw0]; exact (Below.refl _ _).alloc (Nat.le_refl _) _
  have O0 : Own w0 w.heap.size 47 [.int .i64 h.op, .int .i64 na, .int .i64 nb, .int .i64 nc, .int .i64 h.num, .slice va vn vc] := by rw [hw0]; exact ⟨_, heap_alloc_new _ _, rfl⟩
  have f0 : w0.cell? ⟨w.heap.size, 0, none⟩ = some (.int .i64 h.op) := O0.cell 0
  obtain ⟨w1, hw1⟩ : ∃ w1, w1 = w0.alloc (.cells #[.int .i64 17, .int .i64 0, .int .i64 0, .int .i64 0, .int .i64 0, .slice none 0 0] 47) := ⟨_, rfl⟩
  have B01 : Below w0.heap.size w0 w1 := by rw [hw1]; exact (Below.refl _ _).alloc (Nat.le_refl _) _
  have B1 : Below w.heap.size w w1 := B0.trans (B01.mono B0.size)
  have E1 := hide (show Ste.Pt w1 (.slice (some ⟨w0.heap.size, 0, none⟩) 1 1) (Ste.n0 ⟨17, 0, []⟩) from Ste.pt_leaf (h := ⟨17, 0, []⟩) (by rw [hw1]; exact ⟨_, heap_alloc_new _ _, rfl⟩) (resNil _ _))
  obtain ⟨ka, kn, kc, d0, hp0, hs0⟩ := (H.below B1).kid 0 (by omega)
  have hq1 := (H.below B1).lt
  have ok0 := H.hO _ (Ste.g_mem (i := 0) (by omega))
  have HE0 := hide (fun e => Ste.empty_eq (s := Ste.g L 0) ok0 e)
  have HV0 := hide (show (Ste.g L 0).hd.op = 2 → M.valueFault (Ste.g L 0).hd.val = 0 from fun e => ((Ste.ok_iff _).1 ok0).1.val (by rw [e]; rfl))
  have HT0 := hide (specl10Top_any _ _ w1 hp0 hs0)
  have HP00 := hide hp0
  have O01 := O0.below B01 O0.lt
  obtain ⟨ma, mn, mc, d1, hp1, hs1⟩ := (H.below B1).kid 1 (by omega)
  have ok1 := H.hO _ (Ste.g_mem (i := 1) (by omega))
  have HE1 := hide (fun e => Ste.empty_eq (s := Ste.g L 1) ok1 e)
  have HT1 := hide (fun (W : World) (hb : Below w1.heap.size w1 W) => specl10Top_any _ _ W (hp1.below hb) hs1)
  have HP10 := hide hp1
  have HD := hide (Ste.dead_of (h := h) (L := L) rfl rfl)
  have hlI : (L.length : Int) > 1 := by omega
  have hlJ : (0 : Int) < (L.length : Int) := by omega
  have hlN : 1 < L.length := by omega
  generalize Ste.g L 0 = s0 at *
  generalize Ste.g L 1 = s1 at *
  clear hp0 hs0 hp1 hs1 O0 H ok0 ok1
  have HOP := hide hops
  clear hops
  go_enter Tryz.func98, Tryz.ntmps98
  go_upto_region 1 with fail
  rw [← hw0]
  clear hw0
  go_upto_region 2 with fail
  rw [← hw1]
  clear hw1
  go_wp2_with fail
  refine (unhide HT0).mono ?_
  rintro e w2 ⟨ta, tb, tc, xa, xn, xc, rfl, hr0, hb2⟩
  obtain ⟨w3, hw3⟩ : ∃ w3, w3 = w2.alloc (.cells #[.int .i64 s0.hd.op, .int .i64 ta, .int .i64 tb, .int .i64 tc, .int .i64 s0.hd.num, .slice xa xn xc] 47) := ⟨_, rfl⟩
  have B23 : Below w2.heap.size w2 w3 := by rw [hw3]; exact (Below.refl _ _).alloc (Nat.le_refl _) _
  have B13 : Below w1.heap.size w1 w3 := hb2.trans (B23.mono hb2.size)
  have OA := (show Own w3 w2.heap.size 47 [.int .i64 s0.hd.op, .int .i64 ta, .int .i64 tb, .int .i64 tc, .int .i64 s0.hd.num, .slice xa xn xc] by rw [hw3]; exact ⟨_, heap_alloc_new _ _, rfl⟩)
  have hr3 := hr0.below B23
  clear HT0 hr0
  go_upto_region 3 with fail
  rw [← hw3]
  clear hw3
  have e1 := (Ste.cellk (i := 1) B13 hq1).trans d1
  have a03 : w3.cell? ⟨w2.heap.size, 0, none⟩ = some (.int .i64 s0.hd.op) := OA.cell 0
  have HT := hide ((unhide HT1) w3 B13)
  clear HT1
  go_wp2_with fail
  refine (unhide HT).mono ?_
  rintro e w4 ⟨tA, tB, tC, yA, yN, yC, rfl, _, hb4⟩
  have hfo := Ste.field_op s1.hd.op tA tB tC s1.hd.num yA yN yC
  have B14 : Below w1.heap.size w1 w4 := B13.trans (hb4.mono B13.size)
  have B4 : Below w.heap.size w w4 := B1.trans (B14.mono B1.size)
  have f4 : w4.cell? ⟨w.heap.size, 0, none⟩ = some (.int .i64 h.op) := (O01.below B14 O01.lt).cell 0
  have OA4 := OA.below hb4 OA.lt
  have a0 : w4.cell? ⟨w2.heap.size, 0, none⟩ = some (.int .i64 s0.hd.op) := OA4.cell 0
  have a5 : w4.cell? ⟨w2.heap.size, 5, none⟩ = some (.slice xa xn xc) := OA4.cell 5
  have g0 := (Ste.cellk (i := 0) B14 hq1).trans d0
  have g1 := (Ste.cellk (i := 1) B14 hq1).trans d1
  have hq4 : q < w4.heap.size := Nat.lt_of_lt_of_le hq1 B14.size
  have E4 := hide ((unhide E1).below B14)
  have HP0 := hide ((unhide HP00).below B14)
  have HP1 := hide ((unhide HP10).below B14)
  have HR4 := hide (hr3.below hb4)
  clear HT OA OA4 O01 hr3 B23 hb2 hb4 B01 f0 d0 d1 e1 a03 HP00 HP10 E1 B13 B14 B1 B0
  have hops := unhide HOP
  generalize hx0 : s0.hd.op = x0 at *
  generalize hx1 : s1.hd.op = x1 at *
  by_cases p1 : x0 = 17
  · have E0 := hide ((unhide HE0) p1)
    have FIN := hide (show Ste.dead h L = some s0 by rw [unhide HD, if_pos (by omega), if_pos p1])
    subst p1
    clear HD HE0 HE1 HV0
    rcases hops with e | e | e | e | e
    all_goals
      rw [e] at f4
      clear e
      go_wp2_with fail
      ((try simp only [Exit.inBlock, Exit.then]); refine bodyPost_ret (results_tmp2 rfl _ _ _) rfl ?_)
      rw [unhide FIN]; exact Ste.ons_yes (by rw [unhide E0]; exact unhide E4) B4
  · have i1 : (x0 == 17) = false := beq_eq_false_iff_ne.2 p1
    have FIN := hide (show Ste.dead h L = none by rw [unhide HD, if_pos (by omega), if_neg p1])
    clear HD HE0 HE1 HV0
    rcases hops with e | e | e | e | e
    all_goals
      rw [e] at f4
      clear e
      go_wp2_with fail
      ((try simp only [Exit.inBlock, Exit.then]); refine bodyPost_ret (results_tmp2 rfl _ _ _) rfl ?_)
      rw [unhide FIN]; exact Ste.ons_no B4
set_option maxRecDepth 100000 in
set_option maxHeartbeats 4000000 in
theorem specl10Dead_b (h : Hd) (na nb nc : Int) (va : Option Addr) (vn vc : Nat) (q cap : Nat) (L : List Ste) (w : World) (H : Ste.Ps w q h L) (hl : 2 ≤ L.length) (hops : h.op = 6 ∨ h.op = 13) :
    Calls Tryz.prog 98 #[.agg #[.int .i64 h.op, .int .i64 na, .int .i64 nb, .int .i64 nc, .int .i64 h.num, .slice va vn vc], .slice (some ⟨q, 0, none⟩) L.length cap] w (Ste.Ons w (Ste.dead h L)) := by
  obtain ⟨w0, hw0⟩ : ∃ w0, w0 = w.alloc (.cells #[.int .i64 h.op, .int .i64 na, .int .i64 nb, .int .i64 nc, .int .i64 h.num, .slice va vn vc] 47) := ⟨_, rfl⟩
  have B0 : Below w.heap.size w w0 := by rw [hw0]; exact (Below.refl _ _).alloc (Nat.le_refl _) _
  have O0 : Own w0 w.heap.size 47 [.int .i64 h.op, .int .i64 na, .int .i64 nb, .int .i64 nc, .int .i64 h.num, .slice va vn vc] := by rw [hw0]; exact ⟨_, heap_alloc_new _ _, rfl⟩
  have f0 : w0.cell? ⟨w.heap.size, 0, none⟩ = some (.int .i64 h.op) := O0.cell 0
  obtain ⟨w1, hw1⟩ : ∃ w1, w1 = w0.alloc (.cells #[.int .i64 17, .int .i64 0, .int .i64 0, .int .i64 0, .int .i64 0, .slice none 0 0] 47) := ⟨_, rfl⟩
  have B01 : Below w0.heap.size w0 w1 := by rw [hw1]; exact (Below.refl _ _).alloc (Nat.le_refl _) _
  have B1 : Below w.heap.size w w1 := B0.trans (B01.mono B0.size)
  have E1 := hide (show Ste.Pt w1 (.slice (some ⟨w0.heap.size, 0, none⟩) 1 1) (Ste.n0 ⟨17, 0, []⟩) from Ste.pt_leaf (h := ⟨17, 0, []⟩) (by rw [hw1]; exact ⟨_, heap_alloc_new _ _, rfl⟩) (resNil _ _))
  obtain ⟨ka, kn, kc, d0, hp0, hs0⟩ := (H.below B1).kid 0 (by omega)
  have hq1 := (H.below B1).lt
  have ok0 := H.hO _ (Ste.g_mem (i := 0) (by omega))
  have HE0 := hide (fun e => Ste.empty_eq (s := Ste.g L 0) ok0 e)
  have HV0 := hide (show (Ste.g L 0).hd.op = 2 → M.valueFault (Ste.g L 0).hd.val = 0 from fun e => ((Ste.ok_iff _).1 ok0).1.val (by rw [e]; rfl))
  have HT0 := hide (specl10Top_any _ _ w1 hp0 hs0)
  have HP00 := hide hp0
  have O01 := O0.below B01 O0.lt
  obtain ⟨ma, mn, mc, d1, hp1, hs1⟩ := (H.below B1).kid 1 (by omega)
  have ok1 := H.hO _ (Ste.g_mem (i := 1) (by omega))
  have HE1 := hide (fun e => Ste.empty_eq (s := Ste.g L 1) ok1 e)
  have HT1 := hide (fun (W : World) (hb : Below w1.heap.size w1 W) => specl10Top_any _ _ W (hp1.below hb) hs1)
  have HP10 := hide hp1
  have HD := hide (Ste.dead_of (h := h) (L := L) rfl rfl)
  have hlI : (L.length : Int) > 1 := by omega
  have hlJ : (0 : Int) < (L.length : Int) := by omega
  have hlN : 1 < L.length := by omega
  generalize Ste.g L 0 = s0 at *
  generalize Ste.g L 1 = s1 at *
  clear hp0 hs0 hp1 hs1 O0 H ok0 ok1
  have HOP := hide hops
  clear hops
  go_enter Tryz.func98, Tryz.ntmps98
  go_upto_region 1 with fail
  rw [← hw0]
  clear hw0
  go_upto_region 2 with fail
  rw [← hw1]
  clear hw1
  go_wp2_with fail
  refine (unhide HT0).mono ?_
  rintro e w2 ⟨ta, tb, tc, xa, xn, xc, rfl, hr0, hb2⟩
  obtain ⟨w3, hw3⟩ : ∃ w3, w3 = w2.alloc (.cells #[.int .i64 s0.hd.op, .int .i64 ta, .int .i64 tb, .int .i64 tc, .int .i64 s0.hd.num, .slice xa xn xc] 47) := ⟨_, rfl⟩
  have B23 : Below w2.heap.size w2 w3 := by rw [hw3]; exact (Below.refl _ _).alloc (Nat.le_refl _) _
  have B13 : Below w1.heap.size w1 w3 := hb2.trans (B23.mono hb2.size)
  have OA := (show Own w3 w2.heap.size 47 [.int .i64 s0.hd.op, .int .i64 ta, .int .i64 tb, .int .i64 tc, .int .i64 s0.hd.num, .slice xa xn xc] by rw [hw3]; exact ⟨_, heap_alloc_new _ _, rfl⟩)
  have hr3 := hr0.below B23
  clear HT0 hr0
  go_upto_region 3 with fail
  rw [← hw3]
  clear hw3
  have e1 := (Ste.cellk (i := 1) B13 hq1).trans d1
  have a03 : w3.cell? ⟨w2.heap.size, 0, none⟩ = some (.int .i64 s0.hd.op) := OA.cell 0
  have HT := hide ((unhide HT1) w3 B13)
  clear HT1
  go_wp2_with fail
  refine (unhide HT).mono ?_
  rintro e w4 ⟨tA, tB, tC, yA, yN, yC, rfl, _, hb4⟩
  have hfo := Ste.field_op s1.hd.op tA tB tC s1.hd.num yA yN yC
  have B14 : Below w1.heap.size w1 w4 := B13.trans (hb4.mono B13.size)
  have B4 : Below w.heap.size w w4 := B1.trans (B14.mono B1.size)
  have f4 : w4.cell? ⟨w.heap.size, 0, none⟩ = some (.int .i64 h.op) := (O01.below B14 O01.lt).cell 0
  have OA4 := OA.below hb4 OA.lt
  have a0 : w4.cell? ⟨w2.heap.size, 0, none⟩ = some (.int .i64 s0.hd.op) := OA4.cell 0
  have a5 : w4.cell? ⟨w2.heap.size, 5, none⟩ = some (.slice xa xn xc) := OA4.cell 5
  have g0 := (Ste.cellk (i := 0) B14 hq1).trans d0
  have g1 := (Ste.cellk (i := 1) B14 hq1).trans d1
  have hq4 : q < w4.heap.size := Nat.lt_of_lt_of_le hq1 B14.size
  have E4 := hide ((unhide E1).below B14)
  have HP0 := hide ((unhide HP00).below B14)
  have HP1 := hide ((unhide HP10).below B14)
  have HR4 := hide (hr3.below hb4)
  clear HT OA OA4 O01 hr3 B23 hb2 hb4 B01 f0 d0 d1 e1 a03 HP00 HP10 E1 B13 B14 B1 B0
  have hops := unhide HOP
  generalize hx0 : s0.hd.op = x0 at *
  generalize hx1 : s1.hd.op = x1 at *
  by_cases p1 : x1 = 17
  · have E0 := hide ((unhide HE1) p1)
    have FIN := hide (show Ste.dead h L = some s1 by rw [unhide HD, if_neg (by omega), if_pos (by omega), if_pos p1])
    subst p1
    clear HD HE0 HE1 HV0
    rcases hops with e | e
    all_goals
      rw [e] at f4
      clear e
      go_wp2_with fail
      ((try simp only [Exit.inBlock, Exit.then]); refine bodyPost_ret (results_tmp2 rfl _ _ _) rfl ?_)
      rw [unhide FIN]; exact Ste.ons_yes (by rw [unhide E0]; exact unhide E4) B4
  · have i1 : (x1 == 17) = false := beq_eq_false_iff_ne.2 p1
    have FIN := hide (show Ste.dead h L = none by rw [unhide HD, if_neg (by omega), if_pos (by omega), if_neg p1])
    clear HD HE0 HE1 HV0
    rcases hops with e | e
    all_goals
      rw [e] at f4
      clear e
      go_wp2_with fail
      ((try simp only [Exit.inBlock, Exit.then]); refine bodyPost_ret (results_tmp2 rfl _ _ _) rfl ?_)
      rw [unhide FIN]; exact Ste.ons_no B4
set_option maxRecDepth 100000 in
set_option maxHeartbeats 4000000 in
theorem specl10Dead_c (h : Hd) (na nb nc : Int) (va : Option Addr) (vn vc : Nat) (q cap : Nat) (L : List Ste) (w : World) (H : Ste.Ps w q h L) (hl : 2 ≤ L.length) (hops : h.op = 4) :
    Calls Tryz.prog 98 #[.agg #[.int .i64 h.op, .int .i64 na, .int .i64 nb, .int .i64 nc, .int .i64 h.num, .slice va vn vc], .slice (some ⟨q, 0, none⟩) L.length cap] w (Ste.Ons w (Ste.dead h L)) := by
  obtain ⟨w0, hw0⟩ : ∃ w0, w0 = w.alloc (.cells #[.int .i64 h.op, .int .i64 na, .int .i64 nb, .int .i64 nc, .int .i64 h.num, .slice va vn vc] 47) := ⟨_, rfl⟩
  have B0 : Below w.heap.size w w0 := by rw [hw0]; exact (Below.refl _ _).alloc (Nat.le_refl _) _
  have O0 : Own w0 w.heap.size 47 [.int .i64 h.op, .int .i64 na, .int .i64 nb, .int .i64 nc, .int .i64 h.num, .slice va vn vc] := by rw [hw0]; exact ⟨_, heap_alloc_new _ _, rfl⟩
  have f0 : w0.cell? ⟨w.heap.size, 0, none⟩ = some (.int .i64 h.op) := O0.cell 0
  obtain ⟨w1, hw1⟩ : ∃ w1, w1 = w0.alloc (.cells #[.int .i64 17, .int .i64 0, .int .i64 0, .int .i64 0, .int .i64 0, .slice none 0 0] 47) := ⟨_, rfl⟩
  have B01 : Below w0.heap.size w0 w1 := by rw [hw1]; exact (Below.refl _ _).alloc (Nat.le_refl _) _
  have B1 : Below w.heap.size w w1 := B0.trans (B01.mono B0.size)
  have E1 := hide (show Ste.Pt w1 (.slice (some ⟨w0.heap.size, 0, none⟩) 1 1) (Ste.n0 ⟨17, 0, []⟩) from Ste.pt_leaf (h := ⟨17, 0, []⟩) (by rw [hw1]; exact ⟨_, heap_alloc_new _ _, rfl⟩) (resNil _ _))
  obtain ⟨ka, kn, kc, d0, hp0, hs0⟩ := (H.below B1).kid 0 (by omega)
  have hq1 := (H.below B1).lt
  have ok0 := H.hO _ (Ste.g_mem (i := 0) (by omega))
  have HE0 := hide (fun e => Ste.empty_eq (s := Ste.g L 0) ok0 e)
  have HV0 := hide (show (Ste.g L 0).hd.op = 2 → M.valueFault (Ste.g L 0).hd.val = 0 from fun e => ((Ste.ok_iff _).1 ok0).1.val (by rw [e]; rfl))
  have HT0 := hide (specl10Top_any _ _ w1 hp0 hs0)
  have HP00 := hide hp0
  have O01 := O0.below B01 O0.lt
  obtain ⟨ma, mn, mc, d1, hp1, hs1⟩ := (H.below B1).kid 1 (by omega)
  have ok1 := H.hO _ (Ste.g_mem (i := 1) (by omega))
  have HE1 := hide (fun e => Ste.empty_eq (s := Ste.g L 1) ok1 e)
  have HT1 := hide (fun (W : World) (hb : Below w1.heap.size w1 W) => specl10Top_any _ _ W (hp1.below hb) hs1)
  have HP10 := hide hp1
  have HD := hide (Ste.dead_of (h := h) (L := L) rfl rfl)
  have hlI : (L.length : Int) > 1 := by omega
  have hlJ : (0 : Int) < (L.length : Int) := by omega
  have hlN : 1 < L.length := by omega
  generalize Ste.g L 0 = s0 at *
  generalize Ste.g L 1 = s1 at *
  clear hp0 hs0 hp1 hs1 O0 H ok0 ok1
  have HOP := hide hops
  clear hops
  go_enter Tryz.func98, Tryz.ntmps98
  go_upto_region 1 with fail
  rw [← hw0]
  clear hw0
  go_upto_region 2 with fail
  rw [← hw1]
  clear hw1
  go_wp2_with fail
  refine (unhide HT0).mono ?_
  rintro e w2 ⟨ta, tb, tc, xa, xn, xc, rfl, hr0, hb2⟩
  obtain ⟨w3, hw3⟩ : ∃ w3, w3 = w2.alloc (.cells #[.int .i64 s0.hd.op, .int .i64 ta, .int .i64 tb, .int .i64 tc, .int .i64 s0.hd.num, .slice xa xn xc] 47) := ⟨_, rfl⟩
  have B23 : Below w2.heap.size w2 w3 := by rw [hw3]; exact (Below.refl _ _).alloc (Nat.le_refl _) _
  have B13 : Below w1.heap.size w1 w3 := hb2.trans (B23.mono hb2.size)
  have OA := (show Own w3 w2.heap.size 47 [.int .i64 s0.hd.op, .int .i64 ta, .int .i64 tb, .int .i64 tc, .int .i64 s0.hd.num, .slice xa xn xc] by rw [hw3]; exact ⟨_, heap_alloc_new _ _, rfl⟩)
  have hr3 := hr0.below B23
  clear HT0 hr0
  go_upto_region 3 with fail
  rw [← hw3]
  clear hw3
  have e1 := (Ste.cellk (i := 1) B13 hq1).trans d1
  have a03 : w3.cell? ⟨w2.heap.size, 0, none⟩ = some (.int .i64 s0.hd.op) := OA.cell 0
  have HT := hide ((unhide HT1) w3 B13)
  clear HT1
  go_wp2_with fail
  refine (unhide HT).mono ?_
  rintro e w4 ⟨tA, tB, tC, yA, yN, yC, rfl, _, hb4⟩
  have hfo := Ste.field_op s1.hd.op tA tB tC s1.hd.num yA yN yC
  have B14 : Below w1.heap.size w1 w4 := B13.trans (hb4.mono B13.size)
  have B4 : Below w.heap.size w w4 := B1.trans (B14.mono B1.size)
  have f4 : w4.cell? ⟨w.heap.size, 0, none⟩ = some (.int .i64 h.op) := (O01.below B14 O01.lt).cell 0
  have OA4 := OA.below hb4 OA.lt
  have a0 : w4.cell? ⟨w2.heap.size, 0, none⟩ = some (.int .i64 s0.hd.op) := OA4.cell 0
  have a5 : w4.cell? ⟨w2.heap.size, 5, none⟩ = some (.slice xa xn xc) := OA4.cell 5
  have g0 := (Ste.cellk (i := 0) B14 hq1).trans d0
  have g1 := (Ste.cellk (i := 1) B14 hq1).trans d1
  have hq4 : q < w4.heap.size := Nat.lt_of_lt_of_le hq1 B14.size
  have E4 := hide ((unhide E1).below B14)
  have HP0 := hide ((unhide HP00).below B14)
  have HP1 := hide ((unhide HP10).below B14)
  have HR4 := hide (hr3.below hb4)
  clear HT OA OA4 O01 hr3 B23 hb2 hb4 B01 f0 d0 d1 e1 a03 HP00 HP10 E1 B13 B14 B1 B0
  have hops := unhide HOP
  generalize hx0 : s0.hd.op = x0 at *
  generalize hx1 : s1.hd.op = x1 at *
  rw [hops] at f4
  have hd := unhide HD
  rw [if_neg (by omega), if_neg (by omega), if_pos hops] at hd
  clear HD HE0 HE1 HV0 hops
  by_cases p1 : x0 = 17
  · rw [if_pos p1] at hd
    have FIN := hide hd
    subst p1
    clear hd
    go_wp2_with fail
    ((try simp only [Exit.inBlock, Exit.then]); refine bodyPost_ret (results_tmp2 rfl _ _ _) rfl ?_)
    rw [unhide FIN]; exact Ste.ons_yes (unhide HP1) B4
  rw [if_neg p1] at hd
  have i1 : (x0 == 17) = false := beq_eq_false_iff_ne.2 p1
  by_cases p2 : x1 = 17
  · rw [if_pos p2] at hd
    have FIN := hide hd
    subst p2
    clear hd
    go_wp2_with fail
    ((try simp only [Exit.inBlock, Exit.then]); refine bodyPost_ret (results_tmp2 rfl _ _ _) rfl ?_)
    rw [unhide FIN]; exact Ste.ons_yes (unhide HP0) B4
  · rw [if_neg p2] at hd
    have i2 : (x1 == 17) = false := beq_eq_false_iff_ne.2 p2
    have FIN := hide hd
    clear hd
    go_wp2_with fail
    ((try simp only [Exit.inBlock, Exit.then]); refine bodyPost_ret (results_tmp2 rfl _ _ _) rfl ?_)
    rw [unhide FIN]; exact Ste.ons_no B4
set_option maxRecDepth 100000 in
set_option maxHeartbeats 4000000 in
theorem specl10Dead_d (h : Hd) (na nb nc : Int) (va : Option Addr) (vn vc : Nat) (q cap : Nat) (L : List Ste) (w : World) (H : Ste.Ps w q h L) (hl : 2 ≤ L.length) (hops : h.op = 5) :
    Calls Tryz.prog 98 #[.agg #[.int .i64 h.op, .int .i64 na, .int .i64 nb, .int .i64 nc, .int .i64 h.num, .slice va vn vc], .slice (some ⟨q, 0, none⟩) L.length cap] w (Ste.Ons w (Ste.dead h L)) := by
  obtain ⟨w0, hw0⟩ : ∃ w0, w0 = w.alloc (.cells #[.int .i64 h.op, .int .i64 na, .int .i64 nb, .int .i64 nc, .int .i64 h.num, .slice va vn vc] 47) := ⟨_, rfl⟩
  have B0 : Below w.heap.size w w0 := by rw [hw0]; exact (Below.refl _ _).alloc (Nat.le_refl _) _
  have O0 : Own w0 w.heap.size 47 [.int .i64 h.op, .int .i64 na, .int .i64 nb, .int .i64 nc, .int .i64 h.num, .slice va vn vc] := by rw [hw0]; exact ⟨_, heap_alloc_new _ _, rfl⟩
  have f0 : w0.cell? ⟨w.heap.size, 0, none⟩ = some (.int .i64 h.op) := O0.cell 0
  obtain ⟨w1, hw1⟩ : ∃ w1, w1 = w0.alloc (.cells #[.int .i64 17, .int .i64 0, .int .i64 0, .int .i64 0, .int .i64 0, .slice none 0 0] 47) := ⟨_, rfl⟩
  have B01 : Below w0.heap.size w0 w1 := by rw [hw1]; exact (Below.refl _ _).alloc (Nat.le_refl _) _
  have B1 : Below w.heap.size w w1 := B0.trans (B01.mono B0.size)
  have E1 := hide (show Ste.Pt w1 (.slice (some ⟨w0.heap.size, 0, none⟩) 1 1) (Ste.n0 ⟨17, 0, []⟩) from Ste.pt_leaf (h := ⟨17, 0, []⟩) (by rw [hw1]; exact ⟨_, heap_alloc_new _ _, rfl⟩) (resNil _ _))
  obtain ⟨ka, kn, kc, d0, hp0, hs0⟩ := (H.below B1).kid 0 (by omega)
  have hq1 := (H.below B1).lt
  have ok0 := H.hO _ (Ste.g_mem (i := 0) (by omega))
  have HE0 := hide (fun e => Ste.empty_eq (s := Ste.g L 0) ok0 e)
  have HV0 := hide (show (Ste.g L 0).hd.op = 2 → M.valueFault (Ste.g L 0).hd.val = 0 from fun e => ((Ste.ok_iff _).1 ok0).1.val (by rw [e]; rfl))
  have HT0 := hide (specl10Top_any _ _ w1 hp0 hs0)
  have HP00 := hide hp0
  have O01 := O0.below B01 O0.lt
  obtain ⟨ma, mn, mc, d1, hp1, hs1⟩ := (H.below B1).kid 1 (by omega)
  have ok1 := H.hO _ (Ste.g_mem (i := 1) (by omega))
  have HE1 := hide (fun e => Ste.empty_eq (s := Ste.g L 1) ok1 e)
  have HT1 := hide (fun (W : World) (hb : Below w1.heap.size w1 W) => specl10Top_any _ _ W (hp1.below hb) hs1)
  have HP10 := hide hp1
  have HD := hide (Ste.dead_of (h := h) (L := L) rfl rfl)
  have hlI : (L.length : Int) > 1 := by omega
  have hlJ : (0 : Int) < (L.length : Int) := by omega
  have hlN : 1 < L.length := by omega
  generalize Ste.g L 0 = s0 at *
  generalize Ste.g L 1 = s1 at *
  clear hp0 hs0 hp1 hs1 O0 H ok0 ok1
  have HOP := hide hops
  clear hops
  go_enter Tryz.func98, Tryz.ntmps98
  go_upto_region 1 with fail
  rw [← hw0]
  clear hw0
  go_upto_region 2 with fail
  rw [← hw1]
  clear hw1
  go_wp2_with fail
  refine (unhide HT0).mono ?_
  rintro e w2 ⟨ta, tb, tc, xa, xn, xc, rfl, hr0, hb2⟩
  obtain ⟨w3, hw3⟩ : ∃ w3, w3 = w2.alloc (.cells #[.int .i64 s0.hd.op, .int .i64 ta, .int .i64 tb, .int .i64 tc, .int .i64 s0.hd.num, .slice xa xn xc] 47) := ⟨_, rfl⟩
  have B23 : Below w2.heap.size w2 w3 := by rw [hw3]; exact (Below.refl _ _).alloc (Nat.le_refl _) _
  have B13 : Below w1.heap.size w1 w3 := hb2.trans (B23.mono hb2.size)
  have OA := (show Own w3 w2.heap.size 47 [.int .i64 s0.hd.op, .int .i64 ta, .int .i64 tb, .int .i64 tc, .int .i64 s0.hd.num, .slice xa xn xc] by rw [hw3]; exact ⟨_, heap_alloc_new _ _, rfl⟩)
  have hr3 := hr0.below B23
  clear HT0 hr0
  go_upto_region 3 with fail
  rw [← hw3]
  clear hw3
  have e1 := (Ste.cellk (i := 1) B13 hq1).trans d1
  have a03 : w3.cell? ⟨w2.heap.size, 0, none⟩ = some (.int .i64 s0.hd.op) := OA.cell 0
  have HT := hide ((unhide HT1) w3 B13)
  clear HT1
  go_wp2_with fail
  refine (unhide HT).mono ?_
  rintro e w4 ⟨tA, tB, tC, yA, yN, yC, rfl, _, hb4⟩
  have hfo := Ste.field_op s1.hd.op tA tB tC s1.hd.num yA yN yC
  have B14 : Below w1.heap.size w1 w4 := B13.trans (hb4.mono B13.size)
  have B4 : Below w.heap.size w w4 := B1.trans (B14.mono B1.size)
  have f4 : w4.cell? ⟨w.heap.size, 0, none⟩ = some (.int .i64 h.op) := (O01.below B14 O01.lt).cell 0
  have OA4 := OA.below hb4 OA.lt
  have a0 : w4.cell? ⟨w2.heap.size, 0, none⟩ = some (.int .i64 s0.hd.op) := OA4.cell 0
  have a5 : w4.cell? ⟨w2.heap.size, 5, none⟩ = some (.slice xa xn xc) := OA4.cell 5
  have g0 := (Ste.cellk (i := 0) B14 hq1).trans d0
  have g1 := (Ste.cellk (i := 1) B14 hq1).trans d1
  have hq4 : q < w4.heap.size := Nat.lt_of_lt_of_le hq1 B14.size
  have E4 := hide ((unhide E1).below B14)
  have HP0 := hide ((unhide HP00).below B14)
  have HP1 := hide ((unhide HP10).below B14)
  have HR4 := hide (hr3.below hb4)
  clear HT OA OA4 O01 hr3 B23 hb2 hb4 B01 f0 d0 d1 e1 a03 HP00 HP10 E1 B13 B14 B1 B0
  have hops := unhide HOP
  generalize hx0 : s0.hd.op = x0 at *
  generalize hx1 : s1.hd.op = x1 at *
  rw [hops] at f4
  have hd := unhide HD
  rw [if_neg (by omega), if_neg (by omega), if_neg (by omega), if_pos hops] at hd
  clear HD HE0 HE1 hops
  by_cases p1 : x0 = 17
  · rw [if_pos p1] at hd
    have FIN := hide hd
    subst p1
    clear hd HV0
    go_wp2_with fail
    ((try simp only [Exit.inBlock, Exit.then]); refine bodyPost_ret (results_tmp2 rfl _ _ _) rfl ?_)
    rw [unhide FIN]; exact Ste.ons_yes (unhide HP1) B4
  rw [if_neg p1] at hd
  have i1 : (x0 == 17) = false := beq_eq_false_iff_ne.2 p1
  by_cases p2 : x0 = 2
  · rw [if_pos p2] at hd
    have hval := (unhide HV0) p2
    subst p2
    obtain ⟨vb, vcap, hsl, hcp, hlt, hrw⟩ := (unhide HR4).rowed (fun e => by have := (len_of_valid hval).1; rw [e] at this; simp at this)
    have HTR := hide (specl1Truthy_any s0.hd.val vb vcap w4 hval hrw hlt hcp)
    rw [← hsl] at HTR
    have FIN := hide hd
    clear HV0 hd hsl hrw hval HR4 hlt hcp
    generalize truthy s0.hd.val = tr at *
    go_wp2_with fail
    refine (unhide HTR).mono ?_
    rintro e w5 ⟨rfl, hb5⟩
    have B5 : Below w.heap.size w w5 := B4.trans (hb5.mono B4.size)
    have k0 := (Ste.cellk (i := 0) hb5 hq4).trans g0
    have k1 := (Ste.cellk (i := 1) hb5 hq4).trans g1
    have Q0 := hide ((unhide HP0).below hb5)
    have Q1 := hide ((unhide HP1).below hb5)
    clear HTR hb5 HP0 HP1
    cases tr
    · go_wp2_with fail
      ((try simp only [Exit.inBlock, Exit.then]); refine bodyPost_ret (results_tmp2 rfl _ _ _) rfl ?_)
      rw [unhide FIN]; exact Ste.ons_yes (unhide Q1) B5
    · go_wp2_with fail
      ((try simp only [Exit.inBlock, Exit.then]); refine bodyPost_ret (results_tmp2 rfl _ _ _) rfl ?_)
      rw [unhide FIN]; exact Ste.ons_yes (unhide Q0) B5
  · rw [if_neg p2] at hd
    have i2 : (x0 == 2) = false := beq_eq_false_iff_ne.2 p2
    have FIN := hide hd
    clear hd HV0
    go_wp2_with fail
    ((try simp only [Exit.inBlock, Exit.then]); refine bodyPost_ret (results_tmp2 rfl _ _ _) rfl ?_)
    rw [unhide FIN]; exact Ste.ons_no B4
theorem specl10Dead_any (h : Hd) (na nb nc : Int) (va : Option Addr) (vn vc : Nat) (q cap : Nat) (L : List Ste) (w : World) (H : Ste.Ps w q h L) (hl : 0 < L.length) :
    Calls Tryz.prog 98 #[.agg #[.int .i64 h.op, .int .i64 na, .int .i64 nb, .int .i64 nc, .int .i64 h.num, .slice va vn vc], .slice (some ⟨q, 0, none⟩) L.length cap] w (Ste.Ons w (Ste.dead h L)) := by
  by_cases h1 : L.length = 1
  · exact specl10Dead_1 h na nb nc va vn vc q cap L w H h1
  have h2 : 2 ≤ L.length := by omega
  have hk := H.hF.kid
  have hops : h.op = 3 ∨ h.op = 4 ∨ h.op = 5 ∨ h.op = 6 ∨ h.op = 7 ∨ h.op = 11 ∨ h.op = 12 ∨ h.op = 13 ∨ h.op = 14 := by
    unfold Co.kids at hk
    (repeat' split at hk) <;> omega
  clear hk
  by_cases a : h.op = 3 ∨ h.op = 7 ∨ h.op = 11 ∨ h.op = 12 ∨ h.op = 14
  · exact specl10Dead_a h na nb nc va vn vc q cap L w H h2 a
  by_cases b : h.op = 6 ∨ h.op = 13
  · exact specl10Dead_b h na nb nc va vn vc q cap L w H h2 b
  by_cases c : h.op = 4
  · exact specl10Dead_c h na nb nc va vn vc q cap L w H h2 c
  · exact specl10Dead_d h na nb nc va vn vc q cap L w H h2 (by omega)

end Go.Proofs.YtbaanpgbfncdnaaGreat
