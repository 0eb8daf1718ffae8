/-
  Proved: at every argument impl.ApplyEdits answers as spec.ApplyEdits, every field, writes nothing into its arguments, and its answer owns its memory (laws.FnExactApplyEdits returns true). No condition.
-/
import Derived.Test.YtoaibccmlmaknaaGreatEdB
import Derived.Test.YtoaibccmlmaknaaGreatRedT
import Derived.Test.YtoaibccmlmaknaaGreatArg
import Derived.ShutString
import Derived.ChangeOld
namespace Go.Proofs.YtoaibccmlmaknaaGreat
open Go.ChangeShapes Go.WideShapes Go.ChangeAt Go.RowKit
open Go.ChangeMaps (open_string shut_string)
set_option linter.unusedVariables false

theorem rowAlloc {w : World} {b : Nat} {t : TypeId} {l : List M.Cl} (h : OwnRow w b t l) (o : Obj) : OwnRow (w.alloc o) b t l := by
  obtain ⟨xs, p1, p2⟩ := h
  exact ⟨xs, p1.alloc _, p2⟩
theorem But.res {B b : Nat} {w w' : World} (h : But B b w w') {C : Nat} {s : Value} {l : List M.Cl} (hr : Res w C s l) (hB : w.heap.size ≤ B) (hne : s.ownBlock ≠ some b) : Res w' C s l := by
  obtain ⟨q1, q2 | ⟨c, cc, q3, q4, q5, q6⟩⟩ := hr
  · exact ⟨q1, .inl q2⟩
  · exact ⟨q1, .inr ⟨c, cc, q3, q4, q5, h.ownG q6 (Nat.lt_of_lt_of_le q6.lt hB) (fun e => hne (by rw [q3, e]; rfl))⟩⟩

set_option maxRecDepth 100000 in
set_option maxHeartbeats 8000000 in
theorem lawApplyEdits_walk (a0 : Option Addr) (cap0 : Nat) (l0 : List M.Cl) (a1 : Option Addr) (cap1 : Nat) (l1 : List Ed) (w : World) (hA0 : Cells w a0 cap0 l0) (hA1 : Ed.Arg w a1 cap1 l1) :
    Calls Tryz.prog 3 #[.slice a0 l0.length cap0, .slice a1 l1.length cap1] w fun e w' => e = .returned (.bool true) ∧ Below w.heap.size w w' := by
  have HA0 := hide hA0
  have HA1 := hide hA1
  clear hA0 hA1
  go_enter Tryz.func3, Tryz.ntmps3
  go_wp2_with fail
  refine (sz_arg a0 cap0 l0 _ _ (unhide HA0) (by decide) (by decide)).mono ?_
  rintro e w1 ⟨r0, rfl, hr, hb⟩
  have B1 : Below w.heap.size w w1 := hb
  clear hb
  rcases hr with hr | ⟨hr00, hr1⟩
  · go_wp2_with fail
    go_ret
    exact ⟨rfl, B1⟩
  have hn0 : l0.length ≤ 1048576 := by omega
  have hr02 : r0 ≤ 1048576 := by omega
  have hok0 := hide (unhide HA0).2.2.1
  clear hr1
  go_wp2_with fail
  refine (Ed.sz2_arg a1 cap1 l1 _ _ ((unhide HA1).below B1) hr00 hr02).mono ?_
  rintro e w2 ⟨r1, rfl, hr, hb⟩
  have B2 : Below w.heap.size w w2 := B1.trans (hb.mono B1.size)
  clear hb B1
  rcases hr with hr | ⟨hr10, hn1, htt1⟩
  · go_wp2_with fail
    go_ret
    exact ⟨rfl, B2⟩
  have hok1 := hide (unhide HA1).2.2.1
  clear hr00 hr02
  go_wp2_with fail
  refine (to_arg a0 cap0 l0 _ ((unhide HA0).below B2) hn0).mono ?_
  rintro e w3 ⟨rfl, s0_3, hb⟩
  have B3 : Below w.heap.size w w3 := B2.trans (hb.mono B2.size)
  have hsz3 : w2.heap.size < w3.heap.size := s0_3.lt
  clear  B2 hb
  go_wp2_with fail
  refine (Ed.to2_arg a1 cap1 l1 _ ((unhide HA1).below B3) hn1 (Ed.tot_small htt1)).mono ?_
  rintro e w4 ⟨rfl, s1_4, _, hb⟩
  have B4 : Below w.heap.size w w4 := B3.trans (hb.mono B3.size)
  have hsz4 : w3.heap.size < w4.heap.size := s1_4.lt
  have s0_4 := s0_3.below hb s0_3.lt
  clear s0_3 B3 hb
  go_wp2_with fail
  refine (Ed.specApplyEdits_any l0 w2.heap.size 0 l0.length _ _ l1 _ s0_4.row s0_4.lt hn0 (Nat.le_refl _) (unhide hok0) (Ed.Row.arg s1_4.row s1_4.lt hn1 (unhide hok1) (Ed.tot_small htt1)) hn1 (Ed.tot_small htt1)).mono ?_
  rintro e w5 ⟨s, rfl, hrs, hb⟩
  have B5 : Below w.heap.size w w5 := B4.trans (hb.mono B4.size)
  have hr_5 : Res w5 w.heap.size s (Ed.applyOut l0 l1).2.2 := hrs.mono B4.size
  clear s0_4 s1_4 B4 hb hrs
  generalize hR : Ed.applyOut l0 l1 = R at *
  obtain ⟨code, at_, rl⟩ := R
  simp only at hr_5 ⊢
  have HR := hide hR
  clear hR
  have hlt1 : ∀ b, s.ownBlock = some b → b < w5.heap.size := hr_5.lt
  have hs5 : w.heap.size ≤ w5.heap.size := B5.size
  obtain ⟨z1, m1, c1, rfl⟩ := hr_5.shape
  obtain ⟨w6, hW⟩ : ∃ W, W = w5.alloc (.cells #[.int .i64 code, .int .i64 at_, .slice z1 m1 c1] 28) := ⟨_, rfl⟩
  have B6 : Below w.heap.size w w6 := by rw [hW]; exact B5.alloc B5.size _
  have hX_6 : Own w6 w5.heap.size 28 [.int .i64 code, .int .i64 at_, .slice z1 m1 c1] := by rw [hW]; exact ⟨_, heap_alloc_new _ _, rfl⟩
  have hr_6 : Res w6 w.heap.size (.slice z1 m1 c1) rl := by rw [hW]; exact hr_5.alloc _
  have hsz6 : w5.heap.size < w6.heap.size := by rw [hW]; simp
  clear hr_5 B5
  go_wp2_with fail
  rw [← hW]
  clear hW
  refine (to_arg a0 cap0 l0 _ ((unhide HA0).below B6) hn0).mono ?_
  rintro e w7 ⟨rfl, x0_7, hb⟩
  have B7 : Below w.heap.size w w7 := B6.trans (hb.mono B6.size)
  have hsz7 : w6.heap.size < w7.heap.size := x0_7.lt
  have hX_7 := hX_6.below hb hX_6.lt
  have hr_7 := hr_6.below hb
  clear hX_6 hr_6 B6 hb
  go_wp2_with fail
  refine (Ed.to2_arg a1 cap1 l1 _ ((unhide HA1).below B7) hn1 (Ed.tot_small htt1)).mono ?_
  rintro e w8 ⟨rfl, x1_8, _, hb⟩
  have B8 : Below w.heap.size w w8 := B7.trans (hb.mono B7.size)
  have hsz8 : w7.heap.size < w8.heap.size := x1_8.lt
  have hX_8 := hX_7.below hb hX_7.lt
  have hr_8 := hr_7.below hb
  have x0_8 := x0_7.below hb x0_7.lt
  clear hX_7 hr_7 x0_7 B7 hb
  go_wp2_with fail
  refine (Ed.implApplyEdits_any l0 w6.heap.size 0 l0.length _ _ l1 _ x0_8.row x0_8.lt hn0 (Nat.le_refl _) (unhide hok0) (Ed.Row.arg x1_8.row x1_8.lt hn1 (unhide hok1) (Ed.tot_small htt1)) hn1 (Ed.tot_small htt1)).mono ?_
  rintro e w9 ⟨s2, rfl, hg_9, hb⟩
  rw [unhide HR] at hg_9 ⊢
  simp only at hg_9 ⊢
  have hge2 : ∀ b, s2.ownBlock = some b → w8.heap.size ≤ b := hg_9.base
  have hlt2 : ∀ b, s2.ownBlock = some b → b < w9.heap.size := hg_9.lt
  have B9 : Below w.heap.size w w9 := B8.trans (hb.mono B8.size)
  have hsz9 : w8.heap.size ≤ w9.heap.size := hb.size
  have hX_9 := hX_8.below hb hX_8.lt
  have hr_9 := hr_8.below hb
  have x0_9 := x0_8.below hb x0_8.lt
  have x1_9 := x1_8.below hb
  clear hX_8 hr_8 x0_8 x1_8 B8 hb
  obtain ⟨z2, m2, c2, rfl⟩ := hg_9.shape
  have x0 : ∀ o, (w9.alloc o).cell? ⟨w5.heap.size, 0, none⟩ = some (.int .i64 code) := fun o => (hX_9.alloc o).cell 0
  have x1 : ∀ o, (w9.alloc o).cell? ⟨w5.heap.size, 1, none⟩ = some (.int .i64 at_) := fun o => (hX_9.alloc o).cell 1
  have x2 : ∀ o, (w9.alloc o).cell? ⟨w5.heap.size, 2, none⟩ = some (.slice z1 m1 c1) := fun o => (hX_9.alloc o).cell 2
  go_wp2_with fail
  refine (eqReadResult_any code at_ (.slice z2 m2 c2) (.slice z1 m1 c1) _ _ rl _ (hg_9.alloc _) (hr_9.alloc _)).mono ?_
  rintro e w10 ⟨rfl, hb⟩
  have hX_10 := (hX_9.alloc _).below hb (by have := hX_9.lt; simp; omega)
  have hr_10 := (hr_9.alloc _).below hb
  have x0_10 := (rowAlloc x0_9 _).below hb (by have := x0_9.lt; simp; omega)
  have x1_10 := (x1_9.alloc _).below hb
  have hg_10 := (hg_9.alloc _).below hb
  have hY_10 : Own w10 w9.heap.size 28 [.int .i64 code, .int .i64 at_, .slice z2 m2 c2] := Own.below ⟨_, heap_alloc_new _ _, rfl⟩ hb (by simp)
  have B10 : Below w.heap.size w w10 := (B9.alloc B9.size _).trans (hb.mono (by simp; have := B9.size; omega))
  clear hX_9 hr_9 x0_9 x1_9 hg_9 B9 hb x0 x1 x2
  go_wp2_with fail
  refine (to_arg a0 cap0 l0 _ ((unhide HA0).below B10) hn0).mono ?_
  rintro e w11 ⟨rfl, q0_11, hb⟩
  have B11 : Below w.heap.size w w11 := B10.trans (hb.mono B10.size)
  have hsz11 : w10.heap.size < w11.heap.size := q0_11.lt
  have hX_11 := hX_10.below hb hX_10.lt
  have hr_11 := hr_10.below hb
  have x0_11 := x0_10.below hb x0_10.lt
  have x1_11 := x1_10.below hb
  have hg_11 := hg_10.below hb
  have hY_11 := hY_10.below hb hY_10.lt
  clear hX_10 hr_10 x0_10 x1_10 hg_10 hY_10 B10 hb
  go_wp2_with fail
  refine (eqCellS_same w6.heap.size 0 l0.length w10.heap.size 0 l0.length l0 _ x0_11.row x0_11.lt q0_11.row q0_11.lt hn0 (Nat.le_refl _) (Nat.le_refl _)).mono ?_
  rintro e w12 ⟨rfl, hb⟩
  have B12 : Below w.heap.size w w12 := B11.trans (hb.mono B11.size)
  have hX_12 := hX_11.below hb hX_11.lt
  have hr_12 := hr_11.below hb
  have x0_12 := x0_11.below hb x0_11.lt
  have x1_12 := x1_11.below hb
  have hg_12 := hg_11.below hb
  have hY_12 := hY_11.below hb hY_11.lt
  clear hX_11 hr_11 x0_11 x1_11 hg_11 hY_11 B11 hb q0_11
  go_wp2_with fail
  refine (Ed.to2_arg a1 cap1 l1 _ ((unhide HA1).below B12) hn1 (Ed.tot_small htt1)).mono ?_
  rintro e w13 ⟨rfl, q1_13, _, hb⟩
  have B13 : Below w.heap.size w w13 := B12.trans (hb.mono B12.size)
  have hsz13 : w12.heap.size < w13.heap.size := q1_13.lt
  have hX_13 := hX_12.below hb hX_12.lt
  have hr_13 := hr_12.below hb
  have x0_13 := x0_12.below hb x0_12.lt
  have x1_13 := x1_12.below hb
  have hg_13 := hg_12.below hb
  have hY_13 := hY_12.below hb hY_12.lt
  clear hX_12 hr_12 x0_12 x1_12 hg_12 hY_12 B12 hb
  go_wp2_with fail
  refine (Ed.eqS_same w7.heap.size w12.heap.size l1 _ x1_13.row x1_13.lt q1_13.row q1_13.lt hn1 (Ed.tot_small htt1)).mono ?_
  rintro e w14 ⟨rfl, hb⟩
  have B14 : Below w.heap.size w w14 := B13.trans (hb.mono B13.size)
  have hX_14 := hX_13.below hb hX_13.lt
  have hr_14 := hr_13.below hb
  have x0_14 := x0_13.below hb x0_13.lt
  have x1_14 := x1_13.below hb
  have hg_14 := hg_13.below hb
  have hY_14 := hY_13.below hb hY_13.lt
  clear hX_13 hr_13 x0_13 x1_13 hg_13 hY_13 B13 hb q1_13
  go_wp2_with fail
  refine (markCellS_any w6.heap.size l0.length l0 1 _ x0_14.wide hn0 (Nat.le_refl _) (by decide) (by decide)).mono ?_
  rintro e w15 ⟨rfl, _, hm⟩
  have hX_15 : Own w15 w5.heap.size 28 [.int .i64 code, .int .i64 at_, .slice z1 m1 c1] := hm.own hX_14 hX_14.lt (by omega)
  have hY_15 : Own w15 w9.heap.size 28 [.int .i64 code, .int .i64 at_, .slice z2 m2 c2] := hm.own hY_14 hY_14.lt (by omega)
  have x1_15 : Ed.LaidRow w15 w7.heap.size w8.heap.size l1 := Ed.LaidRow.but x1_14 hm (by omega)
  have hr_15 : Res w15 w.heap.size (.slice z1 m1 c1) rl := hm.res hr_14 (Nat.le_refl _) (fun e => by have := hlt1 _ e; omega)
  have hg_15 : Res w15 w8.heap.size (.slice z2 m2 c2) rl := hm.res hg_14 (Nat.le_refl _) (fun e => by have := hge2 _ e; omega)
  have B15 : Below w.heap.size w w15 := B14.trans (hm.below B14.size (by omega))
  clear hX_14 hr_14 x1_14 hg_14 hY_14 B14 hm x0_14
  go_wp2_with fail
  refine (Ed.mark_arg w7.heap.size w8.heap.size l1 (1 + 5 * (l0.length : Int)) _ x1_15 (by omega) hn1 htt1 (by omega) (by omega)).mono ?_
  rintro e w16 ⟨r9, rfl, hr9, hbl, hkt⟩
  have hX_16 : Own w16 w5.heap.size 28 [.int .i64 code, .int .i64 at_, .slice z1 m1 c1] := hX_15.below hbl (by omega)
  have hY_16 : Own w16 w9.heap.size 28 [.int .i64 code, .int .i64 at_, .slice z2 m2 c2] := Ed.own_kt hY_15 hkt (by omega)
  have hr_16 : Res w16 w.heap.size (.slice z1 m1 c1) rl := Ed.res_low hr_15 hbl (fun b h => by have := hlt1 b h; omega)
  have hg_16 : Res w16 w8.heap.size (.slice z2 m2 c2) rl := Ed.res_kt hg_15 hkt (by omega)
  have B16 : Below w.heap.size w w16 := B15.trans (hbl.mono (by omega))
  clear hX_15 hr_15 hg_15 hY_15 B15 hbl hkt x1_15
  have x0 := hX_16.cell 0
  have x1 := hX_16.cell 1
  have x2 := hX_16.cell 2
  have y0 := hY_16.cell 0
  have y1 := hY_16.cell 1
  have y2 := hY_16.cell 2
  simp only [List.getElem?_cons_zero, List.getElem?_cons_succ] at x0 x1 x2 y0 y1 y2
  have d15 : decide (r9 < 0) = false := decide_eq_false (by omega)
  go_wp2_with fail
  refine (eqReadResult_any code at_ (.slice z2 m2 c2) (.slice z1 m1 c1) _ _ rl _ hg_16 hr_16).mono ?_
  rintro e w17 ⟨rfl, hb⟩
  have B17 : Below w.heap.size w w17 := B16.trans (hb.mono B16.size)
  have hX_17 := hX_16.below hb hX_16.lt
  have hr_17 := hr_16.below hb
  have hg_17 := hg_16.below hb
  have hY_17 := hY_16.below hb hY_16.lt
  clear hX_16 hr_16 hg_16 hY_16 B16 hb x0 x1 x2 y0 y1 y2 d15
  have y0 := hY_17.cell 0
  have y1 := hY_17.cell 1
  have y2 := hY_17.cell 2
  simp only [List.getElem?_cons_zero, List.getElem?_cons_succ] at y0 y1 y2
  go_wp2_with fail
  refine (markReadResult_any code at_ (.slice z2 m2 c2) _ rl 1 _ hg_17 (by decide) (by decide)).mono ?_
  rintro e w18 ⟨rfl, hm_18, hv⟩
  have hX_18 : Own w18 w5.heap.size 28 [.int .i64 code, .int .i64 at_, .slice z1 m1 c1] := hv.own hX_17 (fun e => by have := hge2 _ e; omega)
  have hY_18 : Own w18 w9.heap.size 28 [.int .i64 code, .int .i64 at_, .slice z2 m2 c2] := hv.own hY_17 (fun e => by have := hlt2 _ e; omega)
  have hr_18 : Res w18 w.heap.size (.slice z1 m1 c1) rl := hv.res hr_17 (fun b h1 h2 => by have := hge2 _ h1; have := hlt1 _ h2; omega)
  have B18 : Below w.heap.size w w18 := B17.trans (hv.below B17.size (fun b hb => by have := hge2 b hb; omega))
  clear hX_17 hr_17 hg_17 hY_17 B17 hv y0 y1 y2
  have hln := hm_18.1
  rw [marked_length] at hln
  have y0 := hY_18.cell 0
  have y1 := hY_18.cell 1
  have y2 := hY_18.cell 2
  simp only [List.getElem?_cons_zero, List.getElem?_cons_succ] at y0 y1 y2
  go_wp2_with fail
  refine (heldReadResult_any code at_ (.slice z2 m2 c2) _ rl.length 1 _ hm_18 (by decide) (by decide) hln).mono ?_
  rintro e w19 ⟨rfl, hb⟩
  have B19 : Below w.heap.size w w19 := B18.trans (hb.mono B18.size)
  have hX_19 := hX_18.below hb hX_18.lt
  have hY_19 := hY_18.below hb hY_18.lt
  have hr_19 := hr_18.below hb
  have hm_19 := hm_18.below hb
  clear hX_18 hY_18 hr_18 hm_18 B18 hb y0 y1 y2
  go_wp2_with fail
  refine (to_arg a0 cap0 l0 _ ((unhide HA0).below B19) hn0).mono ?_
  rintro e w20 ⟨rfl, t0_20, hb⟩
  have B20 : Below w.heap.size w w20 := B19.trans (hb.mono B19.size)
  have hsz20 : w19.heap.size < w20.heap.size := t0_20.lt
  have hX_20 := hX_19.below hb hX_19.lt
  have hY_20 := hY_19.below hb hY_19.lt
  have hr_20 := hr_19.below hb
  have hm_20 := hm_19.below hb
  clear hX_19 hY_19 hr_19 hm_19 B19 hb
  go_wp2_with fail
  refine (Ed.to2_arg a1 cap1 l1 _ ((unhide HA1).below B20) hn1 (Ed.tot_small htt1)).mono ?_
  rintro e w21 ⟨rfl, t1_21, _, hb⟩
  have B21 : Below w.heap.size w w21 := B20.trans (hb.mono B20.size)
  have hsz21 : w20.heap.size < w21.heap.size := t1_21.lt
  have hX_21 := hX_20.below hb hX_20.lt
  have hY_21 := hY_20.below hb hY_20.lt
  have hr_21 := hr_20.below hb
  have hm_21 := hm_20.below hb
  have t0_21 := t0_20.below hb t0_20.lt
  clear hX_20 hY_20 hr_20 hm_20 t0_20 B20 hb
  go_wp2_with fail
  refine (Ed.implApplyEdits_any l0 w19.heap.size 0 l0.length _ _ l1 _ t0_21.row t0_21.lt hn0 (Nat.le_refl _) (unhide hok0) (Ed.Row.arg t1_21.row t1_21.lt hn1 (unhide hok1) (Ed.tot_small htt1)) hn1 (Ed.tot_small htt1)).mono ?_
  rintro e w22 ⟨s3, rfl, hh, hb⟩
  rw [unhide HR] at hh ⊢
  simp only at hh ⊢
  have B22 : Below w.heap.size w w22 := B21.trans (hb.mono B21.size)
  have hX_22 := hX_21.below hb hX_21.lt
  have hY_22 := hY_21.below hb hY_21.lt
  have hr_22 := hr_21.below hb
  have hm_22 := hm_21.below hb
  clear hX_21 hY_21 hr_21 hm_21 B21 hb t0_21 t1_21
  obtain ⟨z3, m3, c3, rfl⟩ := hh.shape
  have x0 : ∀ o, (w22.alloc o).cell? ⟨w5.heap.size, 0, none⟩ = some (.int .i64 code) := fun o => (hX_22.alloc o).cell 0
  have x1 : ∀ o, (w22.alloc o).cell? ⟨w5.heap.size, 1, none⟩ = some (.int .i64 at_) := fun o => (hX_22.alloc o).cell 1
  have x2 : ∀ o, (w22.alloc o).cell? ⟨w5.heap.size, 2, none⟩ = some (.slice z1 m1 c1) := fun o => (hX_22.alloc o).cell 2
  go_wp2_with fail
  refine (eqReadResult_any code at_ (.slice z3 m3 c3) (.slice z1 m1 c1) _ _ rl _ (hh.alloc _) (hr_22.alloc _)).mono ?_
  rintro e w23 ⟨rfl, hb⟩
  have hY_23 := (hY_22.alloc _).below hb (by have := hY_22.lt; simp; omega)
  have hm_23 := (hm_22.alloc _).below hb
  have B23 : Below w.heap.size w w23 := (B22.alloc B22.size _).trans (hb.mono (by simp; have := B22.size; omega))
  clear hX_22 hY_22 hr_22 hm_22 B22 hb hh x0 x1 x2
  have y0 := hY_23.cell 0
  have y1 := hY_23.cell 1
  have y2 := hY_23.cell 2
  simp only [List.getElem?_cons_zero, List.getElem?_cons_succ] at y0 y1 y2
  go_wp2_with fail
  refine (heldReadResult_any code at_ (.slice z2 m2 c2) _ rl.length 1 _ hm_23 (by decide) (by decide) hln).mono ?_
  rintro e w24 ⟨rfl, hb⟩
  have B24 : Below w.heap.size w w24 := B23.trans (hb.mono B23.size)
  go_wp2_with fail
  go_ret
  exact ⟨rfl, B24⟩

namespace lawApplyEdits
theorem own : ownKnob Tryz.prog.godebug = none := by kernel_rfl
theorem laidOut : laidOutB Tryz.prog = true := by kernel_rfl

set_option maxRecDepth 100000 in
theorem lifted (os : Os) (started : os.Started) (H : Type) (enc : TypeId × Value → H) :
    ReturnsInHanded {} Tryz.checked os 3 .any (Rows.fnExactApplyEditsSpec.pre6 enc Tryz.prog Tryz.f3 Rows.fnExactApplyEditsRow.domain false) (Rows.fnExactApplyEditsSpec.post enc Tryz.prog Tryz.f3 false true false false) := by
  refine returnsInHanded_of_change (C := Tryz.checked) own started (by kernel_rfl) Tryz.func3
    (ChangeSpec.witness6 (enc := enc) (C := Tryz.checked) false ⟨#[], #[.slice none 0 0, .slice none 0 0], []⟩ 8 (by kernel_rfl) (by kernel_rfl) (by kernel_rfl) (by kernel_rfl)) ?_
  intro W base args ds gs before hval0 hW hcnd _
  have hval : ∀ (j : Nat) t v, Tryz.f3.params[j]? = some t → args[j]? = some v → Value.okWide Tryz.prog W .any base t v := hval0
  have hW' := hW
  obtain ⟨p, q, hA0, hV, rfl, hfz, hnd⟩ := hW
  have hA : DataW.TrodAll enc Tryz.prog W 0 (fun _ => true) true Tryz.f3.params.toList args.toList ds p := hA0
  rw [Tryz.params3] at hA hval
  obtain ⟨v0, vs0, d0, ds0, p0, q0, hargs, rfl, rfl, h0, r0⟩ := trodAll_cons hA
  obtain ⟨v1, vs1, d1, ds1, p1, q1, rfl, rfl, rfl, h1, r1⟩ := trodAll_cons r0
  obtain ⟨rfl, rfl, rfl⟩ := trodAll_nil r1
  obtain rfl : args = #[v0, v1] := by cases args; simp_all
  obtain ⟨rfl, rfl⟩ := trodVars_none hV
  obtain ⟨a0, len0, cap0, rfl⟩ := okWide_slice Tryz.underlying22 (hval 0 22 v0 rfl rfl)
  have k0 := h0
  have lt0 : ∀ x ∈ p0, x.block < W.heap.size := by obtain ⟨m, hm⟩ := k0; exact DataW.trod_lt m _ _ _ hm
  obtain ⟨l0, hl0, w0⟩ : ∃ l : List M.Cl, l.length = len0 ∧ Cells W a0 cap0 l := by
    obtain ⟨fuel, hf⟩ := h0
    exact open_cells hf lt0
  subst hl0
  obtain ⟨a1, len1, cap1, rfl⟩ := okWide_slice Tryz.underlying23 (hval 1 23 v1 rfl rfl)
  have k1 := h1
  have lt1 : ∀ x ∈ p1, x.block < W.heap.size := by obtain ⟨m, hm⟩ := k1; exact DataW.trod_lt m _ _ _ hm
  obtain ⟨l1, hl1, w1⟩ : ∃ l : List Ed, l.length = len1 ∧ Ed.Arg W a1 cap1 l := by
    obtain ⟨fuel, hf⟩ := h1
    exact Ed.open_arg hf
  subst hl1
  clear hA0 hval0
  refine (lawApplyEdits_walk a0 cap0 l0 a1 cap1 l1 W w0 w1).mono fun e W' ⟨he, bel⟩ => ?_
  subst he
  exact ⟨_, rfl, _, _, _, [], _, [], hW', trodAll_mk1 (shut_bool Tryz.underlying4 _), (trodAll_cons_mk (Below.trod laidOut (by kernel_rfl) (of_decide_eq_true (by kernel_rfl)) k0 bel lt0) (trodAll_cons_mk (Below.trod laidOut (by kernel_rfl) (of_decide_eq_true (by kernel_rfl)) k1 bel lt1) trodAll_mk0)), rfl, bel.frame _, fun h => by cases h⟩

theorem over : Rows.fnExactApplyEditsRow.holds Tryz.pinned (OpenSpec.ofChange Rows.fnExactApplyEditsSpec) :=
  OpenClaim.holds_of_wide 3 Tryz.f3 rfl rfl rfl rfl rfl rfl rfl ⟨rfl, rfl, rfl, rfl, rfl⟩ rfl rfl rfl rfl rfl (by kernel_rfl) Tryz.func3 (by kernel_rfl)
    (of_decide_eq_true (by kernel_rfl)) (by unfold Func.isWrapper; first | (rw [if_pos (by decide +kernel)]; kernel_rfl) | (rw [if_neg (by decide +kernel)]; exact ⟨rfl, rfl⟩))
    (fun os started H enc _ => lifted os started H enc)
end lawApplyEdits

/-- The statement. -/
theorem lawApplyEdits_holds : Rows.FnExactApplyEditsSaid := lawApplyEdits.over
#print axioms lawApplyEdits_holds
end Go.Proofs.YtoaibccmlmaknaaGreat
