/-
  Proved: at every argument impl.SetPath answers as spec.SetPath, every field, writes nothing into its arguments, and its answer owns its memory (laws.FnExactSetPath returns true). No condition.
-/
import Derived.Test.YtheofnndigpjpaaPthN
import Derived.Test.YtheofnndigpjpaaArg
import Derived.ShutString
import Derived.ChangeOld
namespace Go.Proofs.Ytheofnndigpjpaa
open Go.ChangeShapes Go.WideShapes Go.ChangeAt Go.RowKit
open Go.ChangeMaps (open_string shut_string)
set_option linter.unusedVariables false

theorem rowAlloc {w : World} {b : Nat} {t : TypeId} {l : List M.Cl} (h : OwnRow w b t l) (o : Obj) : OwnRow (w.alloc o) b t l := by
  obtain ⟨xs, p1, p2⟩ := h
  exact ⟨xs, p1.alloc _, p2⟩
theorem But.res {B b : Nat} {w w' : World} (h : But B b w w') {C : Nat} {s : Value} {l : List M.Cl} (hr : Res w C s l) (hB : w.heap.size ≤ B) (hne : s.ownBlock ≠ some b) : Res w' C s l := by
  obtain ⟨q1, q2 | ⟨c, cc, q3, q4, q5, q6⟩⟩ := hr
  · exact ⟨q1, .inl q2⟩
  · exact ⟨q1, .inr ⟨c, cc, q3, q4, q5, h.ownG q6 (Nat.lt_of_lt_of_le q6.lt hB) (fun e => hne (by rw [q3, e]; rfl))⟩⟩

set_option maxRecDepth 100000 in
set_option maxHeartbeats 8000000 in
theorem lawSetPath_walk (a0 : Option Addr) (cap0 : Nat) (l0 : List M.Cl) (a1 : Option Addr) (cap1 : Nat) (l1 : List M.Cl) (a2 : Option Addr) (cap2 : Nat) (l2 : List M.Cl) (w : World) (hA0 : Cells w a0 cap0 l0) (hA1 : Cells w a1 cap1 l1) (hA2 : Cells w a2 cap2 l2) :
    Calls Try.prog 5 #[.slice a0 l0.length cap0, .slice a1 l1.length cap1, .slice a2 l2.length cap2] w fun e w' => e = .returned (.bool true) ∧ Below w.heap.size w w' := by
  have HA0 := hide hA0
  have HA1 := hide hA1
  have HA2 := hide hA2
  clear hA0 hA1 hA2
  go_enter Try.func5, Try.ntmps5
  go_wp2_with fail
  refine (sz_arg a0 cap0 l0 _ _ (unhide HA0) (by decide) (by decide)).mono ?_
  rintro e w1 ⟨r0, rfl, hr, hb⟩
  have B1 : Below w.heap.size w w1 := hb
  clear hb
  rcases hr with hr | ⟨hr00, hr1⟩
  · go_wp2_with fail
    go_ret
    exact ⟨rfl, B1⟩
  have hn0 : l0.length ≤ 1048576 := by omega
  have hr02 : r0 ≤ 1048576 := by omega
  have hok0 := hide (unhide HA0).2.2.1
  clear hr1
  go_wp2_with fail
  refine (sz_arg a1 cap1 l1 _ _ ((unhide HA1).below B1) hr00 hr02).mono ?_
  rintro e w2 ⟨r1, rfl, hr, hb⟩
  have B2 : Below w.heap.size w w2 := B1.trans (hb.mono B1.size)
  clear hb B1
  rcases hr with hr | ⟨hr10, hr1⟩
  · go_wp2_with fail
    go_ret
    exact ⟨rfl, B2⟩
  have hn1 : l1.length ≤ 1048576 := by omega
  have hr12 : r1 ≤ 1048576 := by omega
  have hok1 := hide (unhide HA1).2.2.1
  clear hr1 hr00 hr02
  go_wp2_with fail
  refine (sz_arg a2 cap2 l2 _ _ ((unhide HA2).below B2) hr10 hr12).mono ?_
  rintro e w3 ⟨r2, rfl, hr, hb⟩
  have B3 : Below w.heap.size w w3 := B2.trans (hb.mono B2.size)
  clear hb B2
  rcases hr with hr | ⟨hr20, hr1⟩
  · go_wp2_with fail
    go_ret
    exact ⟨rfl, B3⟩
  have hn2 : l2.length ≤ 1048576 := by omega
  have hr22 : r2 ≤ 1048576 := by omega
  have hok2 := hide (unhide HA2).2.2.1
  clear hr1 hr10 hr12
  go_wp2_with fail
  refine (to_arg a0 cap0 l0 _ ((unhide HA0).below B3) hn0).mono ?_
  rintro e w4 ⟨rfl, s0_4, hb⟩
  have B4 : Below w.heap.size w w4 := B3.trans (hb.mono B3.size)
  have hsz4 : w3.heap.size < w4.heap.size := s0_4.lt
  clear  B3 hb
  go_wp2_with fail
  refine (to_arg a1 cap1 l1 _ ((unhide HA1).below B4) hn1).mono ?_
  rintro e w5 ⟨rfl, s1_5, hb⟩
  have B5 : Below w.heap.size w w5 := B4.trans (hb.mono B4.size)
  have hsz5 : w4.heap.size < w5.heap.size := s1_5.lt
  have s0_5 := s0_4.below hb s0_4.lt
  clear s0_4 B4 hb
  go_wp2_with fail
  refine (to_arg a2 cap2 l2 _ ((unhide HA2).below B5) hn2).mono ?_
  rintro e w6 ⟨rfl, s2_6, hb⟩
  have B6 : Below w.heap.size w w6 := B5.trans (hb.mono B5.size)
  have hsz6 : w5.heap.size < w6.heap.size := s2_6.lt
  have s0_6 := s0_5.below hb s0_5.lt
  have s1_6 := s1_5.below hb s1_5.lt
  clear s0_5 s1_5 B5 hb
  go_wp2_with fail
  refine (specSetPath_any l0 w3.heap.size 0 l0.length l1 w4.heap.size 0 l1.length l2 w5.heap.size 0 l2.length _ s0_6.row s0_6.lt hn0 (Nat.le_refl _) (unhide hok0) s1_6.row s1_6.lt hn1 (Nat.le_refl _) (by omega) (unhide hok1) s2_6.row s2_6.lt hn2 (Nat.le_refl _) (unhide hok2)).mono ?_
  rintro e w7 ⟨s, rfl, hrs, hb⟩
  have B7 : Below w.heap.size w w7 := B6.trans (hb.mono B6.size)
  have hr_7 : Res w7 w.heap.size s (Pth.setOutP l0 l1 l2).2 := hrs.mono B6.size
  clear s0_6 s1_6 s2_6 B6 hb hrs
  generalize hR : Pth.setOutP l0 l1 l2 = R at *
  obtain ⟨code, rl⟩ := R
  simp only at hr_7 ⊢
  have HR := hide hR
  clear hR
  have hlt1 : ∀ b, s.ownBlock = some b → b < w7.heap.size := hr_7.lt
  have hs5 : w.heap.size ≤ w7.heap.size := B7.size
  obtain ⟨z1, m1, c1, rfl⟩ := hr_7.shape
  obtain ⟨w8, hW⟩ : ∃ W, W = w7.alloc (.cells #[.int .i64 code, .slice z1 m1 c1] 30) := ⟨_, rfl⟩
  have B8 : Below w.heap.size w w8 := by rw [hW]; exact B7.alloc B7.size _
  have hX_8 : Own w8 w7.heap.size 30 [.int .i64 code, .slice z1 m1 c1] := by rw [hW]; exact ⟨_, heap_alloc_new _ _, rfl⟩
  have hr_8 : Res w8 w.heap.size (.slice z1 m1 c1) rl := by rw [hW]; exact hr_7.alloc _
  have hsz8 : w7.heap.size < w8.heap.size := by rw [hW]; simp
  clear hr_7 B7
  go_wp2_with fail
  rw [← hW]
  clear hW
  refine (to_arg a0 cap0 l0 _ ((unhide HA0).below B8) hn0).mono ?_
  rintro e w9 ⟨rfl, x0_9, hb⟩
  have B9 : Below w.heap.size w w9 := B8.trans (hb.mono B8.size)
  have hsz9 : w8.heap.size < w9.heap.size := x0_9.lt
  have hX_9 := hX_8.below hb hX_8.lt
  have hr_9 := hr_8.below hb
  clear hX_8 hr_8 B8 hb
  go_wp2_with fail
  refine (to_arg a1 cap1 l1 _ ((unhide HA1).below B9) hn1).mono ?_
  rintro e w10 ⟨rfl, x1_10, hb⟩
  have B10 : Below w.heap.size w w10 := B9.trans (hb.mono B9.size)
  have hsz10 : w9.heap.size < w10.heap.size := x1_10.lt
  have hX_10 := hX_9.below hb hX_9.lt
  have hr_10 := hr_9.below hb
  have x0_10 := x0_9.below hb x0_9.lt
  clear hX_9 hr_9 x0_9 B9 hb
  go_wp2_with fail
  refine (to_arg a2 cap2 l2 _ ((unhide HA2).below B10) hn2).mono ?_
  rintro e w11 ⟨rfl, x2_11, hb⟩
  have B11 : Below w.heap.size w w11 := B10.trans (hb.mono B10.size)
  have hsz11 : w10.heap.size < w11.heap.size := x2_11.lt
  have hX_11 := hX_10.below hb hX_10.lt
  have hr_11 := hr_10.below hb
  have x0_11 := x0_10.below hb x0_10.lt
  have x1_11 := x1_10.below hb x1_10.lt
  clear hX_10 hr_10 x0_10 x1_10 B10 hb
  go_wp2_with fail
  refine (implSetPath_any l0 w8.heap.size 0 l0.length l1 w9.heap.size 0 l1.length l2 w10.heap.size 0 l2.length _ x0_11.row x0_11.lt hn0 (Nat.le_refl _) (unhide hok0) x1_11.row x1_11.lt hn1 (Nat.le_refl _) (by omega) (unhide hok1) x2_11.row x2_11.lt hn2 (Nat.le_refl _) (unhide hok2)).mono ?_
  rintro e w12 ⟨s2, rfl, hg_12, hb⟩
  rw [unhide HR] at hg_12 ⊢
  simp only at hg_12 ⊢
  have hge2 : ∀ b, s2.ownBlock = some b → w11.heap.size ≤ b := hg_12.base
  have hlt2 : ∀ b, s2.ownBlock = some b → b < w12.heap.size := hg_12.lt
  have B12 : Below w.heap.size w w12 := B11.trans (hb.mono B11.size)
  have hsz12 : w11.heap.size ≤ w12.heap.size := hb.size
  have hX_12 := hX_11.below hb hX_11.lt
  have hr_12 := hr_11.below hb
  have x0_12 := x0_11.below hb x0_11.lt
  have x1_12 := x1_11.below hb x1_11.lt
  have x2_12 := x2_11.below hb x2_11.lt
  clear hX_11 hr_11 x0_11 x1_11 x2_11 B11 hb
  obtain ⟨z2, m2, c2, rfl⟩ := hg_12.shape
  have x0 : ∀ o, (w12.alloc o).cell? ⟨w7.heap.size, 0, none⟩ = some (.int .i64 code) := fun o => (hX_12.alloc o).cell 0
  have x1 : ∀ o, (w12.alloc o).cell? ⟨w7.heap.size, 1, none⟩ = some (.slice z1 m1 c1) := fun o => (hX_12.alloc o).cell 1
  go_wp2_with fail
  refine (eqValueResult_any code (.slice z2 m2 c2) (.slice z1 m1 c1) _ _ rl _ (hg_12.alloc _) (hr_12.alloc _)).mono ?_
  rintro e w13 ⟨rfl, hb⟩
  have hX_13 := (hX_12.alloc _).below hb (by have := hX_12.lt; simp; omega)
  have hr_13 := (hr_12.alloc _).below hb
  have x0_13 := (rowAlloc x0_12 _).below hb (by have := x0_12.lt; simp; omega)
  have x1_13 := (rowAlloc x1_12 _).below hb (by have := x1_12.lt; simp; omega)
  have x2_13 := (rowAlloc x2_12 _).below hb (by have := x2_12.lt; simp; omega)
  have hg_13 := (hg_12.alloc _).below hb
  have hY_13 : Own w13 w12.heap.size 30 [.int .i64 code, .slice z2 m2 c2] := Own.below ⟨_, heap_alloc_new _ _, rfl⟩ hb (by simp)
  have B13 : Below w.heap.size w w13 := (B12.alloc B12.size _).trans (hb.mono (by simp; have := B12.size; omega))
  clear hX_12 hr_12 x0_12 x1_12 x2_12 hg_12 B12 hb x0 x1
  go_wp2_with fail
  refine (to_arg a0 cap0 l0 _ ((unhide HA0).below B13) hn0).mono ?_
  rintro e w14 ⟨rfl, q0_14, hb⟩
  have B14 : Below w.heap.size w w14 := B13.trans (hb.mono B13.size)
  have hsz14 : w13.heap.size < w14.heap.size := q0_14.lt
  have hX_14 := hX_13.below hb hX_13.lt
  have hr_14 := hr_13.below hb
  have x0_14 := x0_13.below hb x0_13.lt
  have x1_14 := x1_13.below hb x1_13.lt
  have x2_14 := x2_13.below hb x2_13.lt
  have hg_14 := hg_13.below hb
  have hY_14 := hY_13.below hb hY_13.lt
  clear hX_13 hr_13 x0_13 x1_13 x2_13 hg_13 hY_13 B13 hb
  go_wp2_with fail
  refine (eqCellS_same w8.heap.size 0 l0.length w13.heap.size 0 l0.length l0 _ x0_14.row x0_14.lt q0_14.row q0_14.lt hn0 (Nat.le_refl _) (Nat.le_refl _)).mono ?_
  rintro e w15 ⟨rfl, hb⟩
  have B15 : Below w.heap.size w w15 := B14.trans (hb.mono B14.size)
  have hX_15 := hX_14.below hb hX_14.lt
  have hr_15 := hr_14.below hb
  have x0_15 := x0_14.below hb x0_14.lt
  have x1_15 := x1_14.below hb x1_14.lt
  have x2_15 := x2_14.below hb x2_14.lt
  have hg_15 := hg_14.below hb
  have hY_15 := hY_14.below hb hY_14.lt
  clear hX_14 hr_14 x0_14 x1_14 x2_14 hg_14 hY_14 B14 hb q0_14
  go_wp2_with fail
  refine (to_arg a1 cap1 l1 _ ((unhide HA1).below B15) hn1).mono ?_
  rintro e w16 ⟨rfl, q1_16, hb⟩
  have B16 : Below w.heap.size w w16 := B15.trans (hb.mono B15.size)
  have hsz16 : w15.heap.size < w16.heap.size := q1_16.lt
  have hX_16 := hX_15.below hb hX_15.lt
  have hr_16 := hr_15.below hb
  have x0_16 := x0_15.below hb x0_15.lt
  have x1_16 := x1_15.below hb x1_15.lt
  have x2_16 := x2_15.below hb x2_15.lt
  have hg_16 := hg_15.below hb
  have hY_16 := hY_15.below hb hY_15.lt
  clear hX_15 hr_15 x0_15 x1_15 x2_15 hg_15 hY_15 B15 hb
  go_wp2_with fail
  refine (eqCellS_same w9.heap.size 0 l1.length w15.heap.size 0 l1.length l1 _ x1_16.row x1_16.lt q1_16.row q1_16.lt hn1 (Nat.le_refl _) (Nat.le_refl _)).mono ?_
  rintro e w17 ⟨rfl, hb⟩
  have B17 : Below w.heap.size w w17 := B16.trans (hb.mono B16.size)
  have hX_17 := hX_16.below hb hX_16.lt
  have hr_17 := hr_16.below hb
  have x0_17 := x0_16.below hb x0_16.lt
  have x1_17 := x1_16.below hb x1_16.lt
  have x2_17 := x2_16.below hb x2_16.lt
  have hg_17 := hg_16.below hb
  have hY_17 := hY_16.below hb hY_16.lt
  clear hX_16 hr_16 x0_16 x1_16 x2_16 hg_16 hY_16 B16 hb q1_16
  go_wp2_with fail
  refine (to_arg a2 cap2 l2 _ ((unhide HA2).below B17) hn2).mono ?_
  rintro e w18 ⟨rfl, q2_18, hb⟩
  have B18 : Below w.heap.size w w18 := B17.trans (hb.mono B17.size)
  have hsz18 : w17.heap.size < w18.heap.size := q2_18.lt
  have hX_18 := hX_17.below hb hX_17.lt
  have hr_18 := hr_17.below hb
  have x0_18 := x0_17.below hb x0_17.lt
  have x1_18 := x1_17.below hb x1_17.lt
  have x2_18 := x2_17.below hb x2_17.lt
  have hg_18 := hg_17.below hb
  have hY_18 := hY_17.below hb hY_17.lt
  clear hX_17 hr_17 x0_17 x1_17 x2_17 hg_17 hY_17 B17 hb
  go_wp2_with fail
  refine (eqCellS_same w10.heap.size 0 l2.length w17.heap.size 0 l2.length l2 _ x2_18.row x2_18.lt q2_18.row q2_18.lt hn2 (Nat.le_refl _) (Nat.le_refl _)).mono ?_
  rintro e w19 ⟨rfl, hb⟩
  have B19 : Below w.heap.size w w19 := B18.trans (hb.mono B18.size)
  have hX_19 := hX_18.below hb hX_18.lt
  have hr_19 := hr_18.below hb
  have x0_19 := x0_18.below hb x0_18.lt
  have x1_19 := x1_18.below hb x1_18.lt
  have x2_19 := x2_18.below hb x2_18.lt
  have hg_19 := hg_18.below hb
  have hY_19 := hY_18.below hb hY_18.lt
  clear hX_18 hr_18 x0_18 x1_18 x2_18 hg_18 hY_18 B18 hb q2_18
  go_wp2_with fail
  refine (markCellS_any w8.heap.size l0.length l0 1 _ x0_19.wide hn0 (Nat.le_refl _) (by decide) (by decide)).mono ?_
  rintro e w20 ⟨rfl, _, hm⟩
  have hX_20 : Own w20 w7.heap.size 30 [.int .i64 code, .slice z1 m1 c1] := hm.own hX_19 hX_19.lt (by omega)
  have hY_20 : Own w20 w12.heap.size 30 [.int .i64 code, .slice z2 m2 c2] := hm.own hY_19 hY_19.lt (by omega)
  have x1_20 : OwnRow w20 w9.heap.size 48 l1 := hm.ownRow x1_19 x1_19.lt (by omega)
  have x2_20 : OwnRow w20 w10.heap.size 48 l2 := hm.ownRow x2_19 x2_19.lt (by omega)
  have hr_20 : Res w20 w.heap.size (.slice z1 m1 c1) rl := hm.res hr_19 (Nat.le_refl _) (fun e => by have := hlt1 _ e; omega)
  have hg_20 : Res w20 w11.heap.size (.slice z2 m2 c2) rl := hm.res hg_19 (Nat.le_refl _) (fun e => by have := hge2 _ e; omega)
  have B20 : Below w.heap.size w w20 := B19.trans (hm.below B19.size (by omega))
  clear hX_19 hr_19 x1_19 x2_19 hg_19 hY_19 B19 hm x0_19
  go_wp2_with fail
  refine (markCellS_any w9.heap.size l1.length l1 (1 + 5 * (l0.length : Int)) _ x1_20.wide hn1 (Nat.le_refl _) (by omega) (by omega)).mono ?_
  rintro e w21 ⟨rfl, _, hm⟩
  have hX_21 : Own w21 w7.heap.size 30 [.int .i64 code, .slice z1 m1 c1] := hm.own hX_20 hX_20.lt (by omega)
  have hY_21 : Own w21 w12.heap.size 30 [.int .i64 code, .slice z2 m2 c2] := hm.own hY_20 hY_20.lt (by omega)
  have x2_21 : OwnRow w21 w10.heap.size 48 l2 := hm.ownRow x2_20 x2_20.lt (by omega)
  have hr_21 : Res w21 w.heap.size (.slice z1 m1 c1) rl := hm.res hr_20 (Nat.le_refl _) (fun e => by have := hlt1 _ e; omega)
  have hg_21 : Res w21 w11.heap.size (.slice z2 m2 c2) rl := hm.res hg_20 (Nat.le_refl _) (fun e => by have := hge2 _ e; omega)
  have B21 : Below w.heap.size w w21 := B20.trans (hm.below B20.size (by omega))
  clear hX_20 hr_20 x2_20 hg_20 hY_20 B20 hm x1_20
  go_wp2_with fail
  refine (markCellS_any w10.heap.size l2.length l2 (1 + 5 * (l0.length : Int) + 5 * (l1.length : Int)) _ x2_21.wide hn2 (Nat.le_refl _) (by omega) (by omega)).mono ?_
  rintro e w22 ⟨rfl, _, hm⟩
  have hX_22 : Own w22 w7.heap.size 30 [.int .i64 code, .slice z1 m1 c1] := hm.own hX_21 hX_21.lt (by omega)
  have hY_22 : Own w22 w12.heap.size 30 [.int .i64 code, .slice z2 m2 c2] := hm.own hY_21 hY_21.lt (by omega)
  have hr_22 : Res w22 w.heap.size (.slice z1 m1 c1) rl := hm.res hr_21 (Nat.le_refl _) (fun e => by have := hlt1 _ e; omega)
  have hg_22 : Res w22 w11.heap.size (.slice z2 m2 c2) rl := hm.res hg_21 (Nat.le_refl _) (fun e => by have := hge2 _ e; omega)
  have B22 : Below w.heap.size w w22 := B21.trans (hm.below B21.size (by omega))
  clear hX_21 hr_21 hg_21 hY_21 B21 hm x2_21
  have x0 := hX_22.cell 0
  have x1 := hX_22.cell 1
  have y0 := hY_22.cell 0
  have y1 := hY_22.cell 1
  simp only [List.getElem?_cons_zero, List.getElem?_cons_succ] at x0 x1 y0 y1
  have d15 : decide ((1 : Int) + 5 * (l0.length : Int) + 5 * (l1.length : Int) + 5 * (l2.length : Int) < 0) = false := decide_eq_false (by omega)
  go_wp2_with fail
  refine (eqValueResult_any code (.slice z2 m2 c2) (.slice z1 m1 c1) _ _ rl _ hg_22 hr_22).mono ?_
  rintro e w23 ⟨rfl, hb⟩
  have B23 : Below w.heap.size w w23 := B22.trans (hb.mono B22.size)
  have hX_23 := hX_22.below hb hX_22.lt
  have hr_23 := hr_22.below hb
  have hg_23 := hg_22.below hb
  have hY_23 := hY_22.below hb hY_22.lt
  clear hX_22 hr_22 hg_22 hY_22 B22 hb x0 x1 y0 y1 d15
  have y0 := hY_23.cell 0
  have y1 := hY_23.cell 1
  simp only [List.getElem?_cons_zero, List.getElem?_cons_succ] at y0 y1
  go_wp2_with fail
  refine (markValueResult_any code (.slice z2 m2 c2) _ rl 1 _ hg_23 (by decide) (by decide)).mono ?_
  rintro e w24 ⟨rfl, hm_24, hv⟩
  have hX_24 : Own w24 w7.heap.size 30 [.int .i64 code, .slice z1 m1 c1] := hv.own hX_23 (fun e => by have := hge2 _ e; omega)
  have hY_24 : Own w24 w12.heap.size 30 [.int .i64 code, .slice z2 m2 c2] := hv.own hY_23 (fun e => by have := hlt2 _ e; omega)
  have hr_24 : Res w24 w.heap.size (.slice z1 m1 c1) rl := hv.res hr_23 (fun b h1 h2 => by have := hge2 _ h1; have := hlt1 _ h2; omega)
  have B24 : Below w.heap.size w w24 := B23.trans (hv.below B23.size (fun b hb => by have := hge2 b hb; omega))
  clear hX_23 hr_23 hg_23 hY_23 B23 hv y0 y1
  have hln := hm_24.1
  rw [marked_length] at hln
  have y0 := hY_24.cell 0
  have y1 := hY_24.cell 1
  simp only [List.getElem?_cons_zero, List.getElem?_cons_succ] at y0 y1
  go_wp2_with fail
  refine (heldValueResult_any code (.slice z2 m2 c2) _ rl.length 1 _ hm_24 (by decide) (by decide) hln).mono ?_
  rintro e w25 ⟨rfl, hb⟩
  have B25 : Below w.heap.size w w25 := B24.trans (hb.mono B24.size)
  have hX_25 := hX_24.below hb hX_24.lt
  have hY_25 := hY_24.below hb hY_24.lt
  have hr_25 := hr_24.below hb
  have hm_25 := hm_24.below hb
  clear hX_24 hY_24 hr_24 hm_24 B24 hb y0 y1
  go_wp2_with fail
  refine (to_arg a0 cap0 l0 _ ((unhide HA0).below B25) hn0).mono ?_
  rintro e w26 ⟨rfl, t0_26, hb⟩
  have B26 : Below w.heap.size w w26 := B25.trans (hb.mono B25.size)
  have hsz26 : w25.heap.size < w26.heap.size := t0_26.lt
  have hX_26 := hX_25.below hb hX_25.lt
  have hY_26 := hY_25.below hb hY_25.lt
  have hr_26 := hr_25.below hb
  have hm_26 := hm_25.below hb
  clear hX_25 hY_25 hr_25 hm_25 B25 hb
  go_wp2_with fail
  refine (to_arg a1 cap1 l1 _ ((unhide HA1).below B26) hn1).mono ?_
  rintro e w27 ⟨rfl, t1_27, hb⟩
  have B27 : Below w.heap.size w w27 := B26.trans (hb.mono B26.size)
  have hsz27 : w26.heap.size < w27.heap.size := t1_27.lt
  have hX_27 := hX_26.below hb hX_26.lt
  have hY_27 := hY_26.below hb hY_26.lt
  have hr_27 := hr_26.below hb
  have hm_27 := hm_26.below hb
  have t0_27 := t0_26.below hb t0_26.lt
  clear hX_26 hY_26 hr_26 hm_26 t0_26 B26 hb
  go_wp2_with fail
  refine (to_arg a2 cap2 l2 _ ((unhide HA2).below B27) hn2).mono ?_
  rintro e w28 ⟨rfl, t2_28, hb⟩
  have B28 : Below w.heap.size w w28 := B27.trans (hb.mono B27.size)
  have hsz28 : w27.heap.size < w28.heap.size := t2_28.lt
  have hX_28 := hX_27.below hb hX_27.lt
  have hY_28 := hY_27.below hb hY_27.lt
  have hr_28 := hr_27.below hb
  have hm_28 := hm_27.below hb
  have t0_28 := t0_27.below hb t0_27.lt
  have t1_28 := t1_27.below hb t1_27.lt
  clear hX_27 hY_27 hr_27 hm_27 t0_27 t1_27 B27 hb
  go_wp2_with fail
  refine (implSetPath_any l0 w25.heap.size 0 l0.length l1 w26.heap.size 0 l1.length l2 w27.heap.size 0 l2.length _ t0_28.row t0_28.lt hn0 (Nat.le_refl _) (unhide hok0) t1_28.row t1_28.lt hn1 (Nat.le_refl _) (by omega) (unhide hok1) t2_28.row t2_28.lt hn2 (Nat.le_refl _) (unhide hok2)).mono ?_
  rintro e w29 ⟨s3, rfl, hh, hb⟩
  rw [unhide HR] at hh ⊢
  simp only at hh ⊢
  have B29 : Below w.heap.size w w29 := B28.trans (hb.mono B28.size)
  have hX_29 := hX_28.below hb hX_28.lt
  have hY_29 := hY_28.below hb hY_28.lt
  have hr_29 := hr_28.below hb
  have hm_29 := hm_28.below hb
  clear hX_28 hY_28 hr_28 hm_28 B28 hb t0_28 t1_28 t2_28
  obtain ⟨z3, m3, c3, rfl⟩ := hh.shape
  have x0 : ∀ o, (w29.alloc o).cell? ⟨w7.heap.size, 0, none⟩ = some (.int .i64 code) := fun o => (hX_29.alloc o).cell 0
  have x1 : ∀ o, (w29.alloc o).cell? ⟨w7.heap.size, 1, none⟩ = some (.slice z1 m1 c1) := fun o => (hX_29.alloc o).cell 1
  go_wp2_with fail
  refine (eqValueResult_any code (.slice z3 m3 c3) (.slice z1 m1 c1) _ _ rl _ (hh.alloc _) (hr_29.alloc _)).mono ?_
  rintro e w30 ⟨rfl, hb⟩
  have hY_30 := (hY_29.alloc _).below hb (by have := hY_29.lt; simp; omega)
  have hm_30 := (hm_29.alloc _).below hb
  have B30 : Below w.heap.size w w30 := (B29.alloc B29.size _).trans (hb.mono (by simp; have := B29.size; omega))
  clear hX_29 hY_29 hr_29 hm_29 B29 hb hh x0 x1
  have y0 := hY_30.cell 0
  have y1 := hY_30.cell 1
  simp only [List.getElem?_cons_zero, List.getElem?_cons_succ] at y0 y1
  go_wp2_with fail
  refine (heldValueResult_any code (.slice z2 m2 c2) _ rl.length 1 _ hm_30 (by decide) (by decide) hln).mono ?_
  rintro e w31 ⟨rfl, hb⟩
  have B31 : Below w.heap.size w w31 := B30.trans (hb.mono B30.size)
  go_wp2_with fail
  go_ret
  exact ⟨rfl, B31⟩

namespace lawSetPath
theorem own : ownKnob Try.prog.godebug = none := by kernel_rfl
theorem laidOut : laidOutB Try.prog = true := by kernel_rfl

set_option maxRecDepth 100000 in
theorem lifted (os : Os) (started : os.Started) (H : Type) (enc : TypeId × Value → H) :
    ReturnsInHanded {} Try.checked os 5 .any (Rows.fnExactSetPathSpec.pre6 enc Try.prog Try.f5 Rows.fnExactSetPathRow.domain false) (Rows.fnExactSetPathSpec.post enc Try.prog Try.f5 false true false false) := by
  refine returnsInHanded_of_change (C := Try.checked) own started (by kernel_rfl) Try.func5
    (ChangeSpec.witness6 (enc := enc) (C := Try.checked) false ⟨#[], #[.slice none 0 0, .slice none 0 0, .slice none 0 0], []⟩ 8 (by kernel_rfl) (by kernel_rfl) (by kernel_rfl) (by kernel_rfl)) ?_
  intro W base args ds gs before hval0 hW hcnd _
  have hval : ∀ (j : Nat) t v, Try.f5.params[j]? = some t → args[j]? = some v → Value.okWide Try.prog W .any base t v := hval0
  have hW' := hW
  obtain ⟨p, q, hA0, hV, rfl, hfz, hnd⟩ := hW
  have hA : DataW.TrodAll enc Try.prog W 0 (fun _ => true) true Try.f5.params.toList args.toList ds p := hA0
  rw [Try.params5] at hA hval
  obtain ⟨v0, vs0, d0, ds0, p0, q0, hargs, rfl, rfl, h0, r0⟩ := trodAll_cons hA
  obtain ⟨v1, vs1, d1, ds1, p1, q1, rfl, rfl, rfl, h1, r1⟩ := trodAll_cons r0
  obtain ⟨v2, vs2, d2, ds2, p2, q2, rfl, rfl, rfl, h2, r2⟩ := trodAll_cons r1
  obtain ⟨rfl, rfl, rfl⟩ := trodAll_nil r2
  obtain rfl : args = #[v0, v1, v2] := by cases args; simp_all
  obtain ⟨rfl, rfl⟩ := trodVars_none hV
  obtain ⟨a0, len0, cap0, rfl⟩ := okWide_slice Try.underlying22 (hval 0 22 v0 rfl rfl)
  have k0 := h0
  have lt0 : ∀ x ∈ p0, x.block < W.heap.size := by obtain ⟨m, hm⟩ := k0; exact DataW.trod_lt m _ _ _ hm
  obtain ⟨l0, hl0, w0⟩ : ∃ l : List M.Cl, l.length = len0 ∧ Cells W a0 cap0 l := by
    obtain ⟨fuel, hf⟩ := h0
    exact open_cells hf lt0
  subst hl0
  obtain ⟨a1, len1, cap1, rfl⟩ := okWide_slice Try.underlying22 (hval 1 22 v1 rfl rfl)
  have k1 := h1
  have lt1 : ∀ x ∈ p1, x.block < W.heap.size := by obtain ⟨m, hm⟩ := k1; exact DataW.trod_lt m _ _ _ hm
  obtain ⟨l1, hl1, w1⟩ : ∃ l : List M.Cl, l.length = len1 ∧ Cells W a1 cap1 l := by
    obtain ⟨fuel, hf⟩ := h1
    exact open_cells hf lt1
  subst hl1
  obtain ⟨a2, len2, cap2, rfl⟩ := okWide_slice Try.underlying22 (hval 2 22 v2 rfl rfl)
  have k2 := h2
  have lt2 : ∀ x ∈ p2, x.block < W.heap.size := by obtain ⟨m, hm⟩ := k2; exact DataW.trod_lt m _ _ _ hm
  obtain ⟨l2, hl2, w2⟩ : ∃ l : List M.Cl, l.length = len2 ∧ Cells W a2 cap2 l := by
    obtain ⟨fuel, hf⟩ := h2
    exact open_cells hf lt2
  subst hl2
  clear hA0 hval0
  refine (lawSetPath_walk a0 cap0 l0 a1 cap1 l1 a2 cap2 l2 W w0 w1 w2).mono fun e W' ⟨he, bel⟩ => ?_
  subst he
  exact ⟨_, rfl, _, _, _, [], _, [], hW', trodAll_mk1 (shut_bool Try.underlying4 _), (trodAll_cons_mk (Below.trod laidOut (by kernel_rfl) (of_decide_eq_true (by kernel_rfl)) k0 bel lt0) (trodAll_cons_mk (Below.trod laidOut (by kernel_rfl) (of_decide_eq_true (by kernel_rfl)) k1 bel lt1) (trodAll_cons_mk (Below.trod laidOut (by kernel_rfl) (of_decide_eq_true (by kernel_rfl)) k2 bel lt2) trodAll_mk0))), rfl, bel.frame _, fun h => by cases h⟩

theorem over : Rows.fnExactSetPathRow.holds Try.pinned (OpenSpec.ofChange Rows.fnExactSetPathSpec) :=
  OpenClaim.holds_of_wide 5 Try.f5 rfl rfl rfl rfl rfl rfl rfl ⟨rfl, rfl, rfl, rfl, rfl⟩ rfl rfl rfl rfl rfl (by kernel_rfl) Try.func5 (by kernel_rfl)
    (of_decide_eq_true (by kernel_rfl)) (by unfold Func.isWrapper; first | (rw [if_pos (by decide +kernel)]; kernel_rfl) | (rw [if_neg (by decide +kernel)]; exact ⟨rfl, rfl⟩))
    (fun os started H enc _ => lifted os started H enc)
end lawSetPath

/-- The statement. -/
theorem lawSetPath_holds : Rows.FnExactSetPathSaid := lawSetPath.over
#print axioms lawSetPath_holds
end Go.Proofs.Ytheofnndigpjpaa
