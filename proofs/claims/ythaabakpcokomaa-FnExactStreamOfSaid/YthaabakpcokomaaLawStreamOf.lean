/-
  Proved: at every argument impl.StreamOf answers as spec.StreamOf, every field, writes nothing into its arguments, and its answer owns its memory, no two of its lists sharing any (laws.FnExactStreamOf returns true). No condition.
-/
import Derived.Test.YthaabakpcokomaaR03
import Derived.Test.YthaabakpcokomaaR04
import Derived.Test.YthaabakpcokomaaR18
import Derived.Test.YthaabakpcokomaaR45
import Derived.Test.YthaabakpcokomaaR46
import Derived.Test.YthaabakpcokomaaR47
import Derived.ChangeOld
import Derived.Deep.RegionHeld
import Derived.ShutString
namespace Go.Proofs.Ythaabakpcokomaa
open Go.ChangeShapes Go.WideShapes Go.ChangeAt Go.RowKit
open Go.ChangeMaps (open_string shut_string)
set_option linter.unusedVariables false

theorem rowAlloc {w : World} {b : Nat} {t : TypeId} {l : List M.Cl} (h : OwnRow w b t l) (o : Obj) : OwnRow (w.alloc o) b t l := by
  obtain ⟨xs, p1, p2⟩ := h
  exact ⟨xs, p1.alloc _, p2⟩
theorem ownKeep {w w' : World} {b : Nat} {t : TypeId} {xs : List Value} (h : Own w b t xs) (hk : w'.heap[b]? = w.heap[b]?) : Own w' b t xs := by
  obtain ⟨c, h1, h2⟩ := h; exact ⟨c, hk.trans h1, h2⟩
theorem rowKeep {w w' : World} {b : Nat} {t : TypeId} {l : List M.Cl} (h : OwnRow w b t l) (hk : w'.heap[b]? = w.heap[b]?) : OwnRow w' b t l := by
  obtain ⟨xs, h1, h2⟩ := h; exact ⟨xs, ownKeep h1 hk, h2⟩
theorem resKeep {w w' : World} {C : Nat} {s : Value} {l : List M.Cl} (hr : Res w C s l) (h : ∀ b, s.ownBlock = some b → w'.heap[b]? = w.heap[b]?) : Res w' C s l := by
  obtain ⟨q1, q2 | ⟨c, cc, q3, q4, q5, xs, ⟨z, h1, h2⟩, h3⟩⟩ := hr
  · exact ⟨q1, .inl q2⟩
  · exact ⟨q1, .inr ⟨c, cc, q3, q4, q5, xs, ⟨z, (h c (by rw [q3]; rfl)).trans h1, h2⟩, h3⟩⟩

set_option maxRecDepth 100000 in
set_option maxHeartbeats 8000000 in
theorem lawStreamOf_walk (a0 : Option Addr) (cap0 : Nat) (l0 : List M.Cl) (w : World) (hA0 : Cells w a0 cap0 l0) :
    Calls Try.prog 7 #[.slice a0 l0.length cap0] w fun e w' => e = .returned (.bool true) ∧ Below w.heap.size w w' := by
  have HA0 := hide hA0
  clear hA0
  go_enter Try.func7, Try.ntmps7
  go_wp2_with fail
  refine (sz_arg a0 cap0 l0 _ _ (unhide HA0) (by decide) (by decide)).mono ?_
  rintro e w1 ⟨r0, rfl, hr, hb⟩
  have B1 : Below w.heap.size w w1 := hb
  clear hb
  rcases hr with hr | ⟨hr00, hr1⟩
  · go_wp2_with fail
    go_ret
    exact ⟨rfl, B1⟩
  have hn0 : l0.length ≤ 1048576 := by omega
  have hr02 : r0 ≤ 1048576 := by omega
  have hok0 := hide (unhide HA0).2.2.1
  clear hr1
  go_wp2_with fail
  refine (to_arg a0 cap0 l0 _ ((unhide HA0).below B1) hn0).mono ?_
  rintro e w2 ⟨rfl, s0_2, hb⟩
  have B2 : Below w.heap.size w w2 := B1.trans (hb.mono B1.size)
  have hsz2 : w1.heap.size < w2.heap.size := s0_2.lt
  clear  B1 hb
  go_wp2_with fail
  refine (Al.specStreamOf_any l0 w1.heap.size 0 l0.length _ s0_2.row s0_2.lt hn0 (Nat.le_refl _) (unhide hok0)).mono ?_
  rintro e w3 ⟨s, rfl, hrs, hb⟩
  have B3 : Below w.heap.size w w3 := B2.trans (hb.mono B2.size)
  have hszS : w2.heap.size ≤ w3.heap.size := hb.size
  have hr_3 : PS w3 w2.heap.size w3.heap.size s (Al.streamOut l0).2 := hrs
  clear s0_2 B2 hb hrs
  have hsm := Al.stream_small l0
  generalize hR : Al.streamOut l0 = R at *
  obtain ⟨code, rl⟩ := R
  simp only at hr_3 hsm ⊢
  have HR := hide hR
  clear hR
  obtain ⟨hs1, hs2, hs4⟩ := hsm
  have HS4 := hide hs4
  have hs1' : rl.length ≤ 4096 := by omega
  clear hs4
  have hs5 : w.heap.size ≤ w3.heap.size := B3.size
  obtain ⟨z1, m1, c1, rfl⟩ := hr_3.shape
  obtain ⟨w4, hW⟩ : ∃ W, W = w3.alloc (.cells #[.int .i64 code, .slice z1 m1 c1] 46) := ⟨_, rfl⟩
  have B4 : Below w.heap.size w w4 := by rw [hW]; exact B3.alloc B3.size _
  have hX_4 : Own w4 w3.heap.size 46 [.int .i64 code, .slice z1 m1 c1] := by rw [hW]; exact ⟨_, heap_alloc_new _ _, rfl⟩
  have hr_4 : PS w4 w2.heap.size w3.heap.size (.slice z1 m1 c1) rl := by rw [hW]; exact hr_3.alloc _
  have hsz4 : w3.heap.size < w4.heap.size := by rw [hW]; simp
  clear hr_3 B3
  go_wp2_with fail
  rw [← hW]
  clear hW
  refine (to_arg a0 cap0 l0 _ ((unhide HA0).below B4) hn0).mono ?_
  rintro e w5 ⟨rfl, x0_5, hb⟩
  have B5 : Below w.heap.size w w5 := B4.trans (hb.mono B4.size)
  have hsz5 : w4.heap.size < w5.heap.size := x0_5.lt
  have hX_5 := hX_4.below hb hX_4.lt
  have hr_5 := hr_4.below hb
  clear hX_4 hr_4 B4 hb
  go_wp2_with fail
  refine (Al.implStreamOf_any l0 w4.heap.size 0 l0.length _ x0_5.row x0_5.lt hn0 (Nat.le_refl _) (unhide hok0)).mono ?_
  rintro e w6 ⟨s2, rfl, hg_6, hb⟩
  rw [unhide HR] at hg_6 ⊢
  simp only at hg_6 ⊢
  have B6 : Below w.heap.size w w6 := B5.trans (hb.mono B5.size)
  have hsz6 : w5.heap.size ≤ w6.heap.size := hb.size
  have hX_6 := hX_5.below hb hX_5.lt
  have hr_6 := hr_5.below hb
  have x0_6 := x0_5.below hb x0_5.lt
  clear hX_5 hr_5 x0_5 B5 hb
  obtain ⟨z2, m2, c2, rfl⟩ := hg_6.ps.shape
  have x0 : ∀ o, (w6.alloc o).cell? ⟨w3.heap.size, 0, none⟩ = some (.int .i64 code) := fun o => (hX_6.alloc o).cell 0
  have x1 : ∀ o, (w6.alloc o).cell? ⟨w3.heap.size, 1, none⟩ = some (.slice z1 m1 c1) := fun o => (hX_6.alloc o).cell 1
  go_wp2_with fail
  refine (eqPartsResult_any code (.slice z2 m2 c2) (.slice z1 m1 c1) _ _ _ _ rl _ (hg_6.alloc _).ps (hr_6.alloc _) hs1' (unhide HS4)).mono ?_
  rintro e w7 ⟨rfl, hb⟩
  have hX_7 := (hX_6.alloc _).below hb (by have := hX_6.lt; simp; omega)
  have hr_7 := (hr_6.alloc _).below hb
  have x0_7 := (rowAlloc x0_6 _).below hb (by have := x0_6.lt; simp; omega)
  have hg_7 := (hg_6.alloc _).below hb
  have hY_7 : Own w7 w6.heap.size 46 [.int .i64 code, .slice z2 m2 c2] := Own.below ⟨_, heap_alloc_new _ _, rfl⟩ hb (by simp)
  have B7 : Below w.heap.size w w7 := (B6.alloc B6.size _).trans (hb.mono (by simp; have := B6.size; omega))
  have hsz7 : w6.heap.size < w7.heap.size := hY_7.lt
  clear hX_6 hr_6 x0_6 hg_6 B6 hb x0 x1
  go_wp2_with fail
  refine (to_arg a0 cap0 l0 _ ((unhide HA0).below B7) hn0).mono ?_
  rintro e w8 ⟨rfl, q0_8, hb⟩
  have B8 : Below w.heap.size w w8 := B7.trans (hb.mono B7.size)
  have hsz8 : w7.heap.size < w8.heap.size := q0_8.lt
  have hX_8 := hX_7.below hb hX_7.lt
  have hr_8 := hr_7.below hb
  have x0_8 := x0_7.below hb x0_7.lt
  have hg_8 := hg_7.below hb
  have hY_8 := hY_7.below hb hY_7.lt
  clear hX_7 hr_7 x0_7 hg_7 hY_7 B7 hb
  go_wp2_with fail
  refine (eqCellS_same w4.heap.size 0 l0.length w7.heap.size 0 l0.length l0 _ x0_8.row x0_8.lt q0_8.row q0_8.lt hn0 (Nat.le_refl _) (Nat.le_refl _)).mono ?_
  rintro e w9 ⟨rfl, hb⟩
  have B9 : Below w.heap.size w w9 := B8.trans (hb.mono B8.size)
  have hX_9 := hX_8.below hb hX_8.lt
  have hr_9 := hr_8.below hb
  have x0_9 := x0_8.below hb x0_8.lt
  have hg_9 := hg_8.below hb
  have hY_9 := hY_8.below hb hY_8.lt
  clear hX_8 hr_8 x0_8 hg_8 hY_8 B8 hb q0_8
  go_wp2_with fail
  refine (markCellS_any w4.heap.size l0.length l0 1 _ x0_9.wide hn0 (Nat.le_refl _) (by decide) (by decide)).mono ?_
  rintro e w10 ⟨rfl, _, hm⟩
  have HK : ∀ k, k < w9.heap.size → (k < w4.heap.size ∨ w5.heap.size ≤ k) → w10.heap[k]? = w9.heap[k]? := fun k h1 h2 => hm.block k h1 (by omega)
  have hX_10 : Own w10 w3.heap.size 46 [.int .i64 code, .slice z1 m1 c1] := ownKeep hX_9 (HK _ hX_9.lt (by omega))
  have hY_10 : Own w10 w6.heap.size 46 [.int .i64 code, .slice z2 m2 c2] := ownKeep hY_9 (HK _ hY_9.lt (by omega))
  have hr_10 := hr_9.keep (w' := w10) (fun k h1 h2 h3 => HK k h3 (by omega))
  have hg_10 := hg_9.keep (w' := w10) (fun k h1 h2 h3 => HK k h3 (by omega))
  have B10 : Below w.heap.size w w10 := B9.trans (hm.below B9.size (by omega))
  clear hX_9 hr_9 hg_9 hY_9 B9 hm HK x0_9
  have x0 := hX_10.cell 0
  have x1 := hX_10.cell 1
  have y0 := hY_10.cell 0
  have y1 := hY_10.cell 1
  simp only [List.getElem?_cons_zero, List.getElem?_cons_succ] at x0 x1 y0 y1
  have d15 : decide ((1 : Int) + 5 * (l0.length : Int) < 0) = false := decide_eq_false (by omega)
  go_wp2_with fail
  refine (eqPartsResult_any code (.slice z2 m2 c2) (.slice z1 m1 c1) _ _ _ _ rl _ hg_10.ps hr_10 hs1' (unhide HS4)).mono ?_
  rintro e w11 ⟨rfl, hb⟩
  have B11 : Below w.heap.size w w11 := B10.trans (hb.mono B10.size)
  have hX_11 := hX_10.below hb hX_10.lt
  have hr_11 := hr_10.below hb
  have hg_11 := hg_10.below hb
  have hY_11 := hY_10.below hb hY_10.lt
  clear hX_10 hr_10 hg_10 hY_10 B10 hb x0 x1 y0 y1 d15
  have y0 := hY_11.cell 0
  have y1 := hY_11.cell 1
  simp only [List.getElem?_cons_zero, List.getElem?_cons_succ] at y0 y1
  go_wp2_with fail
  refine (markPartsResult_any code (.slice z2 m2 c2) _ _ rl 1 _ hg_11 hs1' hs2 (by decide) (by decide)).mono ?_
  rintro e w12 ⟨rfl, hm_12, hv⟩
  have hX_12 : Own w12 w3.heap.size 46 [.int .i64 code, .slice z1 m1 c1] := hv.own hX_11 (by omega)
  have hY_12 : Own w12 w6.heap.size 46 [.int .i64 code, .slice z2 m2 c2] := hv.own hY_11 (by omega)
  have hr_12 := hr_11.keep (w' := w12) (fun k h1 h2 h3 => hv.block k h3 (by omega))
  have B12 : Below w.heap.size w w12 := B11.trans (hv.below (by omega) B11.size)
  clear hX_11 hr_11 hg_11 hY_11 B11 hv y0 y1
  obtain ⟨tt, htt⟩ : ∃ tt : Nat, tt = tot rl rl.length := ⟨_, rfl⟩
  have HTT := hide htt
  rw [← htt] at hs2 ⊢
  clear htt
  have HHELD := hide (fun W (h : PR W w5.heap.size w6.heap.size (.slice z2 m2 c2) (mkAll rl 1)) => heldPartsResult_any code (.slice z2 m2 c2) _ _ rl 1 W h hs1' (by rw [← unhide HTT]; exact hs2) (by decide) (by decide))
  rw [← unhide HTT] at HHELD
  have y0 := hY_12.cell 0
  have y1 := hY_12.cell 1
  simp only [List.getElem?_cons_zero, List.getElem?_cons_succ] at y0 y1
  go_wp2_with fail
  refine ((unhide HHELD) _ hm_12).mono ?_
  rintro e w13 ⟨rfl, hb⟩
  have B13 : Below w.heap.size w w13 := B12.trans (hb.mono B12.size)
  have hX_13 := hX_12.below hb hX_12.lt
  have hY_13 := hY_12.below hb hY_12.lt
  have hr_13 := hr_12.below hb
  have hm_13 := hm_12.below hb
  clear hX_12 hY_12 hr_12 hm_12 B12 hb y0 y1
  go_wp2_with fail
  refine (to_arg a0 cap0 l0 _ ((unhide HA0).below B13) hn0).mono ?_
  rintro e w14 ⟨rfl, t0_14, hb⟩
  have B14 : Below w.heap.size w w14 := B13.trans (hb.mono B13.size)
  have hsz14 : w13.heap.size < w14.heap.size := t0_14.lt
  have hX_14 := hX_13.below hb hX_13.lt
  have hY_14 := hY_13.below hb hY_13.lt
  have hr_14 := hr_13.below hb
  have hm_14 := hm_13.below hb
  clear hX_13 hY_13 hr_13 hm_13 B13 hb
  go_wp2_with fail
  refine (Al.implStreamOf_any l0 w13.heap.size 0 l0.length _ t0_14.row t0_14.lt hn0 (Nat.le_refl _) (unhide hok0)).mono ?_
  rintro e w15 ⟨s3, rfl, hh, hb⟩
  rw [unhide HR] at hh ⊢
  simp only at hh ⊢
  have B15 : Below w.heap.size w w15 := B14.trans (hb.mono B14.size)
  have hX_15 := hX_14.below hb hX_14.lt
  have hY_15 := hY_14.below hb hY_14.lt
  have hr_15 := hr_14.below hb
  have hm_15 := hm_14.below hb
  clear hX_14 hY_14 hr_14 hm_14 B14 hb t0_14
  obtain ⟨z3, m3, c3, rfl⟩ := hh.ps.shape
  have x0 : ∀ o, (w15.alloc o).cell? ⟨w3.heap.size, 0, none⟩ = some (.int .i64 code) := fun o => (hX_15.alloc o).cell 0
  have x1 : ∀ o, (w15.alloc o).cell? ⟨w3.heap.size, 1, none⟩ = some (.slice z1 m1 c1) := fun o => (hX_15.alloc o).cell 1
  go_wp2_with fail
  refine (eqPartsResult_any code (.slice z3 m3 c3) (.slice z1 m1 c1) _ _ _ _ rl _ (hh.alloc _).ps (hr_15.alloc _) hs1' (unhide HS4)).mono ?_
  rintro e w16 ⟨rfl, hb⟩
  have hY_16 := (hY_15.alloc _).below hb (by have := hY_15.lt; simp; omega)
  have hm_16 := (hm_15.alloc _).below hb
  have B16 : Below w.heap.size w w16 := (B15.alloc B15.size _).trans (hb.mono (by simp; have := B15.size; omega))
  clear hX_15 hY_15 hr_15 hm_15 B15 hb hh x0 x1
  have y0 := hY_16.cell 0
  have y1 := hY_16.cell 1
  simp only [List.getElem?_cons_zero, List.getElem?_cons_succ] at y0 y1
  go_wp2_with fail
  refine ((unhide HHELD) _ hm_16).mono ?_
  rintro e w17 ⟨rfl, hb⟩
  have B17 : Below w.heap.size w w17 := B16.trans (hb.mono B16.size)
  go_wp2_with fail
  go_ret
  exact ⟨rfl, B17⟩

namespace lawStreamOf
theorem own : ownKnob Try.prog.godebug = none := by kernel_rfl
theorem laidOut : laidOutB Try.prog = true := by kernel_rfl

set_option maxRecDepth 100000 in
theorem lifted (os : Os) (started : os.Started) (H : Type) (enc : TypeId × Value → H) :
    ReturnsInHanded {} Try.checked os 7 .any (Rows.fnExactStreamOfSpec.pre6 enc Try.prog Try.f7 Rows.fnExactStreamOfRow.domain false) (Rows.fnExactStreamOfSpec.post enc Try.prog Try.f7 false true false false) := by
  refine returnsInHanded_of_change (C := Try.checked) own started (by kernel_rfl) Try.func7
    (ChangeSpec.witness6 (enc := enc) (C := Try.checked) false ⟨#[], #[.slice none 0 0], []⟩ 8 (by kernel_rfl) (by kernel_rfl) (by kernel_rfl) (by kernel_rfl)) ?_
  intro W base args ds gs before hval0 hW hcnd _
  have hval : ∀ (j : Nat) t v, Try.f7.params[j]? = some t → args[j]? = some v → Value.okWide Try.prog W .any base t v := hval0
  have hW' := hW
  obtain ⟨p, q, hA0, hV, rfl, hfz, hnd⟩ := hW
  have hA : DataW.TrodAll enc Try.prog W 0 (fun _ => true) true Try.f7.params.toList args.toList ds p := hA0
  rw [Try.params7] at hA hval
  obtain ⟨v0, vs0, d0, ds0, p0, q0, hargs, rfl, rfl, h0, r0⟩ := trodAll_cons hA
  obtain ⟨rfl, rfl, rfl⟩ := trodAll_nil r0
  obtain rfl : args = #[v0] := by cases args; simp_all
  obtain ⟨rfl, rfl⟩ := trodVars_none hV
  obtain ⟨a0, len0, cap0, rfl⟩ := okWide_slice Try.underlying22 (hval 0 22 v0 rfl rfl)
  have k0 := h0
  have lt0 : ∀ x ∈ p0, x.block < W.heap.size := by obtain ⟨m, hm⟩ := k0; exact DataW.trod_lt m _ _ _ hm
  obtain ⟨l0, hl0, w0⟩ : ∃ l : List M.Cl, l.length = len0 ∧ Cells W a0 cap0 l := by
    obtain ⟨fuel, hf⟩ := h0
    exact open_cells hf lt0
  subst hl0
  clear hA0 hval0
  refine (lawStreamOf_walk a0 cap0 l0 W w0).mono fun e W' ⟨he, bel⟩ => ?_
  subst he
  exact ⟨_, rfl, _, _, _, [], _, [], hW', trodAll_mk1 (shut_bool Try.underlying4 _), (trodAll_cons_mk (Below.trod laidOut (by kernel_rfl) (of_decide_eq_true (by kernel_rfl)) k0 bel lt0) trodAll_mk0), rfl, bel.frame _, fun h => by cases h⟩

theorem over : Rows.fnExactStreamOfRow.holds Try.pinned (OpenSpec.ofChange Rows.fnExactStreamOfSpec) :=
  OpenClaim.holds_of_wide 7 Try.f7 rfl rfl rfl rfl rfl rfl rfl ⟨rfl, rfl, rfl, rfl, rfl⟩ rfl rfl rfl rfl rfl (by kernel_rfl) Try.func7 (by kernel_rfl)
    (of_decide_eq_true (by kernel_rfl)) (by unfold Func.isWrapper; first | (rw [if_pos (by decide +kernel)]; kernel_rfl) | (rw [if_neg (by decide +kernel)]; exact ⟨rfl, rfl⟩))
    (fun os started H enc _ => lifted os started H enc)
end lawStreamOf

/-- The statement. -/
theorem lawStreamOf_holds : Rows.FnExactStreamOfSaid := lawStreamOf.over
#print axioms lawStreamOf_holds
end Go.Proofs.Ythaabakpcokomaa
