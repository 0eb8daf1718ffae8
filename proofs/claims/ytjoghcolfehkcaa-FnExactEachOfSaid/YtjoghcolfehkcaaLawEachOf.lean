/-
  Proved: at every argument impl.EachOf answers as spec.EachOf, every field, writes nothing into its argument, and its answer owns its memory, no two of its lists sharing any (laws.FnExactEachOf returns true). No condition.
-/
import Derived.Test.YtjoghcolfehkcaaEachT
import Derived.Test.YtjoghcolfehkcaaArg
import Derived.ShutString
import Derived.ChangeOld
namespace Go.Proofs.Ytjoghcolfehkcaa
open Go.ChangeShapes Go.WideShapes Go.ChangeAt Go.RowKit
open Go.ChangeMaps (open_string shut_string)
set_option linter.unusedVariables false

theorem rowAlloc {w : World} {b : Nat} {t : TypeId} {l : List M.Cl} (h : OwnRow w b t l) (o : Obj) : OwnRow (w.alloc o) b t l := by
  obtain ⟨xs, p1, p2⟩ := h
  exact ⟨xs, p1.alloc _, p2⟩

set_option maxRecDepth 100000 in
set_option maxHeartbeats 8000000 in
theorem lawEachOf_walk (a : Option Addr) (cap : Nat) (l : List M.Cl) (w : World) (hA : Cells w a cap l) :
    Calls Try.prog 7 #[.slice a l.length cap] w fun e w' => e = .returned (.bool true) ∧ Below w.heap.size w w' := by
  have HA := hide hA
  clear hA
  go_enter Try.func7, Try.ntmps7
  go_wp2_with fail
  refine (sz_arg a cap l _ _ (unhide HA) (by decide) (by decide)).mono ?_
  rintro e w1 ⟨r, rfl, hr, hb1⟩
  rcases hr with hr | ⟨hr0, hr1⟩
  · go_wp2_with fail
    go_ret
    exact ⟨rfl, hb1⟩
  have hn : l.length ≤ 1048576 := by omega
  have hok := hide (unhide HA).2.2.1
  clear hr1
  go_wp2_with fail
  refine (to_arg a cap l _ ((unhide HA).below hb1) hn).mono ?_
  rintro e w2 ⟨rfl, ho2, hb2⟩
  have B2 : Below w.heap.size w w2 := hb1.trans (hb2.mono hb1.size)
  go_wp2_with fail
  refine (specEachOf_any l w1.heap.size 0 l.length _ ho2.row ho2.lt hn (Nat.le_refl _) (unhide hok)).mono ?_
  rintro e w3 ⟨s, rfl, hrs, hb3⟩
  have B3 : Below w.heap.size w w3 := B2.trans (hb3.mono B2.size)
  have hs3 : w.heap.size ≤ w3.heap.size := B3.size
  have hs23 := hb3.size
  have hr3 : PS w3 w2.heap.size w3.heap.size s (eachOut l).2 := hrs
  have hsm := each_small l (unhide hok)
  clear hb1 hb2 hb3 ho2 hrs
  generalize hR : eachOut l = R at *
  obtain ⟨code, rl⟩ := R
  simp only at hr3 hsm ⊢
  obtain ⟨hs1, hs2, hs4⟩ := hsm
  have HS4 := hide hs4
  have hs1' : rl.length ≤ 4096 := by omega
  have HR := hide hR
  clear hR hs4
  have B2s := B2.size
  obtain ⟨a1, m1, c1, rfl⟩ := hr3.shape
  go_wp2_with fail
  have B3' : Below w.heap.size w (w3.alloc (.cells #[.int .i64 code, .slice a1 m1 c1] 40)) := B3.alloc B3.size _
  have hX3 : Own (w3.alloc (.cells #[.int .i64 code, .slice a1 m1 c1] 40)) w3.heap.size 40 [.int .i64 code, .slice a1 m1 c1] := ⟨_, heap_alloc_new _ _, rfl⟩
  refine (to_arg a cap l _ ((unhide HA).below B3') hn).mono ?_
  rintro e w4 ⟨rfl, ho4, hb4⟩
  have hX4 := hX3.below hb4 (by simp)
  have hr4 := (hr3.alloc _).below hb4
  have B4 : Below w.heap.size w w4 := B3'.trans (hb4.mono (by simp; omega))
  have hs4 : w3.heap.size + 1 < w4.heap.size := by have := ho4.lt; simpa using this
  clear B3' hX3 hb4 hr3 B3 B2
  simp only [World.size_alloc] at ho4 ⊢
  go_wp2_with fail
  refine (implEachOf_any l (w3.heap.size + 1) 0 l.length _ ho4.row ho4.lt hn (Nat.le_refl _) (unhide hok)).mono ?_
  rintro e w5 ⟨s2, rfl, hg5, hb5⟩
  rw [unhide HR] at hg5 ⊢
  simp only at hg5 ⊢
  have hX5 := hX4.below hb5 hX4.lt
  have ho5 := ho4.below hb5 ho4.lt
  have hr5 := hr4.below hb5
  have B5 : Below w.heap.size w w5 := B4.trans (hb5.mono B4.size)
  have hs5 := hb5.size
  clear hb5 hX4 ho4 hr4 B4
  obtain ⟨a2, m2, c2, rfl⟩ := hg5.ps.shape
  have x0 : ∀ o, (w5.alloc o).cell? ⟨w3.heap.size, 0, none⟩ = some (.int .i64 code) := fun o => (hX5.alloc o).cell 0
  have x1 : ∀ o, (w5.alloc o).cell? ⟨w3.heap.size, 1, none⟩ = some (.slice a1 m1 c1) := fun o => (hX5.alloc o).cell 1
  go_wp2_with fail
  refine (eqPartsResult_any code (.slice a2 m2 c2) (.slice a1 m1 c1) _ _ _ _ rl _ (hg5.alloc _).ps (hr5.alloc _) hs1' (unhide HS4)).mono ?_
  rintro e w6 ⟨rfl, hb6⟩
  have hX6 := (hX5.alloc _).below hb6 (by have := hX5.lt; simp; omega)
  have ho6 := (rowAlloc ho5 _).below hb6 (by have := ho5.lt; simp; omega)
  have hr6 := (hr5.alloc _).below hb6
  have hg6 := (hg5.alloc _).below hb6
  have hY6 : Own w6 w5.heap.size 40 [.int .i64 code, .slice a2 m2 c2] := Own.below ⟨_, heap_alloc_new _ _, rfl⟩ hb6 (by simp)
  have B6 : Below w.heap.size w w6 := (B5.alloc B5.size _).trans (hb6.mono (by simp; have := B5.size; omega))
  clear x0 x1 hb6 hX5 ho5 hr5 hg5 B5
  go_wp2_with fail
  refine (to_arg a cap l _ ((unhide HA).below B6) hn).mono ?_
  rintro e w7 ⟨rfl, hq7, hb7⟩
  have hX7 := hX6.below hb7 hX6.lt
  have hY7 := hY6.below hb7 hY6.lt
  have ho7 := ho6.below hb7 ho6.lt
  have hr7 := hr6.below hb7
  have hg7 := hg6.below hb7
  have B7 : Below w.heap.size w w7 := B6.trans (hb7.mono B6.size)
  clear hb7 hX6 hY6 ho6 hr6 hg6 B6
  go_wp2_with fail
  refine (eqCellS_same (w3.heap.size + 1) 0 l.length w6.heap.size 0 l.length l _ ho7.row ho7.lt hq7.row hq7.lt hn (Nat.le_refl _) (Nat.le_refl _)).mono ?_
  rintro e w8 ⟨rfl, hb8⟩
  have hX8 := hX7.below hb8 hX7.lt
  have hY8 := hY7.below hb8 hY7.lt
  have ho8 := ho7.below hb8 ho7.lt
  have hr8 := hr7.below hb8
  have hg8 := hg7.below hb8
  have B8 : Below w.heap.size w w8 := B7.trans (hb8.mono B7.size)
  clear hb8 hq7 hX7 hY7 ho7 hr7 hg7 B7
  go_wp2_with fail
  refine (markCellS_any (w3.heap.size + 1) l.length l 1 _ ho8.wide hn (Nat.le_refl _) (by decide) (by decide)).mono ?_
  rintro e w9 ⟨rfl, _, hm⟩
  have hX9 : Own w9 w3.heap.size 40 [.int .i64 code, .slice a1 m1 c1] := hm.own hX8 hX8.lt (by omega)
  have hY9 : Own w9 w5.heap.size 40 [.int .i64 code, .slice a2 m2 c2] := hm.own hY8 hY8.lt (by omega)
  have hr9 := hr8.keep (w' := w9) (fun k h1 h2 h3 => hm.block k h3 (by omega))
  have hg9 := hg8.keep (w' := w9) (fun k h1 h2 h3 => hm.block k h3 (by omega))
  have B9 : Below w.heap.size w w9 := B8.trans (hm.below B8.size (by omega))
  clear hm hX8 hY8 ho8 hr8 hg8 B8
  have x0 := hX9.cell 0
  have x1 := hX9.cell 1
  have y0 := hY9.cell 0
  have y1 := hY9.cell 1
  simp only [List.getElem?_cons_zero, List.getElem?_cons_succ] at x0 x1 y0 y1
  have d9 : decide ((1 : Int) + 5 * (l.length : Int) < 0) = false := decide_eq_false (by omega)
  go_wp2_with fail
  refine (eqPartsResult_any code (.slice a2 m2 c2) (.slice a1 m1 c1) _ _ _ _ rl _ hg9.ps hr9 hs1' (unhide HS4)).mono ?_
  rintro e w10 ⟨rfl, hb10⟩
  have hX10 := hX9.below hb10 hX9.lt
  have hY10 := hY9.below hb10 hY9.lt
  have hr10 := hr9.below hb10
  have hg10 := hg9.below hb10
  have B10 : Below w.heap.size w w10 := B9.trans (hb10.mono B9.size)
  clear x0 x1 y0 y1 d9 hb10 hX9 hY9 hr9 hg9 B9
  have y0 := hY10.cell 0
  have y1 := hY10.cell 1
  simp only [List.getElem?_cons_zero, List.getElem?_cons_succ] at y0 y1
  go_wp2_with fail
  refine (markPartsResult_any code (.slice a2 m2 c2) _ _ rl 1 _ hg10 hs1' hs2 (by decide) (by decide)).mono ?_
  rintro e w11 ⟨rfl, hm11, hv⟩
  have hX11 : Own w11 w3.heap.size 40 [.int .i64 code, .slice a1 m1 c1] := hv.own hX10 (by omega)
  have hY11 : Own w11 w5.heap.size 40 [.int .i64 code, .slice a2 m2 c2] := hv.own hY10 (by omega)
  have hr11 := hr10.keep (w' := w11) (fun k h1 h2 h3 => hv.block k h3 (by omega))
  have B11 : Below w.heap.size w w11 := B10.trans (hv.below (by omega) B10.size)
  clear y0 y1 hX10 hY10 hr10 hg10 hv B10
  have y0 := hY11.cell 0
  have y1 := hY11.cell 1
  simp only [List.getElem?_cons_zero, List.getElem?_cons_succ] at y0 y1
  have hq11 : (0 : Int) ≤ (tot rl rl.length : Int) := by omega
  obtain ⟨tt, htt⟩ : ∃ tt : Nat, tt = tot rl rl.length := ⟨_, rfl⟩
  have HTT := hide htt
  rw [← htt] at hs2 ⊢
  clear htt hq11
  have HHELD := hide (fun W (h : PR W w4.heap.size w5.heap.size (.slice a2 m2 c2) (mkAll rl 1)) => heldPartsResult_any code (.slice a2 m2 c2) _ _ rl 1 W h hs1' (by rw [← unhide HTT]; exact hs2) (by decide) (by decide))
  rw [← unhide HTT] at HHELD
  go_wp2_with fail
  refine ((unhide HHELD) _ hm11).mono ?_
  rintro e w12 ⟨rfl, hb12⟩
  have hX12 := hX11.below hb12 hX11.lt
  have hY12 := hY11.below hb12 hY11.lt
  have hr12 := hr11.below hb12
  have hm12 := hm11.below hb12
  have B12 : Below w.heap.size w w12 := B11.trans (hb12.mono B11.size)
  clear y0 y1 hb12 hX11 hY11 hr11 hm11 B11
  go_wp2_with fail
  refine (to_arg a cap l _ ((unhide HA).below B12) hn).mono ?_
  rintro e w13 ⟨rfl, ho13, hb13⟩
  have hX13 := hX12.below hb13 hX12.lt
  have hY13 := hY12.below hb13 hY12.lt
  have hr13 := hr12.below hb13
  have hm13 := hm12.below hb13
  have B13 : Below w.heap.size w w13 := B12.trans (hb13.mono B12.size)
  clear hb13 hX12 hY12 hr12 hm12 B12
  go_wp2_with fail
  refine (implEachOf_any l w12.heap.size 0 l.length _ ho13.row ho13.lt hn (Nat.le_refl _) (unhide hok)).mono ?_
  rintro e w14 ⟨s3, rfl, hh14, hb14⟩
  rw [unhide HR] at hh14 ⊢
  simp only at hh14 ⊢
  have hX14 := hX13.below hb14 hX13.lt
  have hY14 := hY13.below hb14 hY13.lt
  have hr14 := hr13.below hb14
  have hm14 := hm13.below hb14
  have B14 : Below w.heap.size w w14 := B13.trans (hb14.mono B13.size)
  clear hb14 ho13 hX13 hY13 hr13 hm13 B13
  obtain ⟨a3, m3, c3, rfl⟩ := hh14.ps.shape
  have x0 : ∀ o, (w14.alloc o).cell? ⟨w3.heap.size, 0, none⟩ = some (.int .i64 code) := fun o => (hX14.alloc o).cell 0
  have x1 : ∀ o, (w14.alloc o).cell? ⟨w3.heap.size, 1, none⟩ = some (.slice a1 m1 c1) := fun o => (hX14.alloc o).cell 1
  go_wp2_with fail
  refine (eqPartsResult_any code (.slice a3 m3 c3) (.slice a1 m1 c1) _ _ _ _ rl _ (hh14.alloc _).ps (hr14.alloc _) hs1' (unhide HS4)).mono ?_
  rintro e w15 ⟨rfl, hb15⟩
  have hY15 := (hY14.alloc _).below hb15 (by have := hY14.lt; simp; omega)
  have hm15 := (hm14.alloc _).below hb15
  have B15 : Below w.heap.size w w15 := (B14.alloc B14.size _).trans (hb15.mono (by simp; have := B14.size; omega))
  clear x0 x1 hX14 hY14 hr14 hm14 hh14 hb15 B14
  have y0 := hY15.cell 0
  have y1 := hY15.cell 1
  simp only [List.getElem?_cons_zero, List.getElem?_cons_succ] at y0 y1
  go_wp2_with fail
  refine ((unhide HHELD) _ hm15).mono ?_
  rintro e w16 ⟨rfl, hb16⟩
  have B16 : Below w.heap.size w w16 := B15.trans (hb16.mono B15.size)
  clear y0 y1 hY15 hm15 hb16 B15
  go_wp2_with fail
  go_ret
  exact ⟨rfl, B16⟩

namespace lawEachOf
theorem own : ownKnob Try.prog.godebug = none := by kernel_rfl
theorem laidOut : laidOutB Try.prog = true := by kernel_rfl

set_option maxRecDepth 100000 in
theorem lifted (os : Os) (started : os.Started) (H : Type) (enc : TypeId × Value → H) :
    ReturnsInHanded {} Try.checked os 7 .any (Rows.fnExactEachOfSpec.pre6 enc Try.prog Try.f7 Rows.fnExactEachOfRow.domain false) (Rows.fnExactEachOfSpec.post enc Try.prog Try.f7 false true false false) := by
  refine returnsInHanded_of_change (C := Try.checked) own started (by kernel_rfl) Try.func7
    (ChangeSpec.witness6 (enc := enc) (C := Try.checked) false ⟨#[], #[.slice none 0 0], []⟩ 8 (by kernel_rfl) (by kernel_rfl) (by kernel_rfl) (by kernel_rfl)) ?_
  intro W base args ds gs before hval0 hW hcnd _
  have hval : ∀ (j : Nat) t v, Try.f7.params[j]? = some t → args[j]? = some v → Value.okWide Try.prog W .any base t v := hval0
  have hW' := hW
  obtain ⟨p, q, hA0, hV, rfl, hfz, hnd⟩ := hW
  have hA : DataW.TrodAll enc Try.prog W 0 (fun _ => true) true Try.f7.params.toList args.toList ds p := hA0
  rw [Try.params7] at hA hval
  obtain ⟨v0, vs0, d0, ds0, p0, q0, hargs, rfl, rfl, h0, r0⟩ := trodAll_cons hA
  obtain ⟨rfl, rfl, rfl⟩ := trodAll_nil r0
  obtain rfl : args = #[v0] := by cases args; simp_all
  obtain ⟨rfl, rfl⟩ := trodVars_none hV
  obtain ⟨a0, len0, cap0, rfl⟩ := okWide_slice Try.underlying22 (hval 0 22 v0 rfl rfl)
  have k0 := h0
  have lt0 : ∀ x ∈ p0, x.block < W.heap.size := by obtain ⟨m, hm⟩ := k0; exact DataW.trod_lt m _ _ _ hm
  obtain ⟨l0, hl0, w0⟩ : ∃ l : List M.Cl, l.length = len0 ∧ Cells W a0 cap0 l := by
    obtain ⟨fuel, hf⟩ := h0
    exact open_cells hf lt0
  subst hl0
  clear hA0 hval0
  refine (lawEachOf_walk a0 cap0 l0 W w0).mono fun e W' ⟨he, bel⟩ => ?_
  subst he
  exact ⟨_, rfl, _, _, _, [], _, [], hW', trodAll_mk1 (shut_bool Try.underlying4 _), (trodAll_cons_mk (Below.trod laidOut (by kernel_rfl) (of_decide_eq_true (by kernel_rfl)) k0 bel lt0) trodAll_mk0), rfl, bel.frame _, fun h => by cases h⟩

theorem over : Rows.fnExactEachOfRow.holds Try.pinned (OpenSpec.ofChange Rows.fnExactEachOfSpec) :=
  OpenClaim.holds_of_wide 7 Try.f7 rfl rfl rfl rfl rfl rfl rfl ⟨rfl, rfl, rfl, rfl, rfl⟩ rfl rfl rfl rfl rfl (by kernel_rfl) Try.func7 (by kernel_rfl)
    (of_decide_eq_true (by kernel_rfl)) (by unfold Func.isWrapper; first | (rw [if_pos (by decide +kernel)]; kernel_rfl) | (rw [if_neg (by decide +kernel)]; exact ⟨rfl, rfl⟩))
    (fun os started H enc _ => lifted os started H enc)
end lawEachOf

/-- The statement. -/
theorem lawEachOf_holds : Rows.FnExactEachOfSaid := lawEachOf.over
#print axioms lawEachOf_holds
end Go.Proofs.Ytjoghcolfehkcaa
