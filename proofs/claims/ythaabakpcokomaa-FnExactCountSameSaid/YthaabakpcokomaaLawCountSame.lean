/-
  Proved: at every two arguments impl.CountSame answers as spec.CountSame, every field, and writes nothing into them (laws.FnExactCountSame returns true). No condition.
-/
import Derived.Test.YthaabakpcokomaaQ49
import Derived.Test.YthaabakpcokomaaQ50
import Derived.Test.YthaabakpcokomaaQ51
import Derived.Test.YthaabakpcokomaaQ52
import Derived.ChangeOld
import Derived.ShutString
namespace Go.Proofs.Ythaabakpcokomaa
open Go.ChangeShapes Go.WideShapes Go.ChangeAt Go.RowKit
set_option linter.unusedVariables false
open Al

set_option maxHeartbeats 2000000 in
theorem lawCountSame_walk (a : Option Addr) (cap : Nat) (l : List M.Cl) (a' : Option Addr) (cap' : Nat) (l' : List M.Cl) (w : World) (hA : Cells w a cap l) (hA' : Cells w a' cap' l') :
    Calls Try.prog 6 #[.slice a l.length cap, .slice a' l'.length cap'] w fun e w' => e = .returned (.bool true) ∧ Below w.heap.size w w' := by
  have HA := hide hA
  have HA' := hide hA'
  clear hA hA'
  go_enter Try.func6, Try.ntmps6
  go_wp2_with fail
  refine (sz_arg a cap l _ _ (unhide HA) (by decide) (by decide)).mono ?_
  rintro e w1 ⟨r, rfl, hr, hb1⟩
  rcases hr with hr | ⟨hr0, hr1⟩
  · go_wp2_with fail
    go_ret
    exact ⟨rfl, hb1⟩
  have hn : l.length ≤ 1048576 := by omega
  have hr2 : r ≤ 1048576 := by omega
  have hok := hide (unhide HA).2.2.1
  clear hr1
  go_wp2_with fail
  refine (sz_arg a' cap' l' _ _ ((unhide HA').below hb1) hr0 hr2).mono ?_
  rintro e w2 ⟨r', rfl, hr, hb2⟩
  have B2 : Below w.heap.size w w2 := hb1.trans (hb2.mono hb1.size)
  clear hb1 hb2
  rcases hr with hr | ⟨hr3, hr1⟩
  · go_wp2_with fail
    go_ret
    exact ⟨rfl, B2⟩
  have hn' : l'.length ≤ 1048576 := by omega
  have hok' := hide (unhide HA').2.2.1
  clear hr1 hr2 hr0
  go_wp2_with fail
  refine (to_arg a cap l _ ((unhide HA).below B2) hn).mono ?_
  rintro e w3 ⟨rfl, ho3, hb3⟩
  have B3 : Below w.heap.size w w3 := B2.trans (hb3.mono B2.size)
  clear hb3
  go_wp2_with fail
  refine (to_arg a' cap' l' _ ((unhide HA').below B3) hn').mono ?_
  rintro e w4 ⟨rfl, ho4', hb4⟩
  have B4 : Below w.heap.size w w4 := B3.trans (hb4.mono B3.size)
  have ho4 := ho3.below hb4 ho3.lt
  clear hb4 ho3
  go_wp2_with fail
  refine (specCountSame_any l l' w2.heap.size 0 l.length w3.heap.size 0 l'.length _ ho4.row ho4.lt hn (Nat.le_refl _) (unhide hok) ho4'.row ho4'.lt hn' (Nat.le_refl _) (unhide hok')).mono ?_
  rintro e w5 ⟨rfl, hb5⟩
  have B5 : Below w.heap.size w w5 := B4.trans (hb5.mono B4.size)
  clear hb5 ho4 ho4' B2 B3 B4
  generalize hx : (countOut l l').1 = x
  generalize hy : (countOut l l').2 = y
  have HX := hide hx
  have HY := hide hy
  clear hx hy
  go_wp2_with fail
  have B5' : ∀ o, Below w.heap.size w (w5.alloc o) := fun o => B5.alloc B5.size o
  refine (to_arg a cap l _ ((unhide HA).below (B5' _)) hn).mono ?_
  rintro e w6 ⟨rfl, ho6, hb6⟩
  have hX : Own w6 w5.heap.size 42 [.int .i64 x, .int .i64 y] := Own.below ⟨_, heap_alloc_new _ _, rfl⟩ hb6 (by simp)
  have B6 : Below w.heap.size w w6 := (B5' _).trans (hb6.mono (by simp; have := B5.size; omega))
  clear B5' hb6
  simp only [World.size_alloc] at ho6 ⊢
  go_wp2_with fail
  refine (to_arg a' cap' l' _ ((unhide HA').below B6) hn').mono ?_
  rintro e w7 ⟨rfl, ho7', hb7⟩
  have B7 : Below w.heap.size w w7 := B6.trans (hb7.mono B6.size)
  have ho7 := ho6.below hb7 ho6.lt
  have hX7 := hX.below hb7 hX.lt
  clear hb7 ho6 hX
  go_wp2_with fail
  refine (implCountSame_any l l' (w5.heap.size + 1) 0 l.length w6.heap.size 0 l'.length _ ho7.row ho7.lt hn (Nat.le_refl _) (unhide hok) ho7'.row ho7'.lt hn' (Nat.le_refl _) (unhide hok')).mono ?_
  rintro e w8 ⟨rfl, hb8⟩
  rw [unhide HX, unhide HY]
  have B8 : Below w.heap.size w w8 := B7.trans (hb8.mono B7.size)
  have ho8 := ho7.below hb8 ho7.lt
  have ho8' := ho7'.below hb8 ho7'.lt
  have hX8 := hX7.below hb8 hX7.lt
  clear hb8 ho7 ho7' B5 B6 B7 hX7
  have x0 : ∀ o, (w8.alloc o).cell? ⟨w5.heap.size, 0, none⟩ = some (.int .i64 x) := fun o => (hX8.alloc o).cell 0
  have x1 : ∀ o, (w8.alloc o).cell? ⟨w5.heap.size, 1, none⟩ = some (.int .i64 y) := fun o => (hX8.alloc o).cell 1
  go_wp2_with fail
  refine (eqIntResult_same x y _).mono ?_
  rintro e w9 ⟨rfl, hb9⟩
  have B9 : Below w.heap.size w w9 := (B8.alloc B8.size _).trans (hb9.mono (by simp; have := B8.size; omega))
  have ho9 : OwnRow w9 (w5.heap.size + 1) 67 l := by
    obtain ⟨xs, o1, o2⟩ := ho8
    exact OwnRow.below ⟨xs, o1.alloc _, o2⟩ hb9 (by have := o1.lt; simp; omega)
  have ho9' : OwnRow w9 w6.heap.size 67 l' := by
    obtain ⟨xs, o1, o2⟩ := ho8'
    exact OwnRow.below ⟨xs, o1.alloc _, o2⟩ hb9 (by have := o1.lt; simp; omega)
  clear hb9 ho8 ho8' B8 hX8 x0 x1
  go_wp2_with fail
  refine (to_arg a cap l _ ((unhide HA).below B9) hn).mono ?_
  rintro e w10 ⟨rfl, ho10, hb10⟩
  have B10 : Below w.heap.size w w10 := B9.trans (hb10.mono B9.size)
  have hp10 := ho9.below hb10 ho9.lt
  have hp10' := ho9'.below hb10 ho9'.lt
  clear hb10 ho9 ho9' B9
  go_wp2_with fail
  refine (eqCellS_same (w5.heap.size + 1) 0 l.length w9.heap.size 0 l.length l _ hp10.row hp10.lt ho10.row ho10.lt hn (Nat.le_refl _) (Nat.le_refl _)).mono ?_
  rintro e w11 ⟨rfl, hb11⟩
  have B11 : Below w.heap.size w w11 := B10.trans (hb11.mono B10.size)
  have hp11' := hp10'.below hb11 hp10'.lt
  clear hb11 hp10 hp10' ho10 B10
  go_wp2_with fail
  refine (to_arg a' cap' l' _ ((unhide HA').below B11) hn').mono ?_
  rintro e w12 ⟨rfl, ho12, hb12⟩
  have B12 : Below w.heap.size w w12 := B11.trans (hb12.mono B11.size)
  have hp12 := hp11'.below hb12 hp11'.lt
  clear hb12 hp11' B11
  go_wp2_with fail
  refine (eqCellS_same w6.heap.size 0 l'.length w11.heap.size 0 l'.length l' _ hp12.row hp12.lt ho12.row ho12.lt hn' (Nat.le_refl _) (Nat.le_refl _)).mono ?_
  rintro e w13 ⟨rfl, hb13⟩
  have B13 : Below w.heap.size w w13 := B12.trans (hb13.mono B12.size)
  clear hb13 hp12 ho12 B12
  go_wp2_with fail
  go_ret
  exact ⟨rfl, B13⟩

namespace lawCountSame
theorem own : ownKnob Try.prog.godebug = none := by kernel_rfl
theorem laidOut : laidOutB Try.prog = true := by kernel_rfl

set_option maxRecDepth 100000 in
theorem lifted (os : Os) (started : os.Started) (H : Type) (enc : TypeId × Value → H) :
    ReturnsInHanded {} Try.checked os 6 .any (Rows.fnExactCountSameSpec.pre6 enc Try.prog Try.f6 Rows.fnExactCountSameRow.domain false) (Rows.fnExactCountSameSpec.post enc Try.prog Try.f6 false true false false) := by
  refine returnsInHanded_of_change (C := Try.checked) own started (by kernel_rfl) Try.func6
    (ChangeSpec.witness6 (enc := enc) (C := Try.checked) false ⟨#[], #[.slice none 0 0, .slice none 0 0], []⟩ 8 (by kernel_rfl) (by kernel_rfl) (by kernel_rfl) (by kernel_rfl)) ?_
  intro W base args ds gs before hval0 hW hcnd _
  have hval : ∀ (j : Nat) t v, Try.f6.params[j]? = some t → args[j]? = some v → Value.okWide Try.prog W .any base t v := hval0
  have hW' := hW
  obtain ⟨p, q, hA0, hV, rfl, hfz, hnd⟩ := hW
  have hA : DataW.TrodAll enc Try.prog W 0 (fun _ => true) true Try.f6.params.toList args.toList ds p := hA0
  rw [Try.params6] at hA hval
  obtain ⟨v0, vs0, d0, ds0, p0, q0, hargs, rfl, rfl, h0, r0⟩ := trodAll_cons hA
  obtain ⟨v1, vs1, d1, ds1, p1, q1, rfl, rfl, rfl, h1, r1⟩ := trodAll_cons r0
  obtain ⟨rfl, rfl, rfl⟩ := trodAll_nil r1
  obtain rfl : args = #[v0, v1] := by cases args; simp_all
  obtain ⟨rfl, rfl⟩ := trodVars_none hV
  obtain ⟨a0, len0, cap0, rfl⟩ := okWide_slice Try.underlying22 (hval 0 22 v0 rfl rfl)
  have k0 := h0
  have lt0 : ∀ x ∈ p0, x.block < W.heap.size := by obtain ⟨m, hm⟩ := k0; exact DataW.trod_lt m _ _ _ hm
  obtain ⟨l0, hl0, w0⟩ : ∃ l : List M.Cl, l.length = len0 ∧ Cells W a0 cap0 l := by
    obtain ⟨fuel, hf⟩ := h0
    exact open_cells hf lt0
  subst hl0
  obtain ⟨a1, len1, cap1, rfl⟩ := okWide_slice Try.underlying22 (hval 1 22 v1 rfl rfl)
  have k1 := h1
  have lt1 : ∀ x ∈ p1, x.block < W.heap.size := by obtain ⟨m, hm⟩ := k1; exact DataW.trod_lt m _ _ _ hm
  obtain ⟨l1, hl1, w1⟩ : ∃ l : List M.Cl, l.length = len1 ∧ Cells W a1 cap1 l := by
    obtain ⟨fuel, hf⟩ := h1
    exact open_cells hf lt1
  subst hl1
  clear hA0 hval0
  refine (lawCountSame_walk a0 cap0 l0 a1 cap1 l1 W w0 w1).mono fun e W' ⟨he, bel⟩ => ?_
  subst he
  exact ⟨_, rfl, _, _, _, [], _, [], hW', trodAll_mk1 (shut_bool Try.underlying4 _), (trodAll_cons_mk (Below.trod laidOut (by kernel_rfl) (of_decide_eq_true (by kernel_rfl)) k0 bel lt0) (trodAll_cons_mk (Below.trod laidOut (by kernel_rfl) (of_decide_eq_true (by kernel_rfl)) k1 bel lt1) trodAll_mk0)), rfl, bel.frame _, fun h => by cases h⟩

theorem over : Rows.fnExactCountSameRow.holds Try.pinned (OpenSpec.ofChange Rows.fnExactCountSameSpec) :=
  OpenClaim.holds_of_wide 6 Try.f6 rfl rfl rfl rfl rfl rfl rfl ⟨rfl, rfl, rfl, rfl, rfl⟩ rfl rfl rfl rfl rfl (by kernel_rfl) Try.func6 (by kernel_rfl)
    (of_decide_eq_true (by kernel_rfl)) (by unfold Func.isWrapper; first | (rw [if_pos (by decide +kernel)]; kernel_rfl) | (rw [if_neg (by decide +kernel)]; exact ⟨rfl, rfl⟩))
    (fun os started H enc _ => lifted os started H enc)
end lawCountSame

/-- The statement. -/
theorem lawCountSame_holds : Rows.FnExactCountSameSaid := lawCountSame.over
#print axioms lawCountSame_holds
end Go.Proofs.Ythaabakpcokomaa
