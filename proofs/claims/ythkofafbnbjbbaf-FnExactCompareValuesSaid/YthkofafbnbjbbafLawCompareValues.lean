/-
  Proved: at every two arguments impl.CompareValues answers as spec.CompareValues and writes nothing into them (laws.FnExactCompareValues returns true). No condition.
-/
import Derived.Test.YthkofafbnbjbbafCmpQ
import Derived.Test.YthkofafbnbjbbafArg
import Derived.ShutString
import Derived.ChangeOld
namespace Go.Proofs.Ythkofafbnbjbbaf
open Go.ChangeShapes Go.WideShapes Go.ChangeAt Go.RowKit
set_option linter.unusedVariables false

set_option maxHeartbeats 2000000 in
theorem lawCompareValues_walk (a : Option Addr) (cap : Nat) (l : List M.Cl) (a' : Option Addr) (cap' : Nat) (l' : List M.Cl) (w : World) (hA : Cells w a cap l) (hA' : Cells w a' cap' l') :
    Calls Try.prog 5 #[.slice a l.length cap, .slice a' l'.length cap'] w fun e w' => e = .returned (.bool true) ∧ Below w.heap.size w w' := by
  have HA := hide hA
  have HA' := hide hA'
  clear hA hA'
  go_enter Try.func5, Try.ntmps5
  go_wp2_with fail
  refine (sz_arg a cap l _ _ (unhide HA) (by decide) (by decide)).mono ?_
  rintro e w1 ⟨r, rfl, hr, hb1⟩
  rcases hr with hr | ⟨hr0, hr1⟩
  · go_wp2_with fail
    go_ret
    exact ⟨rfl, hb1⟩
  have hn : l.length ≤ 1048576 := by omega
  have hr2 : r ≤ 1048576 := by omega
  have hok := hide (unhide HA).2.2.1
  clear hr1
  go_wp2_with fail
  refine (sz_arg a' cap' l' _ _ ((unhide HA').below hb1) hr0 hr2).mono ?_
  rintro e w2 ⟨r', rfl, hr, hb2⟩
  have B2 : Below w.heap.size w w2 := hb1.trans (hb2.mono hb1.size)
  clear hb1 hb2
  rcases hr with hr | ⟨hr3, hr1⟩
  · go_wp2_with fail
    go_ret
    exact ⟨rfl, B2⟩
  have hn' : l'.length ≤ 1048576 := by omega
  have hok' := hide (unhide HA').2.2.1
  clear hr1 hr2 hr0
  go_wp2_with fail
  refine (to_arg a cap l _ ((unhide HA).below B2) hn).mono ?_
  rintro e w3 ⟨rfl, ho3, hb3⟩
  have B3 : Below w.heap.size w w3 := B2.trans (hb3.mono B2.size)
  clear hb3
  go_wp2_with fail
  refine (to_arg a' cap' l' _ ((unhide HA').below B3) hn').mono ?_
  rintro e w4 ⟨rfl, ho4', hb4⟩
  have B4 : Below w.heap.size w w4 := B3.trans (hb4.mono B3.size)
  have ho4 := ho3.below hb4 ho3.lt
  clear hb4 ho3
  go_wp2_with fail
  refine (specCompare_any l l' w2.heap.size 0 l.length w3.heap.size 0 l'.length _ ho4.row ho4.lt hn (Nat.le_refl _) (unhide hok) ho4'.row ho4'.lt hn' (Nat.le_refl _) (unhide hok')).mono ?_
  rintro e w5 ⟨rfl, hb5⟩
  have B5 : Below w.heap.size w w5 := B4.trans (hb5.mono B4.size)
  clear hb5 ho4 ho4' B2 B3 B4
  go_wp2_with fail
  refine (to_arg a cap l _ ((unhide HA).below B5) hn).mono ?_
  rintro e w6 ⟨rfl, ho6, hb6⟩
  have B6 : Below w.heap.size w w6 := B5.trans (hb6.mono B5.size)
  clear hb6
  go_wp2_with fail
  refine (to_arg a' cap' l' _ ((unhide HA').below B6) hn').mono ?_
  rintro e w7 ⟨rfl, ho7', hb7⟩
  have B7 : Below w.heap.size w w7 := B6.trans (hb7.mono B6.size)
  have ho7 := ho6.below hb7 ho6.lt
  clear hb7 ho6
  go_wp2_with fail
  refine (implCompare_any l l' w5.heap.size 0 l.length w6.heap.size 0 l'.length _ ho7.row ho7.lt hn (Nat.le_refl _) (unhide hok) ho7'.row ho7'.lt hn' (Nat.le_refl _) (unhide hok')).mono ?_
  rintro e w8 ⟨rfl, hb8⟩
  have B8 : Below w.heap.size w w8 := B7.trans (hb8.mono B7.size)
  have ho8 := ho7.below hb8 ho7.lt
  have ho8' := ho7'.below hb8 ho7'.lt
  clear hb8 ho7 ho7' B5 B6 B7
  generalize cmpOut l l' = q
  go_wp2_with fail
  refine (to_arg a cap l _ ((unhide HA).below B8) hn).mono ?_
  rintro e w9 ⟨rfl, ho9, hb9⟩
  have B9 : Below w.heap.size w w9 := B8.trans (hb9.mono B8.size)
  have hp9 := ho8.below hb9 ho8.lt
  have hp9' := ho8'.below hb9 ho8'.lt
  clear hb9 ho8 ho8'
  go_wp2_with fail
  refine (eqCellS_same w5.heap.size 0 l.length w8.heap.size 0 l.length l _ hp9.row hp9.lt ho9.row ho9.lt hn (Nat.le_refl _) (Nat.le_refl _)).mono ?_
  rintro e w10 ⟨rfl, hb10⟩
  have B10 : Below w.heap.size w w10 := B9.trans (hb10.mono B9.size)
  have hp10' := hp9'.below hb10 hp9'.lt
  clear hb10 hp9 hp9' ho9
  go_wp2_with fail
  refine (to_arg a' cap' l' _ ((unhide HA').below B10) hn').mono ?_
  rintro e w11 ⟨rfl, ho11, hb11⟩
  have B11 : Below w.heap.size w w11 := B10.trans (hb11.mono B10.size)
  have hp11 := hp10'.below hb11 hp10'.lt
  clear hb11 hp10'
  go_wp2_with fail
  refine (eqCellS_same w6.heap.size 0 l'.length w10.heap.size 0 l'.length l' _ hp11.row hp11.lt ho11.row ho11.lt hn' (Nat.le_refl _) (Nat.le_refl _)).mono ?_
  rintro e w12 ⟨rfl, hb12⟩
  have B12 : Below w.heap.size w w12 := B11.trans (hb12.mono B11.size)
  clear hb12 hp11 ho11 B8 B9 B10 B11
  go_wp2_with fail
  go_ret
  exact ⟨rfl, B12⟩

namespace lawCompareValues
theorem own : ownKnob Try.prog.godebug = none := by kernel_rfl
theorem laidOut : laidOutB Try.prog = true := by kernel_rfl

set_option maxRecDepth 100000 in
theorem lifted (os : Os) (started : os.Started) (H : Type) (enc : TypeId × Value → H) :
    ReturnsInHanded {} Try.checked os 5 .any (Rows.fnExactCompareValuesSpec.pre6 enc Try.prog Try.f5 Rows.fnExactCompareValuesRow.domain false) (Rows.fnExactCompareValuesSpec.post enc Try.prog Try.f5 false true false false) := by
  refine returnsInHanded_of_change (C := Try.checked) own started (by kernel_rfl) Try.func5
    (ChangeSpec.witness6 (enc := enc) (C := Try.checked) false ⟨#[], #[.slice none 0 0, .slice none 0 0], []⟩ 8 (by kernel_rfl) (by kernel_rfl) (by kernel_rfl) (by kernel_rfl)) ?_
  intro W base args ds gs before hval0 hW hcnd _
  have hval : ∀ (j : Nat) t v, Try.f5.params[j]? = some t → args[j]? = some v → Value.okWide Try.prog W .any base t v := hval0
  have hW' := hW
  obtain ⟨p, q, hA0, hV, rfl, hfz, hnd⟩ := hW
  have hA : DataW.TrodAll enc Try.prog W 0 (fun _ => true) true Try.f5.params.toList args.toList ds p := hA0
  rw [Try.params5] at hA hval
  obtain ⟨v0, vs0, d0, ds0, p0, q0, hargs, rfl, rfl, h0, r0⟩ := trodAll_cons hA
  obtain ⟨v1, vs1, d1, ds1, p1, q1, rfl, rfl, rfl, h1, r1⟩ := trodAll_cons r0
  obtain ⟨rfl, rfl, rfl⟩ := trodAll_nil r1
  obtain rfl : args = #[v0, v1] := by cases args; simp_all
  obtain ⟨rfl, rfl⟩ := trodVars_none hV
  obtain ⟨a0, len0, cap0, rfl⟩ := okWide_slice Try.underlying22 (hval 0 22 v0 rfl rfl)
  have k0 := h0
  have lt0 : ∀ x ∈ p0, x.block < W.heap.size := by obtain ⟨m, hm⟩ := k0; exact DataW.trod_lt m _ _ _ hm
  obtain ⟨l0, hl0, w0⟩ : ∃ l : List M.Cl, l.length = len0 ∧ Cells W a0 cap0 l := by
    obtain ⟨fuel, hf⟩ := h0
    exact open_cells hf lt0
  subst hl0
  obtain ⟨a1, len1, cap1, rfl⟩ := okWide_slice Try.underlying22 (hval 1 22 v1 rfl rfl)
  have k1 := h1
  have lt1 : ∀ x ∈ p1, x.block < W.heap.size := by obtain ⟨m, hm⟩ := k1; exact DataW.trod_lt m _ _ _ hm
  obtain ⟨l1, hl1, w1⟩ : ∃ l : List M.Cl, l.length = len1 ∧ Cells W a1 cap1 l := by
    obtain ⟨fuel, hf⟩ := h1
    exact open_cells hf lt1
  subst hl1
  clear hA0 hval0
  refine (lawCompareValues_walk a0 cap0 l0 a1 cap1 l1 W w0 w1).mono fun e W' ⟨he, bel⟩ => ?_
  subst he
  exact ⟨_, rfl, _, _, _, [], _, [], hW', trodAll_mk1 (shut_bool Try.underlying4 _), (trodAll_cons_mk (Below.trod laidOut (by kernel_rfl) (of_decide_eq_true (by kernel_rfl)) k0 bel lt0) (trodAll_cons_mk (Below.trod laidOut (by kernel_rfl) (of_decide_eq_true (by kernel_rfl)) k1 bel lt1) trodAll_mk0)), rfl, bel.frame _, fun h => by cases h⟩

theorem over : Rows.fnExactCompareValuesRow.holds Try.pinned (OpenSpec.ofChange Rows.fnExactCompareValuesSpec) :=
  OpenClaim.holds_of_wide 5 Try.f5 rfl rfl rfl rfl rfl rfl rfl ⟨rfl, rfl, rfl, rfl, rfl⟩ rfl rfl rfl rfl rfl (by kernel_rfl) Try.func5 (by kernel_rfl)
    (of_decide_eq_true (by kernel_rfl)) (by unfold Func.isWrapper; first | (rw [if_pos (by decide +kernel)]; kernel_rfl) | (rw [if_neg (by decide +kernel)]; exact ⟨rfl, rfl⟩))
    (fun os started H enc _ => lifted os started H enc)
end lawCompareValues

/-- The statement. -/
theorem lawCompareValues_holds : Rows.FnExactCompareValuesSaid := lawCompareValues.over
#print axioms lawCompareValues_holds
end Go.Proofs.Ythkofafbnbjbbaf
