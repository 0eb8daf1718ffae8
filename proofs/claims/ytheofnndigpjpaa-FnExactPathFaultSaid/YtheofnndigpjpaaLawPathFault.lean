/-
  Proved: at every argument impl.PathFault answers as spec.PathFault and writes nothing into its argument (laws.FnExactPathFault returns true). No condition.
-/
import Derived.Test.YtheofnndigpjpaaArg
import Derived.Test.YtheofnndigpjpaaPthF
import Derived.ShutString
import Derived.ChangeOld
namespace Go.Proofs.Ytheofnndigpjpaa
open Go.ChangeShapes Go.WideShapes Go.ChangeAt Go.RowKit
set_option linter.unusedVariables false

set_option maxHeartbeats 1000000 in
theorem lawPathFault_walk (a : Option Addr) (cap : Nat) (l : List M.Cl) (w : World) (hA : Cells w a cap l) :
    Calls Try.prog 3 #[.slice a l.length cap] w fun e w' => e = .returned (.bool true) ∧ Below w.heap.size w w' := by
  have HA := hide hA
  clear hA
  go_enter Try.func3, Try.ntmps3
  go_wp2_with fail
  refine (sz_arg a cap l _ _ (unhide HA) (by decide) (by decide)).mono ?_
  rintro e w1 ⟨r, rfl, hr, hb1⟩
  rcases hr with hr | ⟨hr0, hr1⟩
  · go_wp2_with fail
    go_ret
    exact ⟨rfl, hb1⟩
  have hn : l.length ≤ 1048576 := by omega
  have hok := hide (unhide HA).2.2.1
  have A1 := hide ((unhide HA).below hb1)
  clear hr1
  go_wp2_with fail
  refine (to_arg a cap l _ (unhide A1) hn).mono ?_
  rintro e w2 ⟨rfl, ho2, hb2⟩
  have B2 : Below w.heap.size w w2 := hb1.trans (hb2.mono hb1.size)
  go_wp2_with fail
  refine (specPathFault_any l w1.heap.size 0 l.length _ ho2.row ho2.lt hn (Nat.le_refl _) (unhide hok)).mono ?_
  rintro e w3 ⟨rfl, hb3⟩
  have B3 : Below w.heap.size w w3 := B2.trans (hb3.mono B2.size)
  have A3 := hide ((unhide HA).below B3)
  clear hb1 hb2 hb3 ho2 A1 B2
  go_wp2_with fail
  refine (to_arg a cap l _ (unhide A3) hn).mono ?_
  rintro e w4 ⟨rfl, ho4, hb4⟩
  have B4 : Below w.heap.size w w4 := B3.trans (hb4.mono B3.size)
  go_wp2_with fail
  refine (implPathFault_any l w3.heap.size 0 l.length _ ho4.row ho4.lt hn (Nat.le_refl _) (by omega) (unhide hok)).mono ?_
  rintro e w5 ⟨rfl, hb5⟩
  have B5 : Below w.heap.size w w5 := B4.trans (hb5.mono B4.size)
  have A5 := hide ((unhide HA).below B5)
  have ho5 := ho4.below hb5 ho4.lt
  clear hb4 hb5 ho4 A3 B3 B4
  generalize Pth.fault l = q
  go_wp2_with fail
  refine (to_arg a cap l _ (unhide A5) hn).mono ?_
  rintro e w6 ⟨rfl, ho6, hb6⟩
  have B6 : Below w.heap.size w w6 := B5.trans (hb6.mono B5.size)
  have ho6' := ho5.below hb6 ho5.lt
  go_wp2_with fail
  refine (eqCellS_same w3.heap.size 0 l.length w5.heap.size 0 l.length l _ ho6'.row ho6'.lt ho6.row ho6.lt hn (Nat.le_refl _) (Nat.le_refl _)).mono ?_
  rintro e w7 ⟨rfl, hb7⟩
  have B7 : Below w.heap.size w w7 := B6.trans (hb7.mono B6.size)
  clear hb6 hb7 ho5 ho6 ho6' B5 B6
  go_wp2_with fail
  go_ret
  exact ⟨rfl, B7⟩

namespace lawPathFault
theorem own : ownKnob Try.prog.godebug = none := by kernel_rfl
theorem laidOut : laidOutB Try.prog = true := by kernel_rfl

set_option maxRecDepth 100000 in
theorem lifted (os : Os) (started : os.Started) (H : Type) (enc : TypeId × Value → H) :
    ReturnsInHanded {} Try.checked os 3 .any (Rows.fnExactPathFaultSpec.pre6 enc Try.prog Try.f3 Rows.fnExactPathFaultRow.domain false) (Rows.fnExactPathFaultSpec.post enc Try.prog Try.f3 false true false false) := by
  refine returnsInHanded_of_change (C := Try.checked) own started (by kernel_rfl) Try.func3
    (ChangeSpec.witness6 (enc := enc) (C := Try.checked) false ⟨#[], #[.slice none 0 0], []⟩ 8 (by kernel_rfl) (by kernel_rfl) (by kernel_rfl) (by kernel_rfl)) ?_
  intro W base args ds gs before hval0 hW hcnd _
  have hval : ∀ (j : Nat) t v, Try.f3.params[j]? = some t → args[j]? = some v → Value.okWide Try.prog W .any base t v := hval0
  have hW' := hW
  obtain ⟨p, q, hA0, hV, rfl, hfz, hnd⟩ := hW
  have hA : DataW.TrodAll enc Try.prog W 0 (fun _ => true) true Try.f3.params.toList args.toList ds p := hA0
  rw [Try.params3] at hA hval
  obtain ⟨v0, vs0, d0, ds0, p0, q0, hargs, rfl, rfl, h0, r0⟩ := trodAll_cons hA
  obtain ⟨rfl, rfl, rfl⟩ := trodAll_nil r0
  obtain rfl : args = #[v0] := by cases args; simp_all
  obtain ⟨rfl, rfl⟩ := trodVars_none hV
  obtain ⟨a0, len0, cap0, rfl⟩ := okWide_slice Try.underlying22 (hval 0 22 v0 rfl rfl)
  have k0 := h0
  have lt0 : ∀ x ∈ p0, x.block < W.heap.size := by obtain ⟨m, hm⟩ := k0; exact DataW.trod_lt m _ _ _ hm
  obtain ⟨l0, hl0, w0⟩ : ∃ l : List M.Cl, l.length = len0 ∧ Cells W a0 cap0 l := by
    obtain ⟨fuel, hf⟩ := h0
    exact open_cells hf lt0
  subst hl0
  clear hA0 hval0
  refine (lawPathFault_walk a0 cap0 l0 W w0).mono fun e W' ⟨he, bel⟩ => ?_
  subst he
  exact ⟨_, rfl, _, _, _, [], _, [], hW', trodAll_mk1 (shut_bool Try.underlying4 _), (trodAll_cons_mk (Below.trod laidOut (by kernel_rfl) (of_decide_eq_true (by kernel_rfl)) k0 bel lt0) trodAll_mk0), rfl, bel.frame _, fun h => by cases h⟩

theorem over : Rows.fnExactPathFaultRow.holds Try.pinned (OpenSpec.ofChange Rows.fnExactPathFaultSpec) :=
  OpenClaim.holds_of_wide 3 Try.f3 rfl rfl rfl rfl rfl rfl rfl ⟨rfl, rfl, rfl, rfl, rfl⟩ rfl rfl rfl rfl rfl (by kernel_rfl) Try.func3 (by kernel_rfl)
    (of_decide_eq_true (by kernel_rfl)) (by unfold Func.isWrapper; first | (rw [if_pos (by decide +kernel)]; kernel_rfl) | (rw [if_neg (by decide +kernel)]; exact ⟨rfl, rfl⟩))
    (fun os started H enc _ => lifted os started H enc)
end lawPathFault

/-- The statement. -/
theorem lawPathFault_holds : Rows.FnExactPathFaultSaid := lawPathFault.over
#print axioms lawPathFault_holds
end Go.Proofs.Ytheofnndigpjpaa
