/-
  Proved: at every argument impl.Truthy answers as spec.Truthy and writes nothing into its argument (laws.FnExactTruthy returns true). No condition.
-/
import Derived.Test.YthkofafbnbjbbagArg
import Derived.Test.YthkofafbnbjbbagFaultI
import Derived.Test.YthkofafbnbjbbagEnds
import Derived.ShutString
import Derived.ChangeOld
namespace Go.Proofs.Ythkofafbnbjbbag
open Go.ChangeShapes Go.WideShapes Go.ChangeAt Go.RowKit
set_option linter.unusedVariables false

def truthy (v : List M.Cl) : Bool := decide (M.valueFault v = 0) && decide (1 < (v.getD 0 M.zero).kind)

theorem truthy_bad {v : List M.Cl} (h : M.valueFault v ≠ 0) : truthy v = false := by simp [truthy, h]
theorem truthy_ok {v : List M.Cl} (h : M.valueFault v = 0) : truthy v = decide (1 < (v.getD 0 M.zero).kind) := by simp only [truthy, h]; simp

theorem kind_ge {v : List M.Cl} (h : M.valueFault v = 0) : 0 ≤ (v.getD 0 M.zero).kind := by
  obtain ⟨h1, _, h2, _⟩ := M.fault_zero h
  have := M.first_zero h2 _ (getD_mem v 0 (by omega))
  unfold M.cellCode at this
  split at this
  · cases this
  · omega

set_option maxHeartbeats 1000000 in
theorem specTruthy_any (v : List M.Cl) (b off cap : Nat) (w : World) (hrow : Row w b off v) (hb : b < w.heap.size) (hn : v.length ≤ 1048576) (hcap : v.length ≤ cap) (hok : ∀ c ∈ v, c.ok) :
    Calls Try.prog 23 #[.slice (some ⟨b, off, none⟩) v.length cap] w fun e w' => e = .returned (.bool (truthy v)) ∧ Below w.heap.size w w' := by
  have OK := hide hok
  clear hok
  go_enter Try.func23, Try.ntmps23
  go_wp2_with fail
  refine (specFault_any v b off cap _ hrow hb hn hcap (unhide OK)).mono ?_
  rintro e1 w1 ⟨rfl, hb1⟩
  have hr := hrow.below hb1 hb
  generalize hq : M.valueFault v = q
  by_cases hz : q = 0
  · subst hz
    have fin := hide (truthy_ok hq)
    have hl := (M.fault_zero hq).1
    clear hq
    have g := hr 0 (by omega)
    have g0 := g.1
    simp only [Nat.zero_mul, Nat.add_zero] at g0
    clear g
    generalize v.getD 0 M.zero = c at *
    go_wp2_with go_in
    go_ret
    exact ⟨ret_bool (unhide fin).symm, hb1⟩
  · have fin := hide (truthy_bad (by rw [hq]; exact hz))
    have hz' : (q == 0) = false := by simp [hz]
    clear hq
    go_wp2_with go_in
    go_ret
    exact ⟨ret_bool (unhide fin).symm, hb1⟩

set_option maxHeartbeats 1000000 in
theorem implTruthy_any (v : List M.Cl) (b off cap : Nat) (w : World) (hrow : Row w b off v) (hb : b < w.heap.size) (hn : v.length ≤ 1048576) (hcap : v.length ≤ cap) (hok : ∀ c ∈ v, c.ok) :
    Calls Try.prog 25 #[.slice (some ⟨b, off, none⟩) v.length cap] w fun e w' => e = .returned (.bool (truthy v)) ∧ Below w.heap.size w w' := by
  have OK := hide hok
  clear hok
  go_enter Try.func25, Try.ntmps25
  go_wp2_with fail
  refine (implFault_any v b off cap _ hrow hb hn hcap (unhide OK)).mono ?_
  rintro e1 w1 ⟨rfl, hb1⟩
  have hr := hrow.below hb1 hb
  generalize hq : M.valueFault v = q
  by_cases hz : q = 0
  · subst hz
    have fin := hide (truthy_ok hq)
    have hl := (M.fault_zero hq).1
    have hk := kind_ge hq
    clear hq
    have g := hr 0 (by omega)
    have g0 := g.1
    simp only [Nat.zero_mul, Nat.add_zero] at g0
    clear g
    generalize v.getD 0 M.zero = c at *
    by_cases k0 : c.kind = 0
    · rw [k0] at g0
      have K0 := hide k0
      clear k0 hk
      go_wp2_with fail
      go_ret
      refine ⟨ret_bool ?_, hb1⟩
      rw [unhide fin, unhide K0]; rfl
    · by_cases k1 : c.kind = 1
      · rw [k1] at g0
        have K1 := hide k1
        clear k1 k0 hk
        go_wp2_with fail
        go_ret
        refine ⟨ret_bool ?_, hb1⟩
        rw [unhide fin, unhide K1]; rfl
      · have e0 : (c.kind == 0) = false := by simp [k0]
        have e1 : (c.kind == 1) = false := by simp [k1]
        have e2 : decide (1 < c.kind) = true := decide_eq_true (by omega)
        go_wp2_with fail
        go_ret
        refine ⟨ret_bool ?_, hb1⟩
        rw [unhide fin, e2]
        simp [bne, e0, e1]
  · have fin := hide (truthy_bad (by rw [hq]; exact hz))
    have hz' : (q == 0) = false := by simp [hz]
    clear hq
    go_wp2_with fail
    go_ret
    exact ⟨ret_bool (unhide fin).symm, hb1⟩

set_option maxHeartbeats 1000000 in
theorem lawTruthy_walk (a : Option Addr) (cap : Nat) (l : List M.Cl) (w : World) (hA : Cells w a cap l) :
    Calls Try.prog 5 #[.slice a l.length cap] w fun e w' => e = .returned (.bool true) ∧ Below w.heap.size w w' := by
  have HA := hide hA
  clear hA
  go_enter Try.func5, Try.ntmps5
  go_wp2_with fail
  refine (sz_arg a cap l _ _ (unhide HA) (by decide) (by decide)).mono ?_
  rintro e w1 ⟨r, rfl, hr, hb1⟩
  rcases hr with hr | ⟨hr0, hr1⟩
  · go_wp2_with fail
    go_ret
    exact ⟨rfl, hb1⟩
  have hn : l.length ≤ 1048576 := by omega
  have hok := hide (unhide HA).2.2.1
  have A1 := hide ((unhide HA).below hb1)
  clear hr1
  go_wp2_with fail
  refine (to_arg a cap l _ (unhide A1) hn).mono ?_
  rintro e w2 ⟨rfl, ho2, hb2⟩
  have B2 : Below w.heap.size w w2 := hb1.trans (hb2.mono hb1.size)
  go_wp2_with fail
  refine (specTruthy_any l w1.heap.size 0 l.length _ ho2.row ho2.lt hn (Nat.le_refl _) (unhide hok)).mono ?_
  rintro e w3 ⟨rfl, hb3⟩
  have B3 : Below w.heap.size w w3 := B2.trans (hb3.mono B2.size)
  have A3 := hide ((unhide HA).below B3)
  clear hb1 hb2 hb3 ho2 A1 B2
  go_wp2_with fail
  refine (to_arg a cap l _ (unhide A3) hn).mono ?_
  rintro e w4 ⟨rfl, ho4, hb4⟩
  have B4 : Below w.heap.size w w4 := B3.trans (hb4.mono B3.size)
  go_wp2_with fail
  refine (implTruthy_any l w3.heap.size 0 l.length _ ho4.row ho4.lt hn (Nat.le_refl _) (unhide hok)).mono ?_
  rintro e w5 ⟨rfl, hb5⟩
  have B5 : Below w.heap.size w w5 := B4.trans (hb5.mono B4.size)
  have A5 := hide ((unhide HA).below B5)
  have ho5 := ho4.below hb5 ho4.lt
  clear hb4 hb5 ho4 A3 B3 B4
  generalize truthy l = q
  have hqq : (q != q) = false := by simp
  go_wp2_with fail
  refine (to_arg a cap l _ (unhide A5) hn).mono ?_
  rintro e w6 ⟨rfl, ho6, hb6⟩
  have B6 : Below w.heap.size w w6 := B5.trans (hb6.mono B5.size)
  have ho6' := ho5.below hb6 ho5.lt
  go_wp2_with fail
  refine (eqCellS_same w3.heap.size 0 l.length w5.heap.size 0 l.length l _ ho6'.row ho6'.lt ho6.row ho6.lt hn (Nat.le_refl _) (Nat.le_refl _)).mono ?_
  rintro e w7 ⟨rfl, hb7⟩
  have B7 : Below w.heap.size w w7 := B6.trans (hb7.mono B6.size)
  clear hb6 hb7 ho5 ho6 ho6' B5 B6
  go_wp2_with fail
  go_ret
  exact ⟨rfl, B7⟩

namespace lawTruthy
theorem own : ownKnob Try.prog.godebug = none := by kernel_rfl
theorem laidOut : laidOutB Try.prog = true := by kernel_rfl

set_option maxRecDepth 100000 in
theorem lifted (os : Os) (started : os.Started) (H : Type) (enc : TypeId × Value → H) :
    ReturnsInHanded {} Try.checked os 5 .any (Rows.fnExactTruthySpec.pre6 enc Try.prog Try.f5 Rows.fnExactTruthyRow.domain false) (Rows.fnExactTruthySpec.post enc Try.prog Try.f5 false true false false) := by
  refine returnsInHanded_of_change (C := Try.checked) own started (by kernel_rfl) Try.func5
    (ChangeSpec.witness6 (enc := enc) (C := Try.checked) false ⟨#[], #[.slice none 0 0], []⟩ 8 (by kernel_rfl) (by kernel_rfl) (by kernel_rfl) (by kernel_rfl)) ?_
  intro W base args ds gs before hval0 hW hcnd _
  have hval : ∀ (j : Nat) t v, Try.f5.params[j]? = some t → args[j]? = some v → Value.okWide Try.prog W .any base t v := hval0
  have hW' := hW
  obtain ⟨p, q, hA0, hV, rfl, hfz, hnd⟩ := hW
  have hA : DataW.TrodAll enc Try.prog W 0 (fun _ => true) true Try.f5.params.toList args.toList ds p := hA0
  rw [Try.params5] at hA hval
  obtain ⟨v0, vs0, d0, ds0, p0, q0, hargs, rfl, rfl, h0, r0⟩ := trodAll_cons hA
  obtain ⟨rfl, rfl, rfl⟩ := trodAll_nil r0
  obtain rfl : args = #[v0] := by cases args; simp_all
  obtain ⟨rfl, rfl⟩ := trodVars_none hV
  obtain ⟨a0, len0, cap0, rfl⟩ := okWide_slice Try.underlying41 (hval 0 41 v0 rfl rfl)
  have k0 := h0
  have lt0 : ∀ x ∈ p0, x.block < W.heap.size := by obtain ⟨m, hm⟩ := k0; exact DataW.trod_lt m _ _ _ hm
  obtain ⟨l0, hl0, w0⟩ : ∃ l : List M.Cl, l.length = len0 ∧ Cells W a0 cap0 l := by
    obtain ⟨fuel, hf⟩ := h0
    exact open_cells hf lt0
  subst hl0
  clear hA0 hval0
  refine (lawTruthy_walk a0 cap0 l0 W w0).mono fun e W' ⟨he, bel⟩ => ?_
  subst he
  exact ⟨_, rfl, _, _, _, [], _, [], hW', trodAll_mk1 (shut_bool Try.underlying4 _), (trodAll_cons_mk (Below.trod laidOut (by kernel_rfl) (of_decide_eq_true (by kernel_rfl)) k0 bel lt0) trodAll_mk0), rfl, bel.frame _, fun h => by cases h⟩

theorem over : Rows.fnExactTruthyRow.holds Try.pinned (OpenSpec.ofChange Rows.fnExactTruthySpec) :=
  OpenClaim.holds_of_wide 5 Try.f5 rfl rfl rfl rfl rfl rfl rfl ⟨rfl, rfl, rfl, rfl, rfl⟩ rfl rfl rfl rfl rfl (by kernel_rfl) Try.func5 (by kernel_rfl)
    (of_decide_eq_true (by kernel_rfl)) (by unfold Func.isWrapper; first | (rw [if_pos (by decide +kernel)]; kernel_rfl) | (rw [if_neg (by decide +kernel)]; exact ⟨rfl, rfl⟩))
    (fun os started H enc _ => lifted os started H enc)
end lawTruthy

/-- The statement. -/
theorem lawTruthy_holds : Rows.FnExactTruthySaid := lawTruthy.over
#print axioms lawTruthy_holds
end Go.Proofs.Ythkofafbnbjbbag
