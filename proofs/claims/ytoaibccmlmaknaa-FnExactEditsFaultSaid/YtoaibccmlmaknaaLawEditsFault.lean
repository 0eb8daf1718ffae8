/-
  Proved: at every argument impl.EditsFault answers as spec.EditsFault and writes nothing into its argument (laws.FnExactEditsFault returns true). No condition.
-/
import Derived.Test.YtoaibccmlmaknaaArg
import Derived.Test.YtoaibccmlmaknaaEdF
import Derived.ShutString
import Derived.ChangeOld
namespace Go.Proofs.Ytoaibccmlmaknaa
open Go.ChangeShapes Go.WideShapes Go.ChangeAt Go.RowKit
set_option linter.unusedVariables false

set_option maxHeartbeats 1000000 in
theorem lawEditsFault_walk (a : Option Addr) (cap : Nat) (l : List Ed) (w : World) (hA : Ed.Arg w a cap l) :
    Calls Try.prog 6 #[.slice a l.length cap] w fun e w' => e = .returned (.bool true) ∧ Below w.heap.size w w' := by
  have HA := hide hA
  clear hA
  go_enter Try.func6, Try.ntmps6
  go_wp2_with fail
  refine (Ed.sz_arg a cap l _ _ (unhide HA) (by decide) (by decide)).mono ?_
  rintro e w1 ⟨r, rfl, hr, hb1⟩
  rcases hr with hr | ⟨hr0, hn, hv⟩
  · go_wp2_with fail
    go_ret
    exact ⟨rfl, hb1⟩
  have hok := hide (unhide HA).2.2.1
  have HV := hide hv
  have A1 := hide ((unhide HA).below hb1)
  clear hv
  go_wp2_with fail
  refine (Ed.to_arg a cap l _ (unhide A1) hn (unhide HV)).mono ?_
  rintro e w2 ⟨rfl, ho2, hlt2, hb2⟩
  have B2 : Below w.heap.size w w2 := hb1.trans (hb2.mono hb1.size)
  have S2 := hide (Ed.specEdits_any _ _ l w2 (Ed.Row.arg ho2 hlt2 hn (unhide hok) (unhide HV)) hn (unhide HV))
  clear ho2 hlt2
  go_wp2_with fail
  refine (unhide S2).mono ?_
  rintro e w3 ⟨rfl, hb3⟩
  have B3 : Below w.heap.size w w3 := B2.trans (hb3.mono B2.size)
  have A3 := hide ((unhide HA).below B3)
  clear hb1 hb2 hb3 S2 A1 B2
  generalize hq : Ed.faults l = q
  have HQ := hide hq
  clear hq
  go_wp2_with fail
  refine (Ed.to_arg a cap l _ (unhide A3) hn (unhide HV)).mono ?_
  rintro e w4 ⟨rfl, ho4, hlt4, hb4⟩
  have B4 : Below w.heap.size w w4 := B3.trans (hb4.mono B3.size)
  have S4 := hide (Ed.implEdits_any _ _ l w4 (Ed.Row.arg ho4 hlt4 hn (unhide hok) (unhide HV)) hn (unhide HV))
  rw [unhide HQ] at S4
  clear HQ
  go_wp2_with fail
  refine (unhide S4).mono ?_
  rintro e w5 ⟨rfl, hb5⟩
  have B5 : Below w.heap.size w w5 := B4.trans (hb5.mono B4.size)
  have A5 := hide ((unhide HA).below B5)
  have ho5 := ho4.below hb5 hlt4
  have hlt5 : w3.heap.size < w5.heap.size := Nat.lt_of_lt_of_le hlt4 hb5.size
  clear hb4 hb5 ho4 hlt4 A3 B3 B4 S4
  go_wp2_with fail
  refine (Ed.to_arg a cap l _ (unhide A5) hn (unhide HV)).mono ?_
  rintro e w6 ⟨rfl, ho6, hlt6, hb6⟩
  have B6 : Below w.heap.size w w6 := B5.trans (hb6.mono B5.size)
  have S6 := hide (Ed.eqS_same w3.heap.size w5.heap.size l w6 (ho5.below hb6 hlt5) (Nat.lt_of_lt_of_le hlt5 hb6.size) ho6 hlt6 hn (unhide HV))
  clear ho5 ho6 hlt5 hlt6 hb6 B5
  go_wp2_with fail
  refine (unhide S6).mono ?_
  rintro e w7 ⟨rfl, hb7⟩
  have B7 : Below w.heap.size w w7 := B6.trans (hb7.mono B6.size)
  clear hb7 B6 S6
  go_wp2_with fail
  go_ret
  exact ⟨rfl, B7⟩

namespace lawEditsFault
theorem own : ownKnob Try.prog.godebug = none := by kernel_rfl
theorem laidOut : laidOutB Try.prog = true := by kernel_rfl

set_option maxRecDepth 100000 in
theorem lifted (os : Os) (started : os.Started) (H : Type) (enc : TypeId × Value → H) :
    ReturnsInHanded {} Try.checked os 6 .any (Rows.fnExactEditsFaultSpec.pre6 enc Try.prog Try.f6 Rows.fnExactEditsFaultRow.domain false) (Rows.fnExactEditsFaultSpec.post enc Try.prog Try.f6 false true false false) := by
  refine returnsInHanded_of_change (C := Try.checked) own started (by kernel_rfl) Try.func6
    (ChangeSpec.witness6 (enc := enc) (C := Try.checked) false ⟨#[], #[.slice none 0 0], []⟩ 8 (by kernel_rfl) (by kernel_rfl) (by kernel_rfl) (by kernel_rfl)) ?_
  intro W base args ds gs before hval0 hW hcnd _
  have hval : ∀ (j : Nat) t v, Try.f6.params[j]? = some t → args[j]? = some v → Value.okWide Try.prog W .any base t v := hval0
  have hW' := hW
  obtain ⟨p, q, hA0, hV, rfl, hfz, hnd⟩ := hW
  have hA : DataW.TrodAll enc Try.prog W 0 (fun _ => true) true Try.f6.params.toList args.toList ds p := hA0
  rw [Try.params6] at hA hval
  obtain ⟨v0, vs0, d0, ds0, p0, q0, hargs, rfl, rfl, h0, r0⟩ := trodAll_cons hA
  obtain ⟨rfl, rfl, rfl⟩ := trodAll_nil r0
  obtain rfl : args = #[v0] := by cases args; simp_all
  obtain ⟨rfl, rfl⟩ := trodVars_none hV
  obtain ⟨a0, len0, cap0, rfl⟩ := okWide_slice Try.underlying41 (hval 0 41 v0 rfl rfl)
  have k0 := h0
  have lt0 : ∀ x ∈ p0, x.block < W.heap.size := by obtain ⟨m, hm⟩ := k0; exact DataW.trod_lt m _ _ _ hm
  obtain ⟨l0, hl0, w0⟩ : ∃ l : List Ed, l.length = len0 ∧ Ed.Arg W a0 cap0 l := by
    obtain ⟨fuel, hf⟩ := h0
    exact Ed.open_arg hf
  subst hl0
  clear hA0 hval0
  refine (lawEditsFault_walk a0 cap0 l0 W w0).mono fun e W' ⟨he, bel⟩ => ?_
  subst he
  exact ⟨_, rfl, _, _, _, [], _, [], hW', trodAll_mk1 (shut_bool Try.underlying4 _), (trodAll_cons_mk (Below.trod laidOut (by kernel_rfl) (of_decide_eq_true (by kernel_rfl)) k0 bel lt0) trodAll_mk0), rfl, bel.frame _, fun h => by cases h⟩

theorem over : Rows.fnExactEditsFaultRow.holds Try.pinned (OpenSpec.ofChange Rows.fnExactEditsFaultSpec) :=
  OpenClaim.holds_of_wide 6 Try.f6 rfl rfl rfl rfl rfl rfl rfl ⟨rfl, rfl, rfl, rfl, rfl⟩ rfl rfl rfl rfl rfl (by kernel_rfl) Try.func6 (by kernel_rfl)
    (of_decide_eq_true (by kernel_rfl)) (by unfold Func.isWrapper; first | (rw [if_pos (by decide +kernel)]; kernel_rfl) | (rw [if_neg (by decide +kernel)]; exact ⟨rfl, rfl⟩))
    (fun os started H enc _ => lifted os started H enc)
end lawEditsFault

/-- The statement. -/
theorem lawEditsFault_holds : Rows.FnExactEditsFaultSaid := lawEditsFault.over
#print axioms lawEditsFault_holds
end Go.Proofs.Ytoaibccmlmaknaa
