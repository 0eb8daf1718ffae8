/-
  Proved: at every argument impl.ScopeFault answers as spec.ScopeFault, every field, and writes nothing into its argument (laws.FnExactScopeFault returns true). No condition.
-/
import Derived.Test.YtcolohilnmikiaaScoT
import Derived.Test.YtcolohilnmikiaaNdL
import Derived.ProofKit
import Derived.OpenShut
import Derived.ShutString
import Derived.ChangeOld
namespace Go.Proofs.Ytcolohilnmikiaa
open Go.ChangeShapes Go.WideShapes Go.ChangeAt Go.RowKit
set_option linter.unusedVariables false
set_option linter.unusedSimpArgs false

set_option maxRecDepth 100000 in
set_option maxHeartbeats 2000000 in
theorem lawScopeFault_walk (a : Option Addr) (cap : Nat) (l : List Nd) (w : World) (hA : Nd.Arg w a cap l) :
    Calls Try.prog 4 #[.slice a l.length cap] w fun e w' => e = .returned (.bool true) ∧ Below w.heap.size w w' := by
  have HA := hide hA
  clear hA
  go_enter Try.func4, Try.ntmps4
  go_wp2_with fail
  refine (Nd.sz_arg a cap l _ _ (unhide HA) (by decide) (by decide)).mono ?_
  rintro e w1 ⟨r, rfl, hr, hb1⟩
  rcases hr with hr | ⟨hr0, hr1⟩
  · go_wp2_with fail
    go_ret
    exact ⟨rfl, hb1⟩
  have hn : l.length ≤ 1048576 := by omega
  have hsz := hide (show ∀ i, i < l.length → (l.getD i Nd.zero).text.size ≤ 1048576 from fun i hi => by have := Nd.szAll_ge l i hi; omega)
  have hok := hide (unhide HA).2.2.1
  have A1 := hide ((unhide HA).below hb1)
  clear hr1
  go_wp2_with fail
  refine (Nd.to_arg a cap l _ (unhide A1) hn).mono ?_
  rintro e w2 ⟨rfl, ho2, hb2⟩
  have B2 : Below w.heap.size w w2 := hb1.trans (hb2.mono hb1.size)
  go_wp2_with fail
  refine (specScopeFault_any w1.heap.size l _ ho2.row ho2.lt hn (unhide hsz) (unhide hok)).mono ?_
  rintro e w3 ⟨rfl, hb3⟩
  have B3 : Below w.heap.size w w3 := B2.trans (hb3.mono B2.size)
  clear hb1 hb2 hb3 ho2 A1 B2
  have HI := hide (fun (wq : World) (b : Nat) (hrow : Nd.Row wq b 0 l) (hb : b < wq.heap.size) => implScopeFault_any b l wq hrow hb hn (unhide hsz) (unhide hok))
  generalize Tr.scopeOut l = R at *
  obtain ⟨x, y⟩ := R
  simp only
  obtain ⟨w4, hw4⟩ : ∃ w4, w4 = w3.alloc (.cells #[.int .i64 x, .int .i64 y] 30) := ⟨_, rfl⟩
  have hR4 : Own w4 w3.heap.size 30 [.int .i64 x, .int .i64 y] := by rw [hw4]; exact ⟨_, heap_alloc_new _ _, rfl⟩
  have B4 : Below w.heap.size w w4 := by rw [hw4]; exact B3.alloc B3.size _
  have A4 := hide ((unhide HA).below B4)
  clear B3
  go_wp2_with fail
  rw [← hw4]
  clear hw4
  refine (Nd.to_arg a cap l _ (unhide A4) hn).mono ?_
  rintro e w5 ⟨rfl, ho5, hb5⟩
  have B5 : Below w.heap.size w w5 := B4.trans (hb5.mono B4.size)
  have hR5 := hR4.below hb5 hR4.lt
  clear hb5 hR4 A4
  go_wp2_with fail
  refine ((unhide HI) _ _ ho5.row ho5.lt).mono ?_
  rintro e w6 ⟨rfl, hb6⟩
  have B6 : Below w.heap.size w w6 := B5.trans (hb6.mono B5.size)
  have ho6 := ho5.below hb6 ho5.lt
  have hR6 := hR5.below hb6 hR5.lt
  clear hb6 ho5 hR5 B5 HI B4
  obtain ⟨w7, hw7⟩ : ∃ w7, w7 = w6.alloc (.cells #[.int .i64 x, .int .i64 y] 30) := ⟨_, rfl⟩
  have x0 : ∀ o, (w6.alloc o).cell? ⟨w3.heap.size, 0, none⟩ = some (.int .i64 x) := fun o => (hR6.below ((Below.refl _ _).alloc (Nat.le_refl _) o) hR6.lt).cell 0
  have x1 : ∀ o, (w6.alloc o).cell? ⟨w3.heap.size, 1, none⟩ = some (.int .i64 y) := fun o => (hR6.below ((Below.refl _ _).alloc (Nat.le_refl _) o) hR6.lt).cell 1
  have B7 : Below w.heap.size w w7 := by rw [hw7]; exact B6.alloc B6.size _
  have ho7 : Nd.OwnRow w7 w4.heap.size 73 l := by rw [hw7]; exact ho6.below ((Below.refl _ _).alloc (Nat.le_refl _) _) ho6.lt
  clear ho6 hR6 B6
  go_wp2_with fail
  rw [← hw7]
  clear hw7 x0 x1
  refine (eqIntResult_tr x y _).mono ?_
  rintro e w8 ⟨rfl, hb8⟩
  have B8 : Below w.heap.size w w8 := B7.trans (hb8.mono B7.size)
  have ho8 := ho7.below hb8 ho7.lt
  have A8 := hide ((unhide HA).below B8)
  clear hb8 ho7 B7
  go_wp2_with fail
  refine (Nd.to_arg a cap l _ (unhide A8) hn).mono ?_
  rintro e w9 ⟨rfl, ho9, hb9⟩
  have B9 : Below w.heap.size w w9 := B8.trans (hb9.mono B8.size)
  have ho9' := ho8.below hb9 ho8.lt
  go_wp2_with fail
  refine (Nd.eqS_same w4.heap.size 0 l.length w8.heap.size 0 l.length l _ ho9'.row ho9'.lt ho9.row ho9.lt hn (Nat.le_refl _) (Nat.le_refl _)).mono ?_
  rintro e w10 ⟨rfl, hb10⟩
  have B10 : Below w.heap.size w w10 := B9.trans (hb10.mono B9.size)
  clear hb9 hb10 ho8 ho9 ho9' B8 B9
  go_wp2_with fail
  go_ret
  exact ⟨rfl, B10⟩

namespace lawScopeFault
theorem own : ownKnob Try.prog.godebug = none := by kernel_rfl
theorem laidOut : laidOutB Try.prog = true := by kernel_rfl

set_option maxRecDepth 100000 in
theorem lifted (os : Os) (started : os.Started) (H : Type) (enc : TypeId × Value → H) :
    ReturnsInHanded {} Try.checked os 4 .any (Rows.fnExactScopeFaultSpec.pre6 enc Try.prog Try.f4 Rows.fnExactScopeFaultRow.domain false) (Rows.fnExactScopeFaultSpec.post enc Try.prog Try.f4 false true false false) := by
  refine returnsInHanded_of_change (C := Try.checked) own started (by kernel_rfl) Try.func4
    (ChangeSpec.witness6 (enc := enc) (C := Try.checked) false ⟨#[], #[.slice none 0 0], []⟩ 8 (by kernel_rfl) (by kernel_rfl) (by kernel_rfl) (by kernel_rfl)) ?_
  intro W base args ds gs before hval0 hW hcnd _
  have hval : ∀ (j : Nat) t v, Try.f4.params[j]? = some t → args[j]? = some v → Value.okWide Try.prog W .any base t v := hval0
  have hW' := hW
  obtain ⟨p, q, hA0, hV, rfl, hfz, hnd⟩ := hW
  have hA : DataW.TrodAll enc Try.prog W 0 (fun _ => true) true Try.f4.params.toList args.toList ds p := hA0
  rw [Try.params4] at hA hval
  obtain ⟨v0, vs0, d0, ds0, p0, q0, hargs, rfl, rfl, h0, r0⟩ := trodAll_cons hA
  obtain ⟨rfl, rfl, rfl⟩ := trodAll_nil r0
  obtain rfl : args = #[v0] := by cases args; simp_all
  obtain ⟨rfl, rfl⟩ := trodVars_none hV
  obtain ⟨a0, len0, cap0, rfl⟩ := okWide_slice Try.underlying22 (hval 0 22 v0 rfl rfl)
  have k0 := h0
  have lt0 : ∀ x ∈ p0, x.block < W.heap.size := by obtain ⟨m, hm⟩ := k0; exact DataW.trod_lt m _ _ _ hm
  obtain ⟨l0, hl0, w0⟩ : ∃ l : List Nd, l.length = len0 ∧ Nd.Arg W a0 cap0 l := by
    obtain ⟨fuel, hf⟩ := h0
    exact Nd.open_arg hf
  subst hl0
  clear hA0 hval0
  refine (lawScopeFault_walk a0 cap0 l0 W w0).mono fun e W' ⟨he, bel⟩ => ?_
  subst he
  exact ⟨_, rfl, _, _, _, [], _, [], hW', trodAll_mk1 (shut_bool Try.underlying4 _), (trodAll_cons_mk (Below.trod laidOut (by kernel_rfl) (of_decide_eq_true (by kernel_rfl)) k0 bel lt0) trodAll_mk0), rfl, bel.frame _, fun h => by cases h⟩

theorem over : Rows.fnExactScopeFaultRow.holds Try.pinned (OpenSpec.ofChange Rows.fnExactScopeFaultSpec) :=
  OpenClaim.holds_of_wide 4 Try.f4 rfl rfl rfl rfl rfl rfl rfl ⟨rfl, rfl, rfl, rfl, rfl⟩ rfl rfl rfl rfl rfl (by kernel_rfl) Try.func4 (by kernel_rfl)
    (of_decide_eq_true (by kernel_rfl)) (by unfold Func.isWrapper; first | (rw [if_pos (by decide +kernel)]; kernel_rfl) | (rw [if_neg (by decide +kernel)]; exact ⟨rfl, rfl⟩))
    (fun os started H enc _ => lifted os started H enc)
end lawScopeFault

/-- The statement. -/
theorem lawScopeFault_holds : Rows.FnExactScopeFaultSaid := lawScopeFault.over
#print axioms lawScopeFault_holds
end Go.Proofs.Ytcolohilnmikiaa
