/-
  Proved: at every argument impl.CountCore answers as spec.CountCore, every field, and writes nothing into its argument (laws.FnExactCountCore returns true). No condition.
-/
import Derived.Test.YtkjmnkbiflkpdaaKnW
import Derived.Test.YtkjmnkbiflkpdaaCorQ
import Derived.ProofKit
import Derived.OpenShut
import Derived.ShutString
import Derived.ChangeOld
namespace Go.Proofs.Ytkjmnkbiflkpdaa
open Go.ChangeShapes Go.WideShapes Go.ChangeAt Go.RowKit
set_option linter.unusedVariables false
set_option linter.unusedSimpArgs false

set_option maxHeartbeats 1000000 in
theorem eqCountResult_kn (x y z : Int) (u : Bool) (w : World) : Calls Try.prog 10 #[.agg #[.int .i64 x, .int .i64 y, .int .i64 z, .bool u], .agg #[.int .i64 x, .int .i64 y, .int .i64 z, .bool u]] w fun e w' => e = .returned (.bool true) ∧ Below w.heap.size w w' := by
  have HB : Hid (∀ o o', Below w.heap.size w ((w.alloc o).alloc o')) := fun o o' => ((Below.refl _ _).alloc (Nat.le_refl _) o).alloc (by simp [go_sem] <;> omega) o'
  go_enter Try.func10, Try.ntmps10
  go_wp2_with fail
  go_ret
  exact ⟨rfl, HB.out _ _⟩
set_option maxRecDepth 100000 in
set_option maxHeartbeats 2000000 in
theorem lawCountCore_walk (a : Option Addr) (cap : Nat) (l : List Co) (w : World) (hA : Co.Arg w a cap l) :
    Calls Try.prog 3 #[.slice a l.length cap] w fun e w' => e = .returned (.bool true) ∧ Below w.heap.size w w' := by
  have HA := hide hA
  clear hA
  go_enter Try.func3, Try.ntmps3
  go_wp2_with fail
  refine (Co.sz_arg a cap l _ _ (unhide HA) (by decide) (by decide)).mono ?_
  rintro e w1 ⟨r, rfl, hr, hb1⟩
  rcases hr with hr | ⟨hr0, hn, hv⟩
  · go_wp2_with fail
    go_ret
    exact ⟨rfl, hb1⟩
  have hsz := hide hv
  have hok := hide (unhide HA).2.2.1
  have A1 := hide ((unhide HA).below hb1)
  clear hv
  go_wp2_with fail
  refine (Co.to_arg a cap l _ (unhide A1) hn (unhide hsz)).mono ?_
  rintro e w2 ⟨rfl, ho2, lt2, hb2⟩
  have B2 : Below w.heap.size w w2 := hb1.trans (hb2.mono hb1.size)
  go_wp2_with fail
  refine (specCountCore_any w1.heap.size l _ ho2 lt2 hn (unhide hsz) (unhide hok)).mono ?_
  rintro e w3 ⟨rfl, hb3⟩
  have B3 : Below w.heap.size w w3 := B2.trans (hb3.mono B2.size)
  clear hb1 hb2 hb3 ho2 A1 B2
  have HI := hide (fun (wq : World) (b : Nat) (hrow : Co.Row wq b l) (hb : b < wq.heap.size) => implCountCore_any b l wq hrow hb hn (unhide hsz) (unhide hok))
  generalize Kn.cres l = R at *
  obtain ⟨x, y, z, u⟩ := R
  simp only
  obtain ⟨w4, hw4⟩ : ∃ w4, w4 = w3.alloc (.cells #[.int .i64 x, .int .i64 y, .int .i64 z, .bool u] 25) := ⟨_, rfl⟩
  have hR4 : Own w4 w3.heap.size 25 [.int .i64 x, .int .i64 y, .int .i64 z, .bool u] := by rw [hw4]; exact ⟨_, heap_alloc_new _ _, rfl⟩
  have B4 : Below w.heap.size w w4 := by rw [hw4]; exact B3.alloc B3.size _
  have A4 := hide ((unhide HA).below B4)
  clear B3
  go_wp2_with fail
  rw [← hw4]
  clear hw4
  refine (Co.to_arg a cap l _ (unhide A4) hn (unhide hsz)).mono ?_
  rintro e w5 ⟨rfl, ho5, lt5, hb5⟩
  have B5 : Below w.heap.size w w5 := B4.trans (hb5.mono B4.size)
  have hR5 := hR4.below hb5 hR4.lt
  clear hb5 hR4 A4
  go_wp2_with fail
  refine ((unhide HI) _ _ ho5 lt5).mono ?_
  rintro e w6 ⟨rfl, hb6⟩
  have B6 : Below w.heap.size w w6 := B5.trans (hb6.mono B5.size)
  have ho6 := ho5.below hb6 lt5
  have lt6 : w4.heap.size < w6.heap.size := Nat.lt_of_lt_of_le lt5 hb6.size
  have hR6 := hR5.below hb6 hR5.lt
  clear hb6 ho5 hR5 B5 HI B4
  obtain ⟨w7, hw7⟩ : ∃ w7, w7 = w6.alloc (.cells #[.int .i64 x, .int .i64 y, .int .i64 z, .bool u] 25) := ⟨_, rfl⟩
  have x0 : ∀ o, (w6.alloc o).cell? ⟨w3.heap.size, 0, none⟩ = some (.int .i64 x) := fun o => (hR6.below ((Below.refl _ _).alloc (Nat.le_refl _) o) hR6.lt).cell 0
  have x1 : ∀ o, (w6.alloc o).cell? ⟨w3.heap.size, 1, none⟩ = some (.int .i64 y) := fun o => (hR6.below ((Below.refl _ _).alloc (Nat.le_refl _) o) hR6.lt).cell 1
  have x2 : ∀ o, (w6.alloc o).cell? ⟨w3.heap.size, 2, none⟩ = some (.int .i64 z) := fun o => (hR6.below ((Below.refl _ _).alloc (Nat.le_refl _) o) hR6.lt).cell 2
  have x3 : ∀ o, (w6.alloc o).cell? ⟨w3.heap.size, 3, none⟩ = some (.bool u) := fun o => (hR6.below ((Below.refl _ _).alloc (Nat.le_refl _) o) hR6.lt).cell 3
  have B7 : Below w.heap.size w w7 := by rw [hw7]; exact B6.alloc B6.size _
  have ho7 : Co.Row w7 w4.heap.size l := by rw [hw7]; exact ho6.below ((Below.refl _ _).alloc (Nat.le_refl _) _) lt6
  have lt7 : w4.heap.size < w7.heap.size := by rw [hw7]; simp; omega
  clear ho6 hR6 B6
  go_wp2_with fail
  rw [← hw7]
  clear hw7 x0 x1 x2 x3
  refine (eqCountResult_kn x y z u _).mono ?_
  rintro e w8 ⟨rfl, hb8⟩
  have B8 : Below w.heap.size w w8 := B7.trans (hb8.mono B7.size)
  have ho8 := ho7.below hb8 lt7
  have lt8 : w4.heap.size < w8.heap.size := Nat.lt_of_lt_of_le lt7 hb8.size
  have A8 := hide ((unhide HA).below B8)
  clear hb8 ho7 B7
  go_wp2_with fail
  refine (Co.to_arg a cap l _ (unhide A8) hn (unhide hsz)).mono ?_
  rintro e w9 ⟨rfl, ho9, lt9, hb9⟩
  have B9 : Below w.heap.size w w9 := B8.trans (hb9.mono B8.size)
  have ho9' := ho8.below hb9 lt8
  have lt9' : w4.heap.size < w9.heap.size := Nat.lt_of_lt_of_le lt8 hb9.size
  go_wp2_with fail
  refine (Co.eqS_same w4.heap.size w8.heap.size l _ ho9' lt9' ho9 lt9 hn (unhide hsz)).mono ?_
  rintro e w10 ⟨rfl, hb10⟩
  have B10 : Below w.heap.size w w10 := B9.trans (hb10.mono B9.size)
  clear hb9 hb10 ho8 ho9 ho9' B8 B9
  go_wp2_with fail
  go_ret
  exact ⟨rfl, B10⟩

namespace lawCountCore
theorem own : ownKnob Try.prog.godebug = none := by kernel_rfl
theorem laidOut : laidOutB Try.prog = true := by kernel_rfl

set_option maxRecDepth 100000 in
theorem lifted (os : Os) (started : os.Started) (H : Type) (enc : TypeId × Value → H) :
    ReturnsInHanded {} Try.checked os 3 .any (Rows.fnExactCountCoreSpec.pre6 enc Try.prog Try.f3 Rows.fnExactCountCoreRow.domain false) (Rows.fnExactCountCoreSpec.post enc Try.prog Try.f3 false true false false) := by
  refine returnsInHanded_of_change (C := Try.checked) own started (by kernel_rfl) Try.func3
    (ChangeSpec.witness6 (enc := enc) (C := Try.checked) false ⟨#[], #[.slice none 0 0], []⟩ 8 (by kernel_rfl) (by kernel_rfl) (by kernel_rfl) (by kernel_rfl)) ?_
  intro W base args ds gs before hval0 hW hcnd _
  have hval : ∀ (j : Nat) t v, Try.f3.params[j]? = some t → args[j]? = some v → Value.okWide Try.prog W .any base t v := hval0
  have hW' := hW
  obtain ⟨p, q, hA0, hV, rfl, hfz, hnd⟩ := hW
  have hA : DataW.TrodAll enc Try.prog W 0 (fun _ => true) true Try.f3.params.toList args.toList ds p := hA0
  rw [Try.params3] at hA hval
  obtain ⟨v0, vs0, d0, ds0, p0, q0, hargs, rfl, rfl, h0, r0⟩ := trodAll_cons hA
  obtain ⟨rfl, rfl, rfl⟩ := trodAll_nil r0
  obtain rfl : args = #[v0] := by cases args; simp_all
  obtain ⟨rfl, rfl⟩ := trodVars_none hV
  obtain ⟨a0, len0, cap0, rfl⟩ := okWide_slice Try.underlying22 (hval 0 22 v0 rfl rfl)
  have k0 := h0
  have lt0 : ∀ x ∈ p0, x.block < W.heap.size := by obtain ⟨m, hm⟩ := k0; exact DataW.trod_lt m _ _ _ hm
  obtain ⟨l0, hl0, w0⟩ : ∃ l : List Co, l.length = len0 ∧ Co.Arg W a0 cap0 l := by
    obtain ⟨fuel, hf⟩ := h0
    exact Co.open_arg hf
  subst hl0
  clear hA0 hval0
  refine (lawCountCore_walk a0 cap0 l0 W w0).mono fun e W' ⟨he, bel⟩ => ?_
  subst he
  exact ⟨_, rfl, _, _, _, [], _, [], hW', trodAll_mk1 (shut_bool Try.underlying4 _), (trodAll_cons_mk (Below.trod laidOut (by kernel_rfl) (of_decide_eq_true (by kernel_rfl)) k0 bel lt0) trodAll_mk0), rfl, bel.frame _, fun h => by cases h⟩

theorem over : Rows.fnExactCountCoreRow.holds Try.pinned (OpenSpec.ofChange Rows.fnExactCountCoreSpec) :=
  OpenClaim.holds_of_wide 3 Try.f3 rfl rfl rfl rfl rfl rfl rfl ⟨rfl, rfl, rfl, rfl, rfl⟩ rfl rfl rfl rfl rfl (by kernel_rfl) Try.func3 (by kernel_rfl)
    (of_decide_eq_true (by kernel_rfl)) (by unfold Func.isWrapper; first | (rw [if_pos (by decide +kernel)]; kernel_rfl) | (rw [if_neg (by decide +kernel)]; exact ⟨rfl, rfl⟩))
    (fun os started H enc _ => lifted os started H enc)
end lawCountCore

/-- The statement. -/
theorem lawCountCore_holds : Rows.FnExactCountCoreSaid := lawCountCore.over
#print axioms lawCountCore_holds
end Go.Proofs.Ytkjmnkbiflkpdaa
