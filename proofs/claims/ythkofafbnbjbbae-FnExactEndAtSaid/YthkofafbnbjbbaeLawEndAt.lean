/-
  Proved: at every argument impl.EndAt answers as spec.EndAt, every field, and writes nothing into its argument (laws.FnExactEndAt returns true). No condition.
-/
import Derived.Test.YthkofafbnbjbbaeEndL
import Derived.ShutString
import Derived.ChangeOld
namespace Go.Proofs.Ythkofafbnbjbbae
open Go.ChangeShapes Go.WideShapes Go.ChangeAt Go.RowKit
set_option linter.unusedVariables false

set_option maxHeartbeats 1000000 in
theorem lawEndAt_walk (a : Option Addr) (cap : Nat) (l : List M.Cl) (at' : Int) (w : World) (hA : Cells w a cap l) :
    Calls Try.prog 4 #[.slice a l.length cap, .int .i64 at'] w fun e w' => e = .returned (.bool true) ∧ Below w.heap.size w w' := by
  have HA := hide hA
  clear hA
  go_enter Try.func4, Try.ntmps4
  go_wp2_with fail
  refine (sz_arg a cap l _ _ (unhide HA) (by decide) (by decide)).mono ?_
  rintro e w1 ⟨r, rfl, hr, hb1⟩
  rcases hr with hr | ⟨hr0, hr1⟩
  · go_wp2_with fail
    go_ret
    exact ⟨rfl, hb1⟩
  have hn : l.length ≤ 1048576 := by omega
  have hok := hide (unhide HA).2.2.1
  have A1 := hide ((unhide HA).below hb1)
  clear hr1
  go_wp2_with fail
  refine (to_arg a cap l _ (unhide A1) hn).mono ?_
  rintro e w2 ⟨rfl, ho2, hb2⟩
  have B2 : Below w.heap.size w w2 := hb1.trans (hb2.mono hb1.size)
  go_wp2_with fail
  refine (specEndAt_any l w1.heap.size 0 l.length at' _ ho2.row ho2.lt hn (Nat.le_refl _) (unhide hok)).mono ?_
  rintro e w3 ⟨rfl, hb3⟩
  have B3 : Below w.heap.size w w3 := B2.trans (hb3.mono B2.size)
  clear hb1 hb2 hb3 ho2 A1 B2
  generalize hx : (endAtOut l at').1 = x
  generalize hy : (endAtOut l at').2 = y
  have HX := hide hx
  have HY := hide hy
  clear hx hy
  go_wp2_with fail
  have B3' : ∀ o, Below w.heap.size w (w3.alloc o) := fun o => B3.alloc B3.size o
  refine (to_arg a cap l _ ((unhide HA).below (B3' _)) hn).mono ?_
  rintro e w4 ⟨rfl, ho4, hb4⟩
  have hX : Own w4 w3.heap.size 30 [.int .i64 x, .int .i64 y] := Own.below ⟨_, heap_alloc_new _ _, rfl⟩ hb4 (by simp)
  have B4 : Below w.heap.size w w4 := (B3' _).trans (hb4.mono (by simp; have := B3.size; omega))
  clear B3' hb4
  simp only [World.size_alloc] at ho4 ⊢
  go_wp2_with fail
  refine (implEndAt_any l (w3.heap.size + 1) 0 l.length at' _ ho4.row ho4.lt hn (Nat.le_refl _) (unhide hok)).mono ?_
  rintro e w5 ⟨rfl, hb5⟩
  rw [unhide HX, unhide HY]
  have B5 : Below w.heap.size w w5 := B4.trans (hb5.mono B4.size)
  have ho5 := ho4.below hb5 ho4.lt
  have hX5 := hX.below hb5 hX.lt
  clear hb5 ho4 B4 hX
  have x0 : ∀ o, (w5.alloc o).cell? ⟨w3.heap.size, 0, none⟩ = some (.int .i64 x) := fun o => (hX5.alloc o).cell 0
  have x1 : ∀ o, (w5.alloc o).cell? ⟨w3.heap.size, 1, none⟩ = some (.int .i64 y) := fun o => (hX5.alloc o).cell 1
  go_wp2_with fail
  refine (eqIntResult_same x y _).mono ?_
  rintro e w6 ⟨rfl, hb6⟩
  have B6 : Below w.heap.size w w6 := (B5.alloc B5.size _).trans (hb6.mono (by simp; have := B5.size; omega))
  have ho6 : OwnRow w6 (w3.heap.size + 1) 38 l := by
    obtain ⟨xs, o1, o2⟩ := ho5
    exact OwnRow.below ⟨xs, o1.alloc _, o2⟩ hb6 (by have := o1.lt; simp; omega)
  clear hb6 ho5 B5 hX5 x0 x1
  go_wp2_with fail
  refine (to_arg a cap l _ ((unhide HA).below B6) hn).mono ?_
  rintro e w7 ⟨rfl, ho7, hb7⟩
  have B7 : Below w.heap.size w w7 := B6.trans (hb7.mono B6.size)
  have ho7' := ho6.below hb7 ho6.lt
  go_wp2_with fail
  refine (eqCellS_same (w3.heap.size + 1) 0 l.length w6.heap.size 0 l.length l _ ho7'.row ho7'.lt ho7.row ho7.lt hn (Nat.le_refl _) (Nat.le_refl _)).mono ?_
  rintro e w8 ⟨rfl, hb8⟩
  have B8 : Below w.heap.size w w8 := B7.trans (hb8.mono B7.size)
  clear hb7 hb8 ho6 ho7 ho7' B6 B7
  go_wp2_with fail
  go_ret
  exact ⟨rfl, B8⟩

namespace lawEndAt
theorem own : ownKnob Try.prog.godebug = none := by kernel_rfl
theorem laidOut : laidOutB Try.prog = true := by kernel_rfl

set_option maxRecDepth 100000 in
theorem lifted (os : Os) (started : os.Started) (H : Type) (enc : TypeId × Value → H) :
    ReturnsInHanded {} Try.checked os 4 .any (Rows.fnExactEndAtSpec.pre6 enc Try.prog Try.f4 Rows.fnExactEndAtRow.domain false) (Rows.fnExactEndAtSpec.post enc Try.prog Try.f4 false true false false) := by
  refine returnsInHanded_of_change (C := Try.checked) own started (by kernel_rfl) Try.func4
    (ChangeSpec.witness6 (enc := enc) (C := Try.checked) false ⟨#[], #[.slice none 0 0, .int .i64 0], []⟩ 8 (by kernel_rfl) (by kernel_rfl) (by kernel_rfl) (by kernel_rfl)) ?_
  intro W base args ds gs before hval0 hW hcnd _
  have hval : ∀ (j : Nat) t v, Try.f4.params[j]? = some t → args[j]? = some v → Value.okWide Try.prog W .any base t v := hval0
  have hW' := hW
  obtain ⟨p, q, hA0, hV, rfl, hfz, hnd⟩ := hW
  have hA : DataW.TrodAll enc Try.prog W 0 (fun _ => true) true Try.f4.params.toList args.toList ds p := hA0
  rw [Try.params4] at hA hval
  obtain ⟨v0, vs0, d0, ds0, p0, q0, hargs, rfl, rfl, h0, r0⟩ := trodAll_cons hA
  obtain ⟨v1, vs1, d1, ds1, p1, q1, rfl, rfl, rfl, h1, r1⟩ := trodAll_cons r0
  obtain ⟨rfl, rfl, rfl⟩ := trodAll_nil r1
  obtain rfl : args = #[v0, v1] := by cases args; simp_all
  obtain ⟨rfl, rfl⟩ := trodVars_none hV
  obtain ⟨a0, len0, cap0, rfl⟩ := okWide_slice Try.underlying22 (hval 0 22 v0 rfl rfl)
  have k0 := h0
  have lt0 : ∀ x ∈ p0, x.block < W.heap.size := by obtain ⟨m, hm⟩ := k0; exact DataW.trod_lt m _ _ _ hm
  obtain ⟨l0, hl0, w0⟩ : ∃ l : List M.Cl, l.length = len0 ∧ Cells W a0 cap0 l := by
    obtain ⟨fuel, hf⟩ := h0
    exact open_cells hf lt0
  subst hl0
  obtain ⟨a1, rfl, rfl, rfl, w1⟩ := open_int Try.underlying2 (hval 1 2 v1 rfl rfl) h1
  clear hA0 hval0
  refine (lawEndAt_walk a0 cap0 l0 a1 W w0).mono fun e W' ⟨he, bel⟩ => ?_
  subst he
  exact ⟨_, rfl, _, _, _, [], _, [], hW', trodAll_mk1 (shut_bool Try.underlying4 _), (trodAll_cons_mk (Below.trod laidOut (by kernel_rfl) (of_decide_eq_true (by kernel_rfl)) k0 bel lt0) (trodAll_cons_mk (shut_int Try.underlying2 w1) trodAll_mk0)), rfl, bel.frame _, fun h => by cases h⟩

theorem over : Rows.fnExactEndAtRow.holds Try.pinned (OpenSpec.ofChange Rows.fnExactEndAtSpec) :=
  OpenClaim.holds_of_wide 4 Try.f4 rfl rfl rfl rfl rfl rfl rfl ⟨rfl, rfl, rfl, rfl, rfl⟩ rfl rfl rfl rfl rfl (by kernel_rfl) Try.func4 (by kernel_rfl)
    (of_decide_eq_true (by kernel_rfl)) (by unfold Func.isWrapper; first | (rw [if_pos (by decide +kernel)]; kernel_rfl) | (rw [if_neg (by decide +kernel)]; exact ⟨rfl, rfl⟩))
    (fun os started H enc _ => lifted os started H enc)
end lawEndAt

/-- The statement. -/
theorem lawEndAt_holds : Rows.FnExactEndAtSaid := lawEndAt.over
#print axioms lawEndAt_holds
end Go.Proofs.Ythkofafbnbjbbae
