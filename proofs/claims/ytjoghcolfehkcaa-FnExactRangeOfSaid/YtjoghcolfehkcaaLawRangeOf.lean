/-
  Proved: at every argument impl.RangeOf answers as spec.RangeOf, every field, and its answer owns its memory (laws.FnExactRangeOf returns true). No condition.
-/
import Derived.Test.YtjoghcolfehkcaaRngT
import Derived.ProofKit
import Derived.OpenShut
import Derived.ShutString
import Derived.ChangeOld
namespace Go.Proofs.Ytjoghcolfehkcaa
open Go.ChangeShapes Go.WideShapes Go.ChangeAt Go.RowKit
open Go.ChangeMaps (open_string shut_string)
set_option linter.unusedVariables false

set_option maxRecDepth 100000 in
set_option maxHeartbeats 4000000 in
theorem lawRangeOf_walk (n : Int) (w : World) (hn0 : (Lit.int IntKind.i64 n).wf = true) :
    Calls Try.prog 15 #[.int .i64 n] w fun e w' => e = .returned (.bool true) ∧ Below w.heap.size w w' := by
  have B0 : Below w.heap.size w w := Below.refl _ _
  have hnb := bounds_i64 hn0
  go_enter Try.func15, Try.ntmps15
  go_wp2_with fail
  refine (specRangeOf_any n _ hnb.1 hnb.2).mono ?_
  rintro e w1 ⟨s, rfl, hr1, hb1⟩
  have B1 : Below w.heap.size w w1 := B0.trans (hb1.mono B0.size)
  have hsz1 : w.heap.size ≤ w1.heap.size := B1.size
  generalize hR : rngOut n = R at *
  obtain ⟨code, l⟩ := R
  simp only at hr1 ⊢
  have HR := hide hR
  clear hR hb1 B0
  obtain ⟨a1, m1, c1, rfl⟩ := hr1.shape
  go_wp2_with fail
  have hX : Own (w1.alloc (.cells #[.int .i64 code, .slice a1 m1 c1] 26)) w1.heap.size 26 [.int .i64 code, .slice a1 m1 c1] := ⟨_, heap_alloc_new _ _, rfl⟩
  refine (implRange_any n _ hnb.1 hnb.2).mono ?_
  rintro e w2 ⟨s2, rfl, hr2, hb2⟩
  rw [unhide HR] at hr2 ⊢
  simp only at hr2 ⊢
  have hX2 : Own w2 w1.heap.size 26 [.int .i64 code, .slice a1 m1 c1] := hX.below hb2 (by simp)
  have hr12 : Res w2 w.heap.size (.slice a1 m1 c1) l := ((hr1.mono (Nat.le_refl _)).alloc _).below hb2
  have hlt1 : ∀ b, (Value.slice a1 m1 c1).ownBlock = some b → b < w1.heap.size := hr1.lt
  have B2 : Below w.heap.size w w2 := (B1.alloc B1.size _).trans (hb2.mono (by simp; have := B1.size; omega))
  have hge2 : ∀ b, s2.ownBlock = some b → w1.heap.size + 1 ≤ b := fun b hb => by have := hr2.base b hb; simpa using this
  have hlt2 : ∀ b, s2.ownBlock = some b → b < w2.heap.size := hr2.lt
  clear hX hb2 hr1 B1
  obtain ⟨a2, m2, c2, rfl⟩ := hr2.shape
  have x0 : ∀ o, (w2.alloc o).cell? ⟨w1.heap.size, 0, none⟩ = some (.int .i64 code) := fun o => (hX2.alloc o).cell 0
  have x1 : ∀ o, (w2.alloc o).cell? ⟨w1.heap.size, 1, none⟩ = some (.slice a1 m1 c1) := fun o => (hX2.alloc o).cell 1
  go_wp2_with fail
  refine (eqValueResult_any code (.slice a2 m2 c2) (.slice a1 m1 c1) _ _ l _ (hr2.alloc _) (hr12.alloc _)).mono ?_
  rintro e w3 ⟨rfl, hb3⟩
  have hX3 : Own w3 w1.heap.size 26 [.int .i64 code, .slice a1 m1 c1] := (hX2.alloc _).below hb3 (by have := hX2.lt; simp; omega)
  have hY3 : Own w3 w2.heap.size 26 [.int .i64 code, .slice a2 m2 c2] := Own.below ⟨_, heap_alloc_new _ _, rfl⟩ hb3 (by simp)
  have hr13 : Res w3 w.heap.size (.slice a1 m1 c1) l := (hr12.alloc _).below hb3
  have hr23 := (hr2.alloc _).below hb3
  have B3 : Below w.heap.size w w3 := (B2.alloc B2.size _).trans (hb3.mono (by simp; have := B2.size; omega))
  clear x0 x1 hb3 hX2 hr12 hr2 B2
  have y0 := hY3.cell 0
  have y1 := hY3.cell 1
  simp only [List.getElem?_cons_zero, List.getElem?_cons_succ] at y0 y1
  go_wp2_with fail
  refine (markValueResult_any code (.slice a2 m2 c2) _ l 1 _ hr23 (by decide) (by decide)).mono ?_
  rintro e w4 ⟨rfl, hm4, hv4⟩
  have hX4 : Own w4 w1.heap.size 26 [.int .i64 code, .slice a1 m1 c1] := hv4.own hX3 (fun e => by have := hge2 _ e; omega)
  have hY4 : Own w4 w2.heap.size 26 [.int .i64 code, .slice a2 m2 c2] := hv4.own hY3 (fun e => by have := hlt2 _ e; omega)
  have hr14 : Res w4 w.heap.size (.slice a1 m1 c1) l := hv4.res hr13 (fun b h1 h2 => by have := hge2 _ h1; have := hlt1 _ h2; omega)
  have B4 : Below w.heap.size w w4 := B3.trans (hv4.below B3.size (fun b hb => by have := hge2 b hb; omega))
  clear y0 y1 hX3 hY3 hr13 hr23 hv4 B3
  have y0 := hY4.cell 0
  have y1 := hY4.cell 1
  simp only [List.getElem?_cons_zero, List.getElem?_cons_succ] at y0 y1
  have hln := hm4.1
  rw [marked_length] at hln
  go_wp2_with fail
  refine (heldValueResult_any code (.slice a2 m2 c2) _ l.length 1 _ hm4 (by decide) (by decide) hln).mono ?_
  rintro e w5 ⟨rfl, hb5⟩
  have hX5 := hX4.below hb5 hX4.lt
  have hY5 := hY4.below hb5 hY4.lt
  have hr15 := hr14.below hb5
  have hm5 := hm4.below hb5
  have B5 : Below w.heap.size w w5 := B4.trans (hb5.mono B4.size)
  clear y0 y1 hX4 hY4 hr14 hm4 hb5 B4
  go_wp2_with fail
  refine (implRange_any n _ hnb.1 hnb.2).mono ?_
  rintro e w6 ⟨s3, rfl, hr3, hb6⟩
  rw [unhide HR] at hr3 ⊢
  simp only at hr3 ⊢
  have hX6 := hX5.below hb6 hX5.lt
  have hY6 := hY5.below hb6 hY5.lt
  have hr16 := hr15.below hb6
  have hm6 := hm5.below hb6
  have B6 : Below w.heap.size w w6 := B5.trans (hb6.mono B5.size)
  clear hX5 hY5 hr15 hm5 hb6 B5
  obtain ⟨a3, m3, c3, rfl⟩ := hr3.shape
  have x0 : ∀ o, (w6.alloc o).cell? ⟨w1.heap.size, 0, none⟩ = some (.int .i64 code) := fun o => (hX6.alloc o).cell 0
  have x1 : ∀ o, (w6.alloc o).cell? ⟨w1.heap.size, 1, none⟩ = some (.slice a1 m1 c1) := fun o => (hX6.alloc o).cell 1
  go_wp2_with fail
  refine (eqValueResult_any code (.slice a3 m3 c3) (.slice a1 m1 c1) _ _ l _ (hr3.alloc _) (hr16.alloc _)).mono ?_
  rintro e w7 ⟨rfl, hb7⟩
  have hY7 := (hY6.alloc _).below hb7 (by have := hY6.lt; simp; omega)
  have hm7 := (hm6.alloc _).below hb7
  have B7 : Below w.heap.size w w7 := (B6.alloc B6.size _).trans (hb7.mono (by simp; have := B6.size; omega))
  clear x0 x1 hX6 hY6 hr16 hm6 hr3 hb7 B6
  have y0 := hY7.cell 0
  have y1 := hY7.cell 1
  simp only [List.getElem?_cons_zero, List.getElem?_cons_succ] at y0 y1
  go_wp2_with fail
  refine (heldValueResult_any code (.slice a2 m2 c2) _ l.length 1 _ hm7 (by decide) (by decide) hln).mono ?_
  rintro e w8 ⟨rfl, hb8⟩
  have B8 : Below w.heap.size w w8 := B7.trans (hb8.mono B7.size)
  clear y0 y1 hY7 hm7 hb8 B7
  go_wp2_with fail
  go_ret
  exact ⟨rfl, B8⟩

namespace lawRangeOf
theorem own : ownKnob Try.prog.godebug = none := by kernel_rfl
theorem laidOut : laidOutB Try.prog = true := by kernel_rfl

set_option maxRecDepth 100000 in
theorem lifted (os : Os) (started : os.Started) (H : Type) (enc : TypeId × Value → H) :
    ReturnsInHanded {} Try.checked os 15 .any (Rows.fnExactRangeOfSpec.pre6 enc Try.prog Try.f15 Rows.fnExactRangeOfRow.domain false) (Rows.fnExactRangeOfSpec.post enc Try.prog Try.f15 false true false false) := by
  refine returnsInHanded_of_change (C := Try.checked) own started (by kernel_rfl) Try.func15
    (ChangeSpec.witness6 (enc := enc) (C := Try.checked) false ⟨#[], #[.int .i64 0], []⟩ 8 (by kernel_rfl) (by kernel_rfl) (by kernel_rfl) (by kernel_rfl)) ?_
  intro W base args ds gs before hval0 hW hcnd _
  have hval : ∀ (j : Nat) t v, Try.f15.params[j]? = some t → args[j]? = some v → Value.okWide Try.prog W .any base t v := hval0
  have hW' := hW
  obtain ⟨p, q, hA0, hV, rfl, hfz, hnd⟩ := hW
  have hA : DataW.TrodAll enc Try.prog W 0 (fun _ => true) true Try.f15.params.toList args.toList ds p := hA0
  rw [Try.params15] at hA hval
  obtain ⟨v0, vs0, d0, ds0, p0, q0, hargs, rfl, rfl, h0, r0⟩ := trodAll_cons hA
  obtain ⟨rfl, rfl, rfl⟩ := trodAll_nil r0
  obtain rfl : args = #[v0] := by cases args; simp_all
  obtain ⟨rfl, rfl⟩ := trodVars_none hV
  obtain ⟨a0, rfl, rfl, rfl, w0⟩ := open_int Try.underlying2 (hval 0 2 v0 rfl rfl) h0
  clear hA0 hval0
  refine (lawRangeOf_walk a0 W w0).mono fun e W' ⟨he, bel⟩ => ?_
  subst he
  exact ⟨_, rfl, _, _, _, [], _, [], hW', trodAll_mk1 (shut_bool Try.underlying4 _), (trodAll_cons_mk (shut_int Try.underlying2 w0) trodAll_mk0), rfl, bel.frame _, fun h => by cases h⟩

theorem over : Rows.fnExactRangeOfRow.holds Try.pinned (OpenSpec.ofChange Rows.fnExactRangeOfSpec) :=
  OpenClaim.holds_of_wide 15 Try.f15 rfl rfl rfl rfl rfl rfl rfl ⟨rfl, rfl, rfl, rfl, rfl⟩ rfl rfl rfl rfl rfl (by kernel_rfl) Try.func15 (by kernel_rfl)
    (of_decide_eq_true (by kernel_rfl)) (by unfold Func.isWrapper; first | (rw [if_pos (by decide +kernel)]; kernel_rfl) | (rw [if_neg (by decide +kernel)]; exact ⟨rfl, rfl⟩))
    (fun os started H enc _ => lifted os started H enc)
end lawRangeOf

/-- The statement. -/
theorem lawRangeOf_holds : Rows.FnExactRangeOfSaid := lawRangeOf.over
#print axioms lawRangeOf_holds
end Go.Proofs.Ytjoghcolfehkcaa
