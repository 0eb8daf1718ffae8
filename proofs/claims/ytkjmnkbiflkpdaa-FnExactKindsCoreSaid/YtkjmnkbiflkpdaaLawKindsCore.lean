/-
  Proved: at every argument impl.KindsCore answers as spec.KindsCore, every field, writes nothing into its argument, and its answer owns its memory (laws.FnExactKindsCore returns true). No condition.
-/
import Derived.Test.YtkjmnkbiflkpdaaKnX
import Derived.Test.YtkjmnkbiflkpdaaCorQ
import Derived.ProofKit
import Derived.OpenShut
import Derived.ShutString
import Derived.ChangeOld
namespace Go.Proofs.Ytkjmnkbiflkpdaa
open Go.ChangeShapes Go.WideShapes Go.ChangeAt Go.RowKit
set_option linter.unusedVariables false
set_option linter.unusedSimpArgs false

set_option maxRecDepth 100000 in
set_option maxHeartbeats 8000000 in
theorem lawKindsCore_walk (a : Option Addr) (cap : Nat) (l : List Co) (w : World) (hA : Co.Arg w a cap l) :
    Calls Try.prog 4 #[.slice a l.length cap] w fun e w' => e = .returned (.bool true) ∧ Below w.heap.size w w' := by
  have HA := hide hA
  clear hA
  go_enter Try.func4, Try.ntmps4
  go_wp2_with fail
  refine (Co.sz2_arg a cap l _ _ (unhide HA) (by decide) (by decide)).mono ?_
  rintro e w1 ⟨r, rfl, hr, hb1⟩
  rcases hr with hr | ⟨hr0, hn, htt⟩
  · go_wp2_with fail
    go_ret
    exact ⟨rfl, hb1⟩
  have hsz := hide (show ∀ i, i < l.length → (l.getD i Co.zero).val.length ≤ 1048576 from fun i hi => by have := Co.tot_one l i hi; omega)
  have hok := hide (unhide HA).2.2.1
  have HI := hide (fun (wq : World) (b : Nat) (hrow : Co.Row wq b l) (hb : b < wq.heap.size) => implKindsCore_any b l wq hrow hb hn (unhide hsz) (unhide hok))
  go_wp2_with fail
  refine (Co.to2_arg a cap l _ ((unhide HA).below hb1) hn (unhide hsz)).mono ?_
  rintro e w2 ⟨rfl, ho2, _, hb2⟩
  have B2 : Below w.heap.size w w2 := hb1.trans (hb2.mono hb1.size)
  go_wp2_with fail
  refine (specKindsCore_any w1.heap.size l _ ho2.row ho2.lt hn (unhide hsz) (unhide hok)).mono ?_
  rintro e w3 ⟨s, rfl, hr1, hb3⟩
  have B3 : Below w.heap.size w w3 := B2.trans (hb3.mono B2.size)
  have hs3 : w.heap.size ≤ w3.heap.size := B3.size
  have hr13 : ResO w3 w.heap.size s (Kn.kout l).2 := hr1.mono (by have := B2.size; omega)
  clear hb1 hb2 hb3 ho2 B2 hr1
  generalize Kn.kout l = R at *
  obtain ⟨code, rl⟩ := R
  simp only at hr13 ⊢
  have hlt1 : ∀ b, s.ownBlock = some b → b < w3.heap.size := hr13.lt
  obtain ⟨a1, m1, c1, rfl⟩ := hr13.shape
  go_wp2_with fail
  have B3' : Below w.heap.size w (w3.alloc (.cells #[.int .i64 code, .slice a1 m1 c1] 34)) := B3.alloc B3.size _
  have hX3 : Own (w3.alloc (.cells #[.int .i64 code, .slice a1 m1 c1] 34)) w3.heap.size 34 [.int .i64 code, .slice a1 m1 c1] := ⟨_, heap_alloc_new _ _, rfl⟩
  refine (Co.to2_arg a cap l _ ((unhide HA).below B3') hn (unhide hsz)).mono ?_
  rintro e w4 ⟨rfl, ho4, _, hb4⟩
  have hX4 := hX3.below hb4 (by simp)
  have hr14 := (hr13.alloc _).below hb4
  have B4 : Below w.heap.size w w4 := B3'.trans (hb4.mono (by simp; omega))
  have hX4lt := hX4.lt
  clear B3' hX3 hb4 hr13 B3
  simp only [World.size_alloc] at ho4 ⊢
  go_wp2_with fail
  refine ((unhide HI) _ _ ho4.row ho4.lt).mono ?_
  rintro e w5 ⟨s2, rfl, hr25', hb5⟩
  have hr25 : ResO w5 w4.heap.size s2 rl := hr25'.mono (by omega)
  have hlt4 := ho4.lt
  have hge2 : ∀ b, s2.ownBlock = some b → w3.heap.size + 2 ≤ b := fun b hb => by have := hr25.base b hb; omega
  have hlt2 : ∀ b, s2.ownBlock = some b → b < w5.heap.size := hr25.lt
  have hX5 := hX4.below hb5 hX4.lt
  have ho5 := ho4.below hb5
  have hr15 := hr14.below hb5
  have B5 : Below w.heap.size w w5 := B4.trans (hb5.mono B4.size)
  have h45 := hb5.size
  clear hb5 hX4 ho4 hr14 B4 hr25'
  obtain ⟨a2, m2, c2, rfl⟩ := hr25.shape
  have x0 : ∀ o, (w5.alloc o).cell? ⟨w3.heap.size, 0, none⟩ = some (.int .i64 code) := fun o => (hX5.alloc o).cell 0
  have x1 : ∀ o, (w5.alloc o).cell? ⟨w3.heap.size, 1, none⟩ = some (.slice a1 m1 c1) := fun o => (hX5.alloc o).cell 1
  go_wp2_with fail
  refine (eqIntsResultO_any code (.slice a2 m2 c2) (.slice a1 m1 c1) _ _ rl _ (hr25.alloc _) (hr15.alloc _)).mono ?_
  rintro e w6 ⟨rfl, hb6⟩
  have hX6 : Own w6 w3.heap.size 34 [.int .i64 code, .slice a1 m1 c1] := (hX5.alloc _).below hb6 (by have := hX5.lt; simp; omega)
  have hY6 : Own w6 w5.heap.size 34 [.int .i64 code, .slice a2 m2 c2] := Own.below ⟨_, heap_alloc_new _ _, rfl⟩ hb6 (by simp)
  have ho6 := (ho5.below ((Below.refl w5.heap.size w5).alloc (Nat.le_refl _) _)).below hb6
  have hr16 := (hr15.alloc _).below hb6
  have hr26 := (hr25.alloc _).below hb6
  have B6 : Below w.heap.size w w6 := (B5.alloc B5.size _).trans (hb6.mono (by simp; have := B5.size; omega))
  clear x0 x1 hb6 hX5 ho5 hr15 hr25 B5
  go_wp2_with fail
  refine (Co.to2_arg a cap l _ ((unhide HA).below B6) hn (unhide hsz)).mono ?_
  rintro e w7 ⟨rfl, ho7, _, hb7⟩
  have hX7 := hX6.below hb7 hX6.lt
  have hY7 := hY6.below hb7 hY6.lt
  have ho7' := ho6.below hb7
  have hr17 := hr16.below hb7
  have hr27 := hr26.below hb7
  have B7 : Below w.heap.size w w7 := B6.trans (hb7.mono B6.size)
  clear hb7 hX6 hY6 ho6 hr16 hr26 B6
  go_wp2_with fail
  refine (Co.eqS_same (w3.heap.size + 1) w6.heap.size l _ ho7'.row ho7'.lt ho7.row ho7.lt hn (unhide hsz)).mono ?_
  rintro e w8 ⟨rfl, hb8⟩
  have hX8 := hX7.below hb8 hX7.lt
  have hY8 := hY7.below hb8 hY7.lt
  have ho8 := ho7'.below hb8
  have hr18 := hr17.below hb8
  have hr28 := hr27.below hb8
  have B8 : Below w.heap.size w w8 := B7.trans (hb8.mono B7.size)
  clear hb8 hX7 hY7 ho7 ho7' hr17 hr27 B7
  go_wp2_with fail
  refine (Co.mark_arg (w3.heap.size + 1) w4.heap.size l _ ho8 hlt4 hn htt).mono ?_
  rintro e w9 ⟨r9, rfl, hr9, hbl, hkt⟩
  have hX9 : Own w9 w3.heap.size 34 [.int .i64 code, .slice a1 m1 c1] := hX8.below hbl (by omega)
  have hY9 : Own w9 w5.heap.size 34 [.int .i64 code, .slice a2 m2 c2] := by
    have hl := hY8.lt
    obtain ⟨c, q1, q2⟩ := hY8
    exact ⟨c, (hkt _ h45 hl).trans q1, q2⟩
  have hr19 : ResO w9 w.heap.size (.slice a1 m1 c1) rl := hr18.kept fun k hk => hbl.block k (by have := hlt1 k hk; omega)
  have hr29 : ResO w9 w4.heap.size (.slice a2 m2 c2) rl := hr28.kept fun k hk => hkt k (hr28.base k hk) (hr28.lt k hk)
  have B9 : Below w.heap.size w w9 := B8.trans (hbl.mono (by omega))
  clear hbl hkt hX8 hY8 ho8 hr18 hr28 B8
  have x0 := hX9.cell 0
  have x1 := hX9.cell 1
  have y0 := hY9.cell 0
  have y1 := hY9.cell 1
  simp only [List.getElem?_cons_zero, List.getElem?_cons_succ] at x0 x1 y0 y1
  have d9 : decide (r9 < 0) = false := decide_eq_false (by omega)
  go_wp2_with fail
  refine (eqIntsResultO_any code (.slice a2 m2 c2) (.slice a1 m1 c1) _ _ rl _ hr29 hr19).mono ?_
  rintro e w10 ⟨rfl, hb10⟩
  have hX10 := hX9.below hb10 hX9.lt
  have hY10 := hY9.below hb10 hY9.lt
  have hr110 := hr19.below hb10
  have hr210 := hr29.below hb10
  have B10 : Below w.heap.size w w10 := B9.trans (hb10.mono B9.size)
  clear x0 x1 y0 y1 d9 hb10 hX9 hY9 hr19 hr29 B9
  have y0 := hY10.cell 0
  have y1 := hY10.cell 1
  simp only [List.getElem?_cons_zero, List.getElem?_cons_succ] at y0 y1
  go_wp2_with fail
  refine (markIntsResultO_any code (.slice a2 m2 c2) _ rl 1 _ hr210 (by decide) (by decide)).mono ?_
  rintro e w11 ⟨rfl, hm11, hv11⟩
  have hX11 : Own w11 w3.heap.size 34 [.int .i64 code, .slice a1 m1 c1] := hv11.own hX10 (fun e => by have := hge2 _ e; omega)
  have hY11 : Own w11 w5.heap.size 34 [.int .i64 code, .slice a2 m2 c2] := hv11.own hY10 (fun e => by have := hlt2 _ e; omega)
  have hr111 : ResO w11 w.heap.size (.slice a1 m1 c1) rl := hv11.resO hr110 (fun b h1 h2 => by have := hge2 _ h1; have := hlt1 _ h2; omega)
  have B11 : Below w.heap.size w w11 := B10.trans (hv11.below B10.size (fun b hb => by have := hge2 b hb; omega))
  clear y0 y1 hX10 hY10 hr110 hr210 hv11 B10
  have hln := hm11.1
  rw [markedO_length] at hln
  have y0 := hY11.cell 0
  have y1 := hY11.cell 1
  simp only [List.getElem?_cons_zero, List.getElem?_cons_succ] at y0 y1
  go_wp2_with fail
  refine (heldIntsResultO_any code (.slice a2 m2 c2) _ rl.length 1 _ hm11 (by decide) (by decide) hln).mono ?_
  rintro e w12 ⟨rfl, hb12⟩
  have hX12 := hX11.below hb12 hX11.lt
  have hY12 := hY11.below hb12 hY11.lt
  have hr112 := hr111.below hb12
  have hm12 := hm11.below hb12
  have B12 : Below w.heap.size w w12 := B11.trans (hb12.mono B11.size)
  have d12 : decide ((1 : Int) + (rl.length : Int) < 0) = false := decide_eq_false (by omega)
  clear y0 y1 hX11 hY11 hr111 hm11 hb12 B11
  go_wp2_with fail
  refine (Co.to2_arg a cap l _ ((unhide HA).below B12) hn (unhide hsz)).mono ?_
  rintro e w13 ⟨rfl, ho13, _, hb13⟩
  have hX13 := hX12.below hb13 hX12.lt
  have hY13 := hY12.below hb13 hY12.lt
  have hr113 := hr112.below hb13
  have hm13 := hm12.below hb13
  have B13 : Below w.heap.size w w13 := B12.trans (hb13.mono B12.size)
  clear hb13 hX12 hY12 hr112 hm12 B12
  go_wp2_with fail
  refine ((unhide HI) _ _ ho13.row ho13.lt).mono ?_
  rintro e w14 ⟨s3, rfl, hr314, hb14⟩
  have hr314 : ResO w14 _ s3 rl := hr314
  have hX14 := hX13.below hb14 hX13.lt
  have hY14 := hY13.below hb14 hY13.lt
  have hr114 := hr113.below hb14
  have hm14 := hm13.below hb14
  have B14 : Below w.heap.size w w14 := B13.trans (hb14.mono B13.size)
  clear hb14 hX13 hY13 ho13 hr113 hm13 B13
  obtain ⟨a3, m3, c3, rfl⟩ := hr314.shape
  have x0 : ∀ o, (w14.alloc o).cell? ⟨w3.heap.size, 0, none⟩ = some (.int .i64 code) := fun o => (hX14.alloc o).cell 0
  have x1 : ∀ o, (w14.alloc o).cell? ⟨w3.heap.size, 1, none⟩ = some (.slice a1 m1 c1) := fun o => (hX14.alloc o).cell 1
  go_wp2_with fail
  refine (eqIntsResultO_any code (.slice a3 m3 c3) (.slice a1 m1 c1) _ _ rl _ (hr314.alloc _) (hr114.alloc _)).mono ?_
  rintro e w15 ⟨rfl, hb15⟩
  have hY15 := (hY14.alloc _).below hb15 (by have := hY14.lt; simp; omega)
  have hm15 := (hm14.alloc _).below hb15
  have B15 : Below w.heap.size w w15 := (B14.alloc B14.size _).trans (hb15.mono (by simp; have := B14.size; omega))
  clear x0 x1 hX14 hY14 hr114 hm14 hr314 hb15 B14
  have y0 := hY15.cell 0
  have y1 := hY15.cell 1
  simp only [List.getElem?_cons_zero, List.getElem?_cons_succ] at y0 y1
  go_wp2_with fail
  refine (heldIntsResultO_any code (.slice a2 m2 c2) _ rl.length 1 _ hm15 (by decide) (by decide) hln).mono ?_
  rintro e w16 ⟨rfl, hb16⟩
  have B16 : Below w.heap.size w w16 := B15.trans (hb16.mono B15.size)
  clear y0 y1 hY15 hm15 hb16 B15
  go_wp2_with fail
  go_ret
  exact ⟨rfl, B16⟩

namespace lawKindsCore
theorem own : ownKnob Try.prog.godebug = none := by kernel_rfl
theorem laidOut : laidOutB Try.prog = true := by kernel_rfl

set_option maxRecDepth 100000 in
theorem lifted (os : Os) (started : os.Started) (H : Type) (enc : TypeId × Value → H) :
    ReturnsInHanded {} Try.checked os 4 .any (Rows.fnExactKindsCoreSpec.pre6 enc Try.prog Try.f4 Rows.fnExactKindsCoreRow.domain false) (Rows.fnExactKindsCoreSpec.post enc Try.prog Try.f4 false true false false) := by
  refine returnsInHanded_of_change (C := Try.checked) own started (by kernel_rfl) Try.func4
    (ChangeSpec.witness6 (enc := enc) (C := Try.checked) false ⟨#[], #[.slice none 0 0], []⟩ 8 (by kernel_rfl) (by kernel_rfl) (by kernel_rfl) (by kernel_rfl)) ?_
  intro W base args ds gs before hval0 hW hcnd _
  have hval : ∀ (j : Nat) t v, Try.f4.params[j]? = some t → args[j]? = some v → Value.okWide Try.prog W .any base t v := hval0
  have hW' := hW
  obtain ⟨p, q, hA0, hV, rfl, hfz, hnd⟩ := hW
  have hA : DataW.TrodAll enc Try.prog W 0 (fun _ => true) true Try.f4.params.toList args.toList ds p := hA0
  rw [Try.params4] at hA hval
  obtain ⟨v0, vs0, d0, ds0, p0, q0, hargs, rfl, rfl, h0, r0⟩ := trodAll_cons hA
  obtain ⟨rfl, rfl, rfl⟩ := trodAll_nil r0
  obtain rfl : args = #[v0] := by cases args; simp_all
  obtain ⟨rfl, rfl⟩ := trodVars_none hV
  obtain ⟨a0, len0, cap0, rfl⟩ := okWide_slice Try.underlying22 (hval 0 22 v0 rfl rfl)
  have k0 := h0
  have lt0 : ∀ x ∈ p0, x.block < W.heap.size := by obtain ⟨m, hm⟩ := k0; exact DataW.trod_lt m _ _ _ hm
  obtain ⟨l0, hl0, w0⟩ : ∃ l : List Co, l.length = len0 ∧ Co.Arg W a0 cap0 l := by
    obtain ⟨fuel, hf⟩ := h0
    exact Co.open_arg hf
  subst hl0
  clear hA0 hval0
  refine (lawKindsCore_walk a0 cap0 l0 W w0).mono fun e W' ⟨he, bel⟩ => ?_
  subst he
  exact ⟨_, rfl, _, _, _, [], _, [], hW', trodAll_mk1 (shut_bool Try.underlying4 _), (trodAll_cons_mk (Below.trod laidOut (by kernel_rfl) (of_decide_eq_true (by kernel_rfl)) k0 bel lt0) trodAll_mk0), rfl, bel.frame _, fun h => by cases h⟩

theorem over : Rows.fnExactKindsCoreRow.holds Try.pinned (OpenSpec.ofChange Rows.fnExactKindsCoreSpec) :=
  OpenClaim.holds_of_wide 4 Try.f4 rfl rfl rfl rfl rfl rfl rfl ⟨rfl, rfl, rfl, rfl, rfl⟩ rfl rfl rfl rfl rfl (by kernel_rfl) Try.func4 (by kernel_rfl)
    (of_decide_eq_true (by kernel_rfl)) (by unfold Func.isWrapper; first | (rw [if_pos (by decide +kernel)]; kernel_rfl) | (rw [if_neg (by decide +kernel)]; exact ⟨rfl, rfl⟩))
    (fun os started H enc _ => lifted os started H enc)
end lawKindsCore

/-- The statement. -/
theorem lawKindsCore_holds : Rows.FnExactKindsCoreSaid := lawKindsCore.over
#print axioms lawKindsCore_holds
end Go.Proofs.Ytkjmnkbiflkpdaa
