/-
  Proved: at every argument impl.DepthOf answers as spec.DepthOf, every field, and writes nothing into its argument (laws.FnExactDepthOf returns true). No condition.
-/
import Derived.Test.YthkofafbnbjbbagArg
import Derived.Test.YthkofafbnbjbbagFaultI
import Derived.Test.YthkofafbnbjbbagEnds
import Derived.ShutString
import Derived.ChangeOld
namespace Go.Proofs.Ythkofafbnbjbbag
open Go.ChangeShapes Go.WideShapes Go.ChangeAt Go.RowKit
set_option linter.unusedVariables false

def depthOf (v : List M.Cl) : Nat := match M.walk v v.length 0 with | some (_, d) => d | none => 0
def depthOut (v : List M.Cl) : Int × Int := if M.valueFault v ≠ 0 then (M.valueFault v, 0) else (0, (depthOf v : Int))
theorem depth_bad {v : List M.Cl} (h : M.valueFault v ≠ 0) : depthOut v = (M.valueFault v, 0) := by unfold depthOut; rw [if_pos h]
theorem depth_ok {v : List M.Cl} (h : M.valueFault v = 0) : depthOut v = (0, (depthOf v : Int)) := by unfold depthOut; rw [if_neg (by simp [h])]
theorem depth_walk {v : List M.Cl} (h : M.valueFault v = 0) : M.walk v v.length 0 = some (v.length, depthOf v) ∧ depthOf v ≤ 20 := by
  obtain ⟨_, _, _, _, d, hw, hd⟩ := M.fault_zero h
  have : depthOf v = d := by unfold depthOf; rw [hw]
  rw [this]; exact ⟨hw, hd⟩

set_option maxHeartbeats 1000000 in
theorem eqIntResult_same (x y : Int) (w : World) :
    Calls Try.prog 29 #[.agg #[.int .i64 x, .int .i64 y], .agg #[.int .i64 x, .int .i64 y]] w fun e w' => e = .returned (.bool true) ∧ Below w.heap.size w w' := by
  go_enter Try.func29, Try.ntmps29
  go_wp2
  go_ret
  exact ⟨rfl, ((Below.refl _ _).alloc (Nat.le_refl _) _).alloc (by simp) _⟩

set_option maxHeartbeats 1000000 in
theorem specDepth_any (v : List M.Cl) (b off cap : Nat) (w : World) (hrow : Row w b off v) (hb : b < w.heap.size) (hn : v.length ≤ 1048576) (hcap : v.length ≤ cap) (hok : ∀ c ∈ v, c.ok) :
    Calls Try.prog 27 #[.slice (some ⟨b, off, none⟩) v.length cap] w fun e w' => e = .returned (.agg #[.int .i64 (depthOut v).1, .int .i64 (depthOut v).2]) ∧ Below w.heap.size w w' := by
  have OK := hide hok
  clear hok
  have B0 : ∀ o, Below w.heap.size w (w.alloc o) := fun o => (Below.refl _ _).alloc (Nat.le_refl _) _
  have HB0 := hide B0
  clear B0
  go_enter Try.func27, Try.ntmps27
  go_wp2_with fail
  refine (specFault_any v b off cap _ (hrow.below ((unhide HB0) _) hb) (by simp; omega) hn hcap (unhide OK)).mono ?_
  rintro e1 w1 ⟨rfl, hb1⟩
  have hR : Own w1 w.heap.size 48 [.int .i64 0, .int .i64 0] := Own.below ⟨_, heap_alloc_new _ _, rfl⟩ hb1 (by simp)
  have B1 : Below w.heap.size w w1 := ((unhide HB0) _).trans (hb1.mono (by simp))
  have r0 := hR.cell 0
  have r1 := hR.cell 1
  have z0 := hR.frozen 0
  have z1 := hR.frozen 1
  simp only [List.getElem?_cons_zero, List.getElem?_cons_succ] at r0 r1
  generalize hq : M.valueFault v = q
  by_cases hz : q = 0
  · subst hz
    have fin := hide (depth_ok hq)
    obtain ⟨hw, hd⟩ := depth_walk hq
    have h1 := (M.fault_zero hq).1
    have h2 := (M.fault_zero hq).2.1
    have HW := hide hw
    have IH := hide (l1Shape_any v b off cap h2 hcap (unhide OK) v.length (by omega))
    clear hq hw r0 r1 z0 z1
    go_wp2_with fail
    refine ((unhide IH) 0 0 _ (by omega) (by omega) (by omega) (by omega) (hrow.below B1 hb) (Nat.lt_of_lt_of_le hb B1.size)).mono ?_
    rintro e2 w2 ⟨rfl, hb2⟩
    rw [unhide HW]
    simp only [shOut]
    have hR2 := hR.below hb2 hR.lt
    have B2 : Below w.heap.size w w2 := B1.trans (hb2.mono B1.size)
    have r0 := hR2.cell 0
    have r1 := hR2.cell 1
    have z0 := hR2.frozen 0
    have z1 := hR2.frozen 1
    simp only [List.getElem?_cons_zero, List.getElem?_cons_succ] at r0 r1
    generalize depthOf v = d at *
    go_wp2_with fail
    refine bodyPost_ret (v := .agg #[.int .i64 0, .int .i64 d]) (by simp [results, Try.results27, go_sem, r0, r1]) rfl ⟨by rw [unhide fin], ?_⟩
    exact (B2.setCell (Nat.le_refl _) _).setCell (Nat.le_refl _) _
  · have fin := hide ((depth_bad (v := v) (by rw [hq]; exact hz)).trans (by rw [hq]))
    have hz' : (q == 0) = false := by simp [hz]
    clear hq
    go_wp2_with fail
    refine bodyPost_ret (v := .agg #[.int .i64 q, .int .i64 0]) (by simp [results, Try.results27, go_sem, r0, r1]) rfl ⟨by rw [unhide fin], ?_⟩
    exact (B1.setCell (Nat.le_refl _) _).setCell (Nat.le_refl _) _

/-- The depth, taken out of what impl.walkValue answers. -/
theorem field_one (a b : Int) (c : Bool) (w : World) : (Instr.field 71 (.agg #[.int .i64 a, .int .i64 b, .bool c]) 1).run Try.prog w = .ok (.int .i64 b) w := by kernel_rfl

set_option maxHeartbeats 1000000 in
theorem implDepth_any (v : List M.Cl) (b off cap : Nat) (w : World) (hrow : Row w b off v) (hb : b < w.heap.size) (hn : v.length ≤ 1048576) (hcap : v.length ≤ cap) (hok : ∀ c ∈ v, c.ok) :
    Calls Try.prog 28 #[.slice (some ⟨b, off, none⟩) v.length cap] w fun e w' => e = .returned (.agg #[.int .i64 (depthOut v).1, .int .i64 (depthOut v).2]) ∧ Below w.heap.size w w' := by
  have OK := hide hok
  clear hok
  have B0 : ∀ o, Below w.heap.size w (w.alloc o) := fun o => (Below.refl _ _).alloc (Nat.le_refl _) _
  have HB0 := hide B0
  clear B0
  go_enter Try.func28, Try.ntmps28
  go_wp2_with fail
  refine (implFault_any v b off cap _ (hrow.below ((unhide HB0) _) hb) (by simp; omega) hn hcap (unhide OK)).mono ?_
  rintro e1 w1 ⟨rfl, hb1⟩
  have hR : Own w1 w.heap.size 48 [.int .i64 0, .int .i64 0] := Own.below ⟨_, heap_alloc_new _ _, rfl⟩ hb1 (by simp)
  have B1 : Below w.heap.size w w1 := ((unhide HB0) _).trans (hb1.mono (by simp))
  have r0 := hR.cell 0
  have r1 := hR.cell 1
  have z0 := hR.frozen 0
  have z1 := hR.frozen 1
  simp only [List.getElem?_cons_zero, List.getElem?_cons_succ] at r0 r1
  generalize hq : M.valueFault v = q
  by_cases hz : q = 0
  · subst hz
    have fin := hide (depth_ok hq)
    obtain ⟨hw, hd⟩ := depth_walk hq
    have h1 := (M.fault_zero hq).1
    have h2 := (M.fault_zero hq).2.1
    have HW := hide hw
    have IH := hide (walk_any v b off cap h2 hcap (unhide OK) v.length (by omega))
    clear hq hw r0 r1 z0 z1
    go_wp2_with fail
    refine ((unhide IH) 0 _ (by omega) (by omega) (hrow.below B1 hb) (Nat.lt_of_lt_of_le hb B1.size)).mono ?_
    rintro e2 w2 ⟨rfl, hb2⟩
    rw [unhide HW]
    simp only [wkOut]
    have hR2 := hR.below hb2 hR.lt
    have B2 : Below w.heap.size w w2 := B1.trans (hb2.mono B1.size)
    have r0 := hR2.cell 0
    have r1 := hR2.cell 1
    have z0 := hR2.frozen 0
    have z1 := hR2.frozen 1
    simp only [List.getElem?_cons_zero, List.getElem?_cons_succ] at r0 r1
    generalize depthOf v = d at *
    have hfd := field_one (v.length : Int) (d : Int) true
    go_wp2_with fail
    refine bodyPost_ret (v := .agg #[.int .i64 0, .int .i64 d]) (by simp [results, Try.results28, go_sem, r0, r1]) rfl ⟨by rw [unhide fin], ?_⟩
    exact (B2.setCell (Nat.le_refl _) _).setCell (Nat.le_refl _) _
  · have fin := hide ((depth_bad (v := v) (by rw [hq]; exact hz)).trans (by rw [hq]))
    have hz' : (q == 0) = false := by simp [hz]
    clear hq
    go_wp2_with fail
    refine bodyPost_ret (v := .agg #[.int .i64 q, .int .i64 0]) (by simp [results, Try.results28, go_sem, r0, r1]) rfl ⟨by rw [unhide fin], ?_⟩
    exact (B1.setCell (Nat.le_refl _) _).setCell (Nat.le_refl _) _

set_option maxHeartbeats 1000000 in
theorem lawDepthOf_walk (a : Option Addr) (cap : Nat) (l : List M.Cl) (w : World) (hA : Cells w a cap l) :
    Calls Try.prog 6 #[.slice a l.length cap] w fun e w' => e = .returned (.bool true) ∧ Below w.heap.size w w' := by
  have HA := hide hA
  clear hA
  go_enter Try.func6, Try.ntmps6
  go_wp2_with fail
  refine (sz_arg a cap l _ _ (unhide HA) (by decide) (by decide)).mono ?_
  rintro e w1 ⟨r, rfl, hr, hb1⟩
  rcases hr with hr | ⟨hr0, hr1⟩
  · go_wp2_with fail
    go_ret
    exact ⟨rfl, hb1⟩
  have hn : l.length ≤ 1048576 := by omega
  have hok := hide (unhide HA).2.2.1
  have A1 := hide ((unhide HA).below hb1)
  clear hr1
  go_wp2_with fail
  refine (to_arg a cap l _ (unhide A1) hn).mono ?_
  rintro e w2 ⟨rfl, ho2, hb2⟩
  have B2 : Below w.heap.size w w2 := hb1.trans (hb2.mono hb1.size)
  go_wp2_with fail
  refine (specDepth_any l w1.heap.size 0 l.length _ ho2.row ho2.lt hn (Nat.le_refl _) (unhide hok)).mono ?_
  rintro e w3 ⟨rfl, hb3⟩
  have B3 : Below w.heap.size w w3 := B2.trans (hb3.mono B2.size)
  clear hb1 hb2 hb3 ho2 A1 B2
  generalize hx : (depthOut l).1 = x
  generalize hy : (depthOut l).2 = y
  have HX := hide hx
  have HY := hide hy
  clear hx hy
  go_wp2_with fail
  have B3' : ∀ o, Below w.heap.size w (w3.alloc o) := fun o => B3.alloc B3.size o
  refine (to_arg a cap l _ ((unhide HA).below (B3' _)) hn).mono ?_
  rintro e w4 ⟨rfl, ho4, hb4⟩
  have hX : Own w4 w3.heap.size 48 [.int .i64 x, .int .i64 y] := Own.below ⟨_, heap_alloc_new _ _, rfl⟩ hb4 (by simp)
  have B4 : Below w.heap.size w w4 := (B3' _).trans (hb4.mono (by simp; have := B3.size; omega))
  clear B3' hb4
  simp only [World.size_alloc] at ho4 ⊢
  go_wp2_with fail
  refine (implDepth_any l (w3.heap.size + 1) 0 l.length _ ho4.row ho4.lt hn (Nat.le_refl _) (unhide hok)).mono ?_
  rintro e w5 ⟨rfl, hb5⟩
  rw [unhide HX, unhide HY]
  have B5 : Below w.heap.size w w5 := B4.trans (hb5.mono B4.size)
  have ho5 := ho4.below hb5 ho4.lt
  have hX5 := hX.below hb5 hX.lt
  clear hb5 ho4 B4 hX
  have x0 : ∀ o, (w5.alloc o).cell? ⟨w3.heap.size, 0, none⟩ = some (.int .i64 x) := fun o => (hX5.alloc o).cell 0
  have x1 : ∀ o, (w5.alloc o).cell? ⟨w3.heap.size, 1, none⟩ = some (.int .i64 y) := fun o => (hX5.alloc o).cell 1
  go_wp2_with fail
  refine (eqIntResult_same x y _).mono ?_
  rintro e w6 ⟨rfl, hb6⟩
  have B6 : Below w.heap.size w w6 := (B5.alloc B5.size _).trans (hb6.mono (by simp; have := B5.size; omega))
  have ho6 : OwnRow w6 (w3.heap.size + 1) 56 l := by
    obtain ⟨xs, o1, o2⟩ := ho5
    exact OwnRow.below ⟨xs, o1.alloc _, o2⟩ hb6 (by have := o1.lt; simp; omega)
  clear hb6 ho5 B5 hX5 x0 x1
  go_wp2_with fail
  refine (to_arg a cap l _ ((unhide HA).below B6) hn).mono ?_
  rintro e w7 ⟨rfl, ho7, hb7⟩
  have B7 : Below w.heap.size w w7 := B6.trans (hb7.mono B6.size)
  have ho7' := ho6.below hb7 ho6.lt
  go_wp2_with fail
  refine (eqCellS_same (w3.heap.size + 1) 0 l.length w6.heap.size 0 l.length l _ ho7'.row ho7'.lt ho7.row ho7.lt hn (Nat.le_refl _) (Nat.le_refl _)).mono ?_
  rintro e w8 ⟨rfl, hb8⟩
  have B8 : Below w.heap.size w w8 := B7.trans (hb8.mono B7.size)
  clear hb7 hb8 ho6 ho7 ho7' B6 B7
  go_wp2_with fail
  go_ret
  exact ⟨rfl, B8⟩

namespace lawDepthOf
theorem own : ownKnob Try.prog.godebug = none := by kernel_rfl
theorem laidOut : laidOutB Try.prog = true := by kernel_rfl

set_option maxRecDepth 100000 in
theorem lifted (os : Os) (started : os.Started) (H : Type) (enc : TypeId × Value → H) :
    ReturnsInHanded {} Try.checked os 6 .any (Rows.fnExactDepthOfSpec.pre6 enc Try.prog Try.f6 Rows.fnExactDepthOfRow.domain false) (Rows.fnExactDepthOfSpec.post enc Try.prog Try.f6 false true false false) := by
  refine returnsInHanded_of_change (C := Try.checked) own started (by kernel_rfl) Try.func6
    (ChangeSpec.witness6 (enc := enc) (C := Try.checked) false ⟨#[], #[.slice none 0 0], []⟩ 8 (by kernel_rfl) (by kernel_rfl) (by kernel_rfl) (by kernel_rfl)) ?_
  intro W base args ds gs before hval0 hW hcnd _
  have hval : ∀ (j : Nat) t v, Try.f6.params[j]? = some t → args[j]? = some v → Value.okWide Try.prog W .any base t v := hval0
  have hW' := hW
  obtain ⟨p, q, hA0, hV, rfl, hfz, hnd⟩ := hW
  have hA : DataW.TrodAll enc Try.prog W 0 (fun _ => true) true Try.f6.params.toList args.toList ds p := hA0
  rw [Try.params6] at hA hval
  obtain ⟨v0, vs0, d0, ds0, p0, q0, hargs, rfl, rfl, h0, r0⟩ := trodAll_cons hA
  obtain ⟨rfl, rfl, rfl⟩ := trodAll_nil r0
  obtain rfl : args = #[v0] := by cases args; simp_all
  obtain ⟨rfl, rfl⟩ := trodVars_none hV
  obtain ⟨a0, len0, cap0, rfl⟩ := okWide_slice Try.underlying41 (hval 0 41 v0 rfl rfl)
  have k0 := h0
  have lt0 : ∀ x ∈ p0, x.block < W.heap.size := by obtain ⟨m, hm⟩ := k0; exact DataW.trod_lt m _ _ _ hm
  obtain ⟨l0, hl0, w0⟩ : ∃ l : List M.Cl, l.length = len0 ∧ Cells W a0 cap0 l := by
    obtain ⟨fuel, hf⟩ := h0
    exact open_cells hf lt0
  subst hl0
  clear hA0 hval0
  refine (lawDepthOf_walk a0 cap0 l0 W w0).mono fun e W' ⟨he, bel⟩ => ?_
  subst he
  exact ⟨_, rfl, _, _, _, [], _, [], hW', trodAll_mk1 (shut_bool Try.underlying4 _), (trodAll_cons_mk (Below.trod laidOut (by kernel_rfl) (of_decide_eq_true (by kernel_rfl)) k0 bel lt0) trodAll_mk0), rfl, bel.frame _, fun h => by cases h⟩

theorem over : Rows.fnExactDepthOfRow.holds Try.pinned (OpenSpec.ofChange Rows.fnExactDepthOfSpec) :=
  OpenClaim.holds_of_wide 6 Try.f6 rfl rfl rfl rfl rfl rfl rfl ⟨rfl, rfl, rfl, rfl, rfl⟩ rfl rfl rfl rfl rfl (by kernel_rfl) Try.func6 (by kernel_rfl)
    (of_decide_eq_true (by kernel_rfl)) (by unfold Func.isWrapper; first | (rw [if_pos (by decide +kernel)]; kernel_rfl) | (rw [if_neg (by decide +kernel)]; exact ⟨rfl, rfl⟩))
    (fun os started H enc _ => lifted os started H enc)
end lawDepthOf

/-- The statement. -/
theorem lawDepthOf_holds : Rows.FnExactDepthOfSaid := lawDepthOf.over
#print axioms lawDepthOf_holds
end Go.Proofs.Ythkofafbnbjbbag
