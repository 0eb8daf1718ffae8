/-
  Proved: at every argument impl.CodeFault answers as spec.CodeFault, every field, writes nothing into its arguments, and its answer owns its memory (laws.FnExactCodeFault returns true), where the program's listed table holds what the program's text lays in it (the card ties that). No other condition.
-/
import Derived.Test.YtfmljlhcaimafaaDoorInC
import Derived.Test.YtfmljlhcaimafaaDoorInQ
import Derived.Test.YtfmljlhcaimafaaDoorInT
import Derived.Test.YtfmljlhcaimafaaDoorTie
import Derived.Test.YtfmljlhcaimafaaDoorCards
import Derived.ProofKit
import Derived.OpenShut
import Derived.ShutString
import Derived.ChangeOld
import Derived.LaidMore
import Derived.Stop.Joined
import Derived.Stop.LaidErr
import Derived.MakeChecks
import Derived.SevenTiedAt
import Derived.Lib.SmallJoins
import Derived.Lib.AppendIntMem
import Derived.Lib.LaidTab
import Derived.OpenVars
import Derived.ChangeVars
namespace Go.Proofs.YtfmljlhcaimafaaDoor
open Go.ChangeShapes Go.WideShapes Go.ChangeAt Go.RowKit
open Go.ChangeMaps (open_string shut_string)
set_option linter.unusedVariables false
set_option linter.unusedSimpArgs false


set_option maxHeartbeats 1000000 in
theorem eqInS_none (w : World) : Calls Tryd.prog 12 #[.slice none 0 0, .slice none 0 0] w fun e w' => e = .returned (.bool true) ∧ w' = w := by
  go_enter Tryd.func12, Tryd.ntmps12
  go_wp2_with fail
  refine wp_loop_rounds 1 ?_
  rw [rounds_succ]
  go_wp2_with fail
  go_ret
  exact ⟨rfl, rfl⟩
set_option maxHeartbeats 1000000 in
theorem eqCode_same (x y : Int) (w : World) : Calls Tryd.prog 11 #[.agg #[.int .i64 x, .int .i64 y, .slice none 0 0, .int .i64 0], .agg #[.int .i64 x, .int .i64 y, .slice none 0 0, .int .i64 0]] w fun e w' => e = .returned (.bool true) ∧ Below w.heap.size w w' := by
  have HB : Hid (∀ o o', Below w.heap.size w ((w.alloc o).alloc o')) := fun o o' => ((Below.refl _ _).alloc (Nat.le_refl _) o).alloc (by simp [go_sem] <;> omega) o'
  go_enter Tryd.func11, Tryd.ntmps11
  go_wp2_with fail
  refine (eqInS_none _).mono ?_
  rintro e w2 ⟨rfl, hw2⟩
  rw [hw2]
  clear hw2
  go_wp2_with fail
  go_ret
  exact ⟨rfl, HB.out _ _⟩
set_option maxHeartbeats 1000000 in
theorem markInS_none (k : Int) (w : World) : Calls Tryd.prog 13 #[.slice none 0 0, .int .i64 k] w fun e w' => e = .returned (.int .i64 k) ∧ w' = w := by
  go_enter Tryd.func13, Tryd.ntmps13
  go_wp2_with fail
  refine wp_loop_rounds 1 ?_
  rw [rounds_succ]
  go_wp2_with fail
  go_ret
  exact ⟨rfl, rfl⟩
set_option maxHeartbeats 1000000 in
theorem heldInS_none (k : Int) (w : World) : Calls Tryd.prog 35 #[.slice none 0 0, .int .i64 k] w fun e w' => e = .returned (.int .i64 k) ∧ w' = w := by
  go_enter Tryd.func35, Tryd.ntmps35
  go_wp2_with fail
  refine wp_loop_rounds 1 ?_
  rw [rounds_succ]
  go_wp2_with fail
  go_ret
  exact ⟨rfl, rfl⟩
set_option maxHeartbeats 1000000 in
theorem markCode_none (x y : Int) (w : World) : Calls Tryd.prog 14 #[.agg #[.int .i64 x, .int .i64 y, .slice none 0 0, .int .i64 0], .int .i64 1] w fun e w' => e = .returned (.int .i64 1) ∧ Below w.heap.size w w' := by
  have HB : Hid (∀ o, Below w.heap.size w (w.alloc o)) := fun o => (Below.refl _ _).alloc (Nat.le_refl _) o
  go_enter Tryd.func14, Tryd.ntmps14
  go_wp2_with fail
  refine (markInS_none _ _).mono ?_
  rintro e w2 ⟨rfl, hw2⟩
  rw [hw2]
  clear hw2
  go_wp2_with fail
  go_ret
  exact ⟨rfl, HB.out _⟩
set_option maxHeartbeats 1000000 in
theorem heldCode_none (x y : Int) (w : World) : Calls Tryd.prog 15 #[.agg #[.int .i64 x, .int .i64 y, .slice none 0 0, .int .i64 0], .int .i64 1] w fun e w' => e = .returned (.int .i64 1) ∧ Below w.heap.size w w' := by
  have HB : Hid (∀ o, Below w.heap.size w (w.alloc o)) := fun o => (Below.refl _ _).alloc (Nat.le_refl _) o
  go_enter Tryd.func15, Tryd.ntmps15
  go_wp2_with fail
  refine (heldInS_none _ _).mono ?_
  rintro e w2 ⟨rfl, hw2⟩
  rw [hw2]
  clear hw2
  go_wp2_with fail
  go_ret
  exact ⟨rfl, HB.out _⟩
set_option maxRecDepth 100000 in
set_option maxHeartbeats 8000000 in
theorem lawCodeFault_walk (a : Option Addr) (cap : Nat) (l : List Ic) (rg : Int) (w : World) (hA : Ic.Arg w a cap l) (hS : Shp w) :
    Calls Tryd.prog 3 #[.slice a l.length cap, .int .i64 rg] w fun e w' => e = .returned (.bool true) ∧ Below w.heap.size w w' := by
  have HA := hide hA
  have HS := hide hS
  clear hA hS
  go_enter Tryd.func3, Tryd.ntmps3
  go_wp2_with fail
  refine (Ic.sz2_arg a cap l _ _ (unhide HA) (by decide) (by decide)).mono ?_
  rintro e w1 ⟨r, rfl, hr, hb1⟩
  rcases hr with hr | ⟨hr0, hn, htt⟩
  · go_wp2_with fail
    go_ret
    exact ⟨rfl, hb1⟩
  have hsz := hide (show ∀ i, i < l.length → (l.getD i Ic.zero).val.length ≤ 1048576 from fun i hi => Nat.le_trans (Ic.tot_one l i hi) htt)
  have hok := hide (unhide HA).2.2.1
  have HSP := hide (fun (b : Nat) (W : World) (hr : Ic.LaidRow W b l) => show Calls Tryd.prog 8 #[.slice (some ⟨b, 0, none⟩) l.length l.length, .int .i64 rg] W (fun e w' => e = .returned (.agg #[.int .i64 (Ic.fault l rg).1, .int .i64 (Ic.fault l rg).2, .slice none 0 0, .int .i64 0]) ∧ Below W.heap.size W w') from specCode_any b l rg W hr.row hr.lt (unhide hsz) (unhide hok) hn)
  have HIM := hide (fun (b : Nat) (W : World) (hr : Ic.LaidRow W b l) (hB : Below w.heap.size w W) => show Calls Tryd.prog 10 #[.slice (some ⟨b, 0, none⟩) l.length l.length, .int .i64 rg] W (fun e w' => e = .returned (.agg #[.int .i64 (Ic.fault l rg).1, .int .i64 (Ic.fault l rg).2, .slice none 0 0, .int .i64 0]) ∧ Below W.heap.size W w') from implCode_any b l rg W hr.row hr.lt (unhide hsz) (unhide hok) hn ((unhide HS).below hB))
  obtain ⟨x, y, hxy⟩ : ∃ x y, Ic.fault l rg = (x, y) := ⟨_, _, rfl⟩
  rw [hxy] at HSP HIM
  clear hxy
  simp only at HSP HIM
  go_wp2_with fail
  refine (Ic.to2_arg a cap l _ ((unhide HA).below hb1) hn (unhide hsz)).mono ?_
  rintro e w2 ⟨rfl, ho2, _, hb2⟩
  have B2 : Below w.heap.size w w2 := hb1.trans (hb2.mono hb1.size)
  go_wp2_with fail
  refine ((unhide HSP) _ _ ho2).mono ?_
  rintro e w3 ⟨rfl, hb3⟩
  have B3 : Below w.heap.size w w3 := B2.trans (hb3.mono B2.size)
  clear hb1 hb2 hb3 ho2 B2
  obtain ⟨w4, hw4⟩ : ∃ w4, w4 = w3.alloc (.cells #[.int .i64 x, .int .i64 y, .slice none 0 0, .int .i64 0] 26) := ⟨_, rfl⟩
  have X4 : Own w4 w3.heap.size 26 [.int .i64 x, .int .i64 y, .slice none 0 0, .int .i64 0] := by rw [hw4]; exact ⟨_, heap_alloc_new _ _, rfl⟩
  have B4 : Below w.heap.size w w4 := by rw [hw4]; exact B3.alloc B3.size _
  clear B3
  go_wp2_with fail
  rw [← hw4]
  clear hw4
  refine (Ic.to2_arg a cap l _ ((unhide HA).below B4) hn (unhide hsz)).mono ?_
  rintro e w5 ⟨rfl, ho5, _, hb5⟩
  have B5 : Below w.heap.size w w5 := B4.trans (hb5.mono B4.size)
  have X5 := X4.below hb5 X4.lt
  have hx45 := X4.lt
  clear hb5 X4
  go_wp2_with fail
  refine ((unhide HIM) _ _ ho5 B5).mono ?_
  rintro e w6 ⟨rfl, hb6⟩
  have B6 : Below w.heap.size w w6 := B5.trans (hb6.mono B5.size)
  have X6 := X5.below hb6 X5.lt
  have ho6 := ho5.below hb6
  clear hb6 X5 ho5 B5
  obtain ⟨w7, hw7⟩ : ∃ w7, w7 = w6.alloc (.cells #[.int .i64 x, .int .i64 y, .slice none 0 0, .int .i64 0] 26) := ⟨_, rfl⟩
  have Y7 : Own w7 w6.heap.size 26 [.int .i64 x, .int .i64 y, .slice none 0 0, .int .i64 0] := by rw [hw7]; exact ⟨_, heap_alloc_new _ _, rfl⟩
  have X7 : Own w7 w3.heap.size 26 [.int .i64 x, .int .i64 y, .slice none 0 0, .int .i64 0] := by rw [hw7]; exact X6.alloc _
  have B7 : Below w.heap.size w w7 := by rw [hw7]; exact B6.alloc B6.size _
  have ho7 : Ic.LaidRow w7 w4.heap.size l := by rw [hw7]; exact ho6.below ((Below.refl _ _).alloc (Nat.le_refl _) _)
  have x0 : ∀ o, (w6.alloc o).cell? ⟨w3.heap.size, 0, none⟩ = some (.int .i64 x) := fun o => (X6.alloc o).cell 0
  have x1 : ∀ o, (w6.alloc o).cell? ⟨w3.heap.size, 1, none⟩ = some (.int .i64 y) := fun o => (X6.alloc o).cell 1
  have x2 : ∀ o, (w6.alloc o).cell? ⟨w3.heap.size, 2, none⟩ = some (.slice none 0 0) := fun o => (X6.alloc o).cell 2
  have x3 : ∀ o, (w6.alloc o).cell? ⟨w3.heap.size, 3, none⟩ = some (.int .i64 0) := fun o => (X6.alloc o).cell 3
  clear X6 ho6 B6
  go_wp2_with fail
  rw [← hw7]
  clear hw7 x0 x1 x2 x3
  refine (eqCode_same x y _).mono ?_
  rintro e w8 ⟨rfl, hb8⟩
  have B8 : Below w.heap.size w w8 := B7.trans (hb8.mono B7.size)
  have X8 := X7.below hb8 X7.lt
  have Y8 := Y7.below hb8 Y7.lt
  have ho8 := ho7.below hb8
  clear hb8 X7 Y7 ho7 B7
  go_wp2_with fail
  refine (Ic.to2_arg a cap l _ ((unhide HA).below B8) hn (unhide hsz)).mono ?_
  rintro e w9 ⟨rfl, ho9, _, hb9⟩
  have B9 : Below w.heap.size w w9 := B8.trans (hb9.mono B8.size)
  have X9 := X8.below hb9 X8.lt
  have Y9 := Y8.below hb9 Y8.lt
  have ho9' := ho8.below hb9
  clear hb9 X8 Y8 ho8 B8
  go_wp2_with fail
  refine (Ic.eqS_same w4.heap.size w8.heap.size l _ ho9'.row ho9'.lt ho9.row ho9.lt hn (unhide hsz)).mono ?_
  rintro e w10 ⟨rfl, hb10⟩
  have B10 : Below w.heap.size w w10 := B9.trans (hb10.mono B9.size)
  have X10 := X9.below hb10 X9.lt
  have Y10 := Y9.below hb10 Y9.lt
  have ho10 := ho9'.below hb10
  clear hb10 X9 Y9 ho9 ho9' B9
  go_wp2_with fail
  refine (Ic.mark_arg w4.heap.size l _ ho10 hn htt).mono ?_
  rintro e w11 ⟨r9, rfl, hr90, hbl, hkt⟩
  have B11 : Below w.heap.size w w11 := B10.trans (hbl.mono B4.size)
  have X11 := hkt.own X10 (by decide) (by decide)
  have Y11 := hkt.own Y10 (by decide) (by decide)
  have d9 : decide (r9 < 0) = false := decide_eq_false (by omega)
  have x0 := X11.cell 0
  have x1 := X11.cell 1
  have x2 := X11.cell 2
  have x3 := X11.cell 3
  simp only [List.getElem?_cons_zero, List.getElem?_cons_succ] at x0 x1 x2 x3
  have y0 := Y11.cell 0
  have y1 := Y11.cell 1
  have y2 := Y11.cell 2
  have y3 := Y11.cell 3
  simp only [List.getElem?_cons_zero, List.getElem?_cons_succ] at y0 y1 y2 y3
  clear hbl hkt X10 Y10 ho10 B10
  go_wp2_with fail
  refine (eqCode_same x y _).mono ?_
  rintro e w12 ⟨rfl, hb12⟩
  have B12 : Below w.heap.size w w12 := B11.trans (hb12.mono B11.size)
  have X12 := X11.below hb12 X11.lt
  have Y12 := Y11.below hb12 Y11.lt
  clear hb12 X11 Y11 B11 x0 x1 x2 x3 y0 y1 y2 y3 d9
  have y0 := Y12.cell 0
  have y1 := Y12.cell 1
  have y2 := Y12.cell 2
  have y3 := Y12.cell 3
  simp only [List.getElem?_cons_zero, List.getElem?_cons_succ] at y0 y1 y2 y3
  go_wp2_with fail
  refine (markCode_none x y _).mono ?_
  rintro e w13 ⟨rfl, hb13⟩
  have B13 : Below w.heap.size w w13 := B12.trans (hb13.mono B12.size)
  have X13 := X12.below hb13 X12.lt
  have Y13 := Y12.below hb13 Y12.lt
  clear hb13 X12 Y12 B12 y0 y1 y2 y3
  have y0 := Y13.cell 0
  have y1 := Y13.cell 1
  have y2 := Y13.cell 2
  have y3 := Y13.cell 3
  simp only [List.getElem?_cons_zero, List.getElem?_cons_succ] at y0 y1 y2 y3
  go_wp2_with fail
  refine (heldCode_none x y _).mono ?_
  rintro e w14 ⟨rfl, hb14⟩
  have B14 : Below w.heap.size w w14 := B13.trans (hb14.mono B13.size)
  have X14 := X13.below hb14 X13.lt
  have Y14 := Y13.below hb14 Y13.lt
  clear hb14 X13 Y13 B13 y0 y1 y2 y3
  go_wp2_with fail
  refine (Ic.to2_arg a cap l _ ((unhide HA).below B14) hn (unhide hsz)).mono ?_
  rintro e w15 ⟨rfl, ho15, _, hb15⟩
  have B15 : Below w.heap.size w w15 := B14.trans (hb15.mono B14.size)
  have X15 := X14.below hb15 X14.lt
  have Y15 := Y14.below hb15 Y14.lt
  clear hb15 X14 Y14 B14
  go_wp2_with fail
  refine ((unhide HIM) _ _ ho15 B15).mono ?_
  rintro e w16 ⟨rfl, hb16⟩
  have B16 : Below w.heap.size w w16 := B15.trans (hb16.mono B15.size)
  have X16 := X15.below hb16 X15.lt
  have Y16 := Y15.below hb16 Y15.lt
  clear hb16 X15 Y15 ho15 B15
  obtain ⟨w17, hw17⟩ : ∃ w17, w17 = w16.alloc (.cells #[.int .i64 x, .int .i64 y, .slice none 0 0, .int .i64 0] 26) := ⟨_, rfl⟩
  have Y17 : Own w17 w6.heap.size 26 [.int .i64 x, .int .i64 y, .slice none 0 0, .int .i64 0] := by rw [hw17]; exact Y16.alloc _
  have B17 : Below w.heap.size w w17 := by rw [hw17]; exact B16.alloc B16.size _
  have x0 : ∀ o, (w16.alloc o).cell? ⟨w3.heap.size, 0, none⟩ = some (.int .i64 x) := fun o => (X16.alloc o).cell 0
  have x1 : ∀ o, (w16.alloc o).cell? ⟨w3.heap.size, 1, none⟩ = some (.int .i64 y) := fun o => (X16.alloc o).cell 1
  have x2 : ∀ o, (w16.alloc o).cell? ⟨w3.heap.size, 2, none⟩ = some (.slice none 0 0) := fun o => (X16.alloc o).cell 2
  have x3 : ∀ o, (w16.alloc o).cell? ⟨w3.heap.size, 3, none⟩ = some (.int .i64 0) := fun o => (X16.alloc o).cell 3
  clear X16 Y16 B16
  go_wp2_with fail
  rw [← hw17]
  clear hw17 x0 x1 x2 x3
  refine (eqCode_same x y _).mono ?_
  rintro e w18 ⟨rfl, hb18⟩
  have B18 : Below w.heap.size w w18 := B17.trans (hb18.mono B17.size)
  have Y18 := Y17.below hb18 Y17.lt
  clear hb18 Y17 B17
  have y0 := Y18.cell 0
  have y1 := Y18.cell 1
  have y2 := Y18.cell 2
  have y3 := Y18.cell 3
  simp only [List.getElem?_cons_zero, List.getElem?_cons_succ] at y0 y1 y2 y3
  go_wp2_with fail
  refine (heldCode_none x y _).mono ?_
  rintro e w19 ⟨rfl, hb19⟩
  have B19 : Below w.heap.size w w19 := B18.trans (hb19.mono B18.size)
  clear hb19 Y18 B18 y0 y1 y2 y3
  go_wp2_with fail
  go_ret
  exact ⟨rfl, B19⟩

namespace lawCodeFault
theorem own : ownKnob Tryd.prog.godebug = none := by kernel_rfl
theorem laidOut : laidOutB Tryd.prog = true := by kernel_rfl
/-- What the condition gives the walk: the table. -/
theorem of_laid {W : World} (h : laidMetH Tryd.prog Rows.fnExactCodeFaultRow.laid W) : Shp W := by
  rw [MakeChecks.laidMetH_plain _ _ _ (by kernel_rfl)] at h
  exact Ic.shp_of h

/-- The door's own heap meets the condition. -/
theorem door_met (os : Os) (args : Array Value) : laidMetH Tryd.prog Rows.fnExactCodeFaultRow.laid ((World.doorLaid Tryd.prog 400 os).forCall (fun _ _ => 0) ⟨#[], args, []⟩).memory :=
  laidMetH_of_parts3 (fuel := 8) (laidMet_of_run' 8 (by kernel_rfl) (by kernel_rfl)) (by kernel_rfl) (by kernel_rfl)

set_option maxRecDepth 100000 in
theorem lifted (os : Os) (started : os.Started) (H : Type) (enc : TypeId × Value → H) :
    ReturnsInHanded {} Tryd.checked os 3 .any (fun w args => (Rows.fnExactCodeFaultSpec.pre enc Tryd.prog Tryd.f3 [] false w args ∧ laidMetH Tryd.prog Rows.fnExactCodeFaultRow.laid w) ∧ sizedMet enc Tryd.prog Tryd.f3 (OpenSpec.ofChange Rows.fnExactCodeFaultSpec) false w args)
      (Rows.fnExactCodeFaultSpec.post enc Tryd.prog Tryd.f3 false true false false) := by
  refine returnsInHanded_of_change_and (C := Tryd.checked) (X := fun w _ => laidMetH Tryd.prog Rows.fnExactCodeFaultRow.laid w) (fun _ _ _ hh h => h.of_heap hh) own started (by kernel_rfl) Tryd.func3
    (ChangeSpec.witness_shaped (enc := enc) (C := Tryd.checked) (os := os) (X := fun w _ => laidMetH Tryd.prog Rows.fnExactCodeFaultRow.laid w) false (World.doorLaid Tryd.prog 400 os) #[.slice none 0 0, .int .i64 0] 8 rfl (World.shaped_of_RefB (by kernel_rfl) (by kernel_rfl)) (by kernel_rfl) (by kernel_rfl) (by kernel_rfl) (door_met os _)) ?_
  intro W base args ds gs before hval0 hW _ _ hL _
  have hval : ∀ (j : Nat) t v, Tryd.f3.params[j]? = some t → args[j]? = some v → Value.okWide Tryd.prog W .any base t v := hval0
  have hW' := hW
  obtain ⟨p, q, hA0, hV, rfl, hfz, hnd⟩ := hW
  have hA : DataW.TrodAll enc Tryd.prog W 0 (fun _ => true) true Tryd.f3.params.toList args.toList ds p := hA0
  rw [Tryd.params3] at hA hval
  obtain ⟨v0, vs0, d0, ds0, p0, q0, hargs, rfl, rfl, h0, r0⟩ := trodAll_cons hA
  obtain ⟨v1, vs1, d1, ds1, p1, q1, rfl, rfl, rfl, h1, r1⟩ := trodAll_cons r0
  obtain ⟨rfl, rfl, rfl⟩ := trodAll_nil r1
  obtain rfl : args = #[v0, v1] := by cases args; simp_all
  obtain ⟨d9, rfl⟩ : ∃ d9, gs = [d9] := by
    obtain ⟨_, _, _, _, d, _, hd, _⟩ := trodVars_one hV
    exact ⟨d, hd⟩
  obtain ⟨a0, len0, cap0, rfl⟩ := okWide_slice Tryd.underlying22 (hval 0 22 v0 rfl rfl)
  have k0 := h0
  have lt0 : ∀ x ∈ p0, x.block < W.heap.size := by obtain ⟨m, hm⟩ := k0; exact DataW.trod_lt m _ _ _ hm
  obtain ⟨l0, hl0, w0⟩ : ∃ l : List Ic, l.length = len0 ∧ Ic.Arg W a0 cap0 l := by
    obtain ⟨fuel, hf⟩ := h0
    exact Ic.open_arg hf
  subst hl0
  obtain ⟨a1, rfl, rfl, rfl, w1⟩ := open_int Tryd.underlying2 (hval 1 2 v1 rfl rfl) h1
  have hT := of_laid hL
  clear hA0 hval0
  refine (lawCodeFault_walk a0 cap0 l0 a1 W w0 hT).mono fun e W' ⟨he, bel⟩ => ?_
  subst he
  exact ⟨_, rfl, _, _, _, [], _, q, hW', trodAll_mk1 (shut_bool Tryd.underlying4 _), (trodAll_cons_mk (Below.trod laidOut (by kernel_rfl) (of_decide_eq_true (by kernel_rfl)) k0 bel lt0) (trodAll_cons_mk (shut_int Tryd.underlying2 w1) trodAll_mk0)), bel.trodVars laidOut (by kernel_rfl) hV, bel.frame _, fun h => by cases h⟩

theorem over : Rows.FnExactCodeFaultSaid :=
  OpenClaim.holds_of_wide 3 Tryd.f3 rfl rfl rfl rfl rfl rfl rfl ⟨rfl, rfl, rfl, rfl, rfl⟩ rfl rfl rfl rfl rfl (by kernel_rfl) Tryd.func3 (by kernel_rfl)
    (of_decide_eq_true (by kernel_rfl)) (by unfold Func.isWrapper; first | (rw [if_pos (by decide +kernel)]; kernel_rfl) | (rw [if_neg (by decide +kernel)]; exact ⟨rfl, rfl⟩))
    (fun os started H enc _ => lifted os started H enc)
end lawCodeFault

/-- The card. -/
theorem lawCodeFault_holds : Rows.FnExactCodeFaultCardSaid :=
  Claim7.holds_tied_plain_at .later [] [.data] true (true, "00af7fb6340898d1bf9a67d10f775299a98bc6488d3b997aae4701a645b86337") false
    lawCodeFault.over (fun _ h => by cases h) (by kernel_rfl) (fun _ h => by cases h) fnExactCodeFault_row_tie rfl ⟨rfl, rfl⟩ (by kernel_rfl) rfl
    (fun f fn hf hfn => by
      obtain rfl : f = 3 := Option.some.inj ((show Tryd.prog.funcNamed Rows.fnExactCodeFaultRow.func = some 3 by kernel_rfl).symm.trans hf) |>.symm
      obtain rfl : fn = Tryd.f3 := (Option.some.inj (Tryd.func3.symm.trans hfn)).symm
      exact ⟨by kernel_rfl, fun j t ht => by
        rw [Tryd.params3] at ht
        have hm : t ∈ [22, 2] := by simpa using Array.mem_of_getElem? ht
        have hall : ([22, 2].all fun u => !Tryd.prog.wantsStandIn u) = true := by kernel_rfl
        exact (show Tryd.prog.wantsStandIn t = false by simpa using List.all_eq_true.1 hall t hm)⟩)
    (by kernel_rfl)
#print axioms lawCodeFault_holds

end Go.Proofs.YtfmljlhcaimafaaDoor
