/-
  Proved: at every argument impl.CodeText answers as spec.CodeText, every field, writes nothing into its arguments (laws.FnExactCodeText returns true), where the program's and the library's listed tables hold what the program's text lays in it (the card ties that). No other condition.
-/
import Derived.Test.YtfmljlhcaimafaaDoorInY
import Derived.Test.YtfmljlhcaimafaaDoorInZ
import Derived.Test.YtfmljlhcaimafaaDoorInQ
import Derived.Test.YtfmljlhcaimafaaDoorInT
import Derived.Test.YtfmljlhcaimafaaDoorTie
import Derived.Test.YtfmljlhcaimafaaDoorCards
import Derived.ProofKit
import Derived.OpenShut
import Derived.ShutString
import Derived.ChangeOld
import Derived.LaidMore
import Derived.Stop.Joined
import Derived.Stop.LaidErr
import Derived.MakeChecks
import Derived.SevenTiedAt
import Derived.Lib.SmallJoins
import Derived.Lib.AppendIntMem
import Derived.Lib.LaidTab
import Derived.OpenVars
import Derived.ChangeVars
namespace Go.Proofs.YtfmljlhcaimafaaDoor
open Go.ChangeShapes Go.WideShapes Go.ChangeAt Go.RowKit
open Go.ChangeMaps (open_string shut_string)
set_option linter.unusedVariables false
set_option linter.unusedSimpArgs false


set_option maxHeartbeats 1000000 in
theorem eqText_in (x : Int) (y : ByteArray) (w : World) : Calls Tryd.prog 23 #[.agg #[.int .i64 x, .string y], .agg #[.int .i64 x, .string y]] w fun e w' => e = .returned (.bool true) ∧ Below w.heap.size w w' := by
  have HB : Hid (∀ o o', Below w.heap.size w ((w.alloc o).alloc o')) := fun o o' => ((Below.refl _ _).alloc (Nat.le_refl _) o).alloc (by simp [go_sem] <;> omega) o'
  go_enter Tryd.func23, Tryd.ntmps23
  go_wp2_with fail
  go_ret
  exact ⟨rfl, HB.out _ _⟩
set_option maxRecDepth 100000 in
set_option maxHeartbeats 8000000 in
theorem lawCodeText_walk (a : Option Addr) (cap : Nat) (l : List Ic) (rg : Int) (w : World) (hA : Ic.Arg w a cap l) (hS : Shp w ∧ Lib.TabIs Tryd.prog w "internal/strconv.uint64pow10" .u64 Lib.pow10Tab) :
    Calls Tryd.prog 5 #[.slice a l.length cap, .int .i64 rg] w fun e w' => e = .returned (.bool true) ∧ Below w.heap.size w w' := by
  have HA := hide hA
  have HS := hide hS.1
  have HT := hide (Lib.tabBelow_of_tabIs hS.2)
  clear hA hS
  go_enter Tryd.func5, Tryd.ntmps5
  go_wp2_with fail
  refine (Ic.sz2_arg a cap l _ _ (unhide HA) (by decide) (by decide)).mono ?_
  rintro e w1 ⟨r, rfl, hr, hb1⟩
  rcases hr with hr | ⟨hr0, hn, htt⟩
  · go_wp2_with fail
    go_ret
    exact ⟨rfl, hb1⟩
  have hsz := hide (show ∀ i, i < l.length → (l.getD i Ic.zero).val.length ≤ 1048576 from fun i hi => Nat.le_trans (Ic.tot_one l i hi) htt)
  have hok := hide (unhide HA).2.2.1
  have HSP := hide (fun (b : Nat) (W : World) (hr : Ic.LaidRow W b l) => specCodeText_any b l rg W hr.row hr.lt (unhide hsz) (unhide hok) hn)
  have HIM := hide (fun (b : Nat) (W : World) (hr : Ic.LaidRow W b l) (hB : Below w.heap.size w W) => implCodeText_any b l rg W hr.row hr.lt (unhide hsz) (unhide hok) hn ((unhide HS).below hB) (fun w' h => (unhide HT) w' (hB.trans (h.mono hB.size))))
  obtain ⟨x, y, hxy⟩ : ∃ x y, Ic.textOut l rg = (x, y) := ⟨_, _, rfl⟩
  rw [hxy] at HSP HIM
  clear hxy
  simp only at HSP HIM
  go_wp2_with fail
  refine (Ic.to2_arg a cap l _ ((unhide HA).below hb1) hn (unhide hsz)).mono ?_
  rintro e w2 ⟨rfl, ho2, _, hb2⟩
  have B2 : Below w.heap.size w w2 := hb1.trans (hb2.mono hb1.size)
  go_wp2_with fail
  refine ((unhide HSP) _ _ ho2).mono ?_
  rintro e w3 ⟨rfl, hb3⟩
  have B3 : Below w.heap.size w w3 := B2.trans (hb3.mono B2.size)
  clear hb1 hb2 hb3 ho2 B2
  obtain ⟨w4, hw4⟩ : ∃ w4, w4 = w3.alloc (.cells #[.int .i64 x, .string y] 41) := ⟨_, rfl⟩
  have X4 : Own w4 w3.heap.size 41 [.int .i64 x, .string y] := by rw [hw4]; exact ⟨_, heap_alloc_new _ _, rfl⟩
  have B4 : Below w.heap.size w w4 := by rw [hw4]; exact B3.alloc B3.size _
  clear B3
  go_wp2_with fail
  rw [← hw4]
  clear hw4
  refine (Ic.to2_arg a cap l _ ((unhide HA).below B4) hn (unhide hsz)).mono ?_
  rintro e w5 ⟨rfl, ho5, _, hb5⟩
  have B5 : Below w.heap.size w w5 := B4.trans (hb5.mono B4.size)
  have X5 := X4.below hb5 X4.lt
  clear hb5 X4
  go_wp2_with fail
  refine ((unhide HIM) _ _ ho5 B5).mono ?_
  rintro e w6 ⟨rfl, hb6⟩
  have B6 : Below w.heap.size w w6 := B5.trans (hb6.mono B5.size)
  have X6 := X5.below hb6 X5.lt
  have ho6 := ho5.below hb6
  clear hb6 X5 ho5 B5
  obtain ⟨w7, hw7⟩ : ∃ w7, w7 = w6.alloc (.cells #[.int .i64 x, .string y] 41) := ⟨_, rfl⟩
  have B7 : Below w.heap.size w w7 := by rw [hw7]; exact B6.alloc B6.size _
  have ho7 : Ic.LaidRow w7 w4.heap.size l := by rw [hw7]; exact ho6.below ((Below.refl _ _).alloc (Nat.le_refl _) _)
  have x0 : ∀ o, (w6.alloc o).cell? ⟨w3.heap.size, 0, none⟩ = some (.int .i64 x) := fun o => (X6.alloc o).cell 0
  have x1 : ∀ o, (w6.alloc o).cell? ⟨w3.heap.size, 1, none⟩ = some (.string y) := fun o => (X6.alloc o).cell 1
  clear X6 ho6 B6
  go_wp2_with fail
  rw [← hw7]
  clear hw7 x0 x1
  refine (eqText_in x y _).mono ?_
  rintro e w8 ⟨rfl, hb8⟩
  have B8 : Below w.heap.size w w8 := B7.trans (hb8.mono B7.size)
  have ho8 := ho7.below hb8
  clear hb8 ho7 B7
  go_wp2_with fail
  refine (Ic.to2_arg a cap l _ ((unhide HA).below B8) hn (unhide hsz)).mono ?_
  rintro e w9 ⟨rfl, ho9, _, hb9⟩
  have B9 : Below w.heap.size w w9 := B8.trans (hb9.mono B8.size)
  have ho9' := ho8.below hb9
  clear hb9 ho8 B8
  go_wp2_with fail
  refine (Ic.eqS_same w4.heap.size w8.heap.size l _ ho9'.row ho9'.lt ho9.row ho9.lt hn (unhide hsz)).mono ?_
  rintro e w10 ⟨rfl, hb10⟩
  have B10 : Below w.heap.size w w10 := B9.trans (hb10.mono B9.size)
  clear hb10 ho9 ho9' B9
  go_wp2_with fail
  go_ret
  exact ⟨rfl, B10⟩

namespace lawCodeText
theorem own : ownKnob Tryd.prog.godebug = none := by kernel_rfl
theorem laidOut : laidOutB Tryd.prog = true := by kernel_rfl
theorem gTab : Tryd.prog.globalNamed "internal/strconv.uint64pow10" = some 1 := by kernel_rfl
theorem gTabType : (Tryd.prog.globals[1]?).map (·.type) = some 137 := by kernel_rfl
theorem tabData_is : (Rows.laid_internal_strconv_uint64pow10 : DataW Unit) = Lib.tabData .u64 Lib.pow10Tab := by kernel_rfl
/-- What the condition gives the walk: the table. -/
theorem of_laid {W : World} (h : laidMetH Tryd.prog Rows.fnExactCodeTextRow.laid W) : Shp W ∧ Lib.TabIs Tryd.prog W "internal/strconv.uint64pow10" .u64 Lib.pow10Tab := by
  rw [MakeChecks.laidMetH_plain _ _ _ (by kernel_rfl)] at h
  have h3 : laidMet Tryd.prog [("internal/strconv.uint64pow10", Lib.tabData .u64 Lib.pow10Tab), ("loop.example/g00166/impl.inShapes", Rows.laid_loop_example_g00166_impl_inShapes)] W := by rw [← tabData_is]; exact (laidMet.tail (laidMet.tail h))
  exact ⟨Ic.shp_of (laidMet.tail h3), Lib.tabIs_of_head gTab gTabType Tryd.underlying137 Tryd.underlying110 (by kernel_rfl) (by kernel_rfl) h3⟩

/-- The door's own heap meets the condition. -/
theorem door_met (os : Os) (args : Array Value) : laidMetH Tryd.prog Rows.fnExactCodeTextRow.laid ((World.doorLaid Tryd.prog 400 os).forCall (fun _ _ => 0) ⟨#[], args, []⟩).memory :=
  laidMetH_of_parts3 (fuel := 8) (laidMet_of_run' 8 (by kernel_rfl) (by kernel_rfl)) (by kernel_rfl) (by kernel_rfl)

set_option maxRecDepth 100000 in
theorem lifted (os : Os) (started : os.Started) (H : Type) (enc : TypeId × Value → H) :
    ReturnsInHanded {} Tryd.checked os 5 .any (fun w args => (Rows.fnExactCodeTextSpec.pre enc Tryd.prog Tryd.f5 [] false w args ∧ laidMetH Tryd.prog Rows.fnExactCodeTextRow.laid w) ∧ sizedMet enc Tryd.prog Tryd.f5 (OpenSpec.ofChange Rows.fnExactCodeTextSpec) false w args)
      (Rows.fnExactCodeTextSpec.post enc Tryd.prog Tryd.f5 false true false false) := by
  refine returnsInHanded_of_change_and (C := Tryd.checked) (X := fun w _ => laidMetH Tryd.prog Rows.fnExactCodeTextRow.laid w) (fun _ _ _ hh h => h.of_heap hh) own started (by kernel_rfl) Tryd.func5
    (ChangeSpec.witness_shaped (enc := enc) (C := Tryd.checked) (os := os) (X := fun w _ => laidMetH Tryd.prog Rows.fnExactCodeTextRow.laid w) false (World.doorLaid Tryd.prog 400 os) #[.slice none 0 0, .int .i64 0] 8 rfl (World.shaped_of_RefB (by kernel_rfl) (by kernel_rfl)) (by kernel_rfl) (by kernel_rfl) (by kernel_rfl) (door_met os _)) ?_
  intro W base args ds gs before hval0 hW _ _ hL _
  have hval : ∀ (j : Nat) t v, Tryd.f5.params[j]? = some t → args[j]? = some v → Value.okWide Tryd.prog W .any base t v := hval0
  have hW' := hW
  obtain ⟨p, q, hA0, hV, rfl, hfz, hnd⟩ := hW
  have hA : DataW.TrodAll enc Tryd.prog W 0 (fun _ => true) true Tryd.f5.params.toList args.toList ds p := hA0
  rw [Tryd.params5] at hA hval
  obtain ⟨v0, vs0, d0, ds0, p0, q0, hargs, rfl, rfl, h0, r0⟩ := trodAll_cons hA
  obtain ⟨v1, vs1, d1, ds1, p1, q1, rfl, rfl, rfl, h1, r1⟩ := trodAll_cons r0
  obtain ⟨rfl, rfl, rfl⟩ := trodAll_nil r1
  obtain rfl : args = #[v0, v1] := by cases args; simp_all
  obtain ⟨d9, rfl⟩ : ∃ d9, gs = [d9] := by
    obtain ⟨_, _, _, _, d, _, hd, _⟩ := trodVars_one hV
    exact ⟨d, hd⟩
  obtain ⟨a0, len0, cap0, rfl⟩ := okWide_slice Tryd.underlying22 (hval 0 22 v0 rfl rfl)
  have k0 := h0
  have lt0 : ∀ x ∈ p0, x.block < W.heap.size := by obtain ⟨m, hm⟩ := k0; exact DataW.trod_lt m _ _ _ hm
  obtain ⟨l0, hl0, w0⟩ : ∃ l : List Ic, l.length = len0 ∧ Ic.Arg W a0 cap0 l := by
    obtain ⟨fuel, hf⟩ := h0
    exact Ic.open_arg hf
  subst hl0
  obtain ⟨a1, rfl, rfl, rfl, w1⟩ := open_int Tryd.underlying2 (hval 1 2 v1 rfl rfl) h1
  have hT := of_laid hL
  clear hA0 hval0
  refine (lawCodeText_walk a0 cap0 l0 a1 W w0 hT).mono fun e W' ⟨he, bel⟩ => ?_
  subst he
  exact ⟨_, rfl, _, _, _, [], _, q, hW', trodAll_mk1 (shut_bool Tryd.underlying4 _), (trodAll_cons_mk (Below.trod laidOut (by kernel_rfl) (of_decide_eq_true (by kernel_rfl)) k0 bel lt0) (trodAll_cons_mk (shut_int Tryd.underlying2 w1) trodAll_mk0)), bel.trodVars laidOut (by kernel_rfl) hV, bel.frame _, fun h => by cases h⟩

theorem over : Rows.FnExactCodeTextSaid :=
  OpenClaim.holds_of_wide 5 Tryd.f5 rfl rfl rfl rfl rfl rfl rfl ⟨rfl, rfl, rfl, rfl, rfl⟩ rfl rfl rfl rfl rfl (by kernel_rfl) Tryd.func5 (by kernel_rfl)
    (of_decide_eq_true (by kernel_rfl)) (by unfold Func.isWrapper; first | (rw [if_pos (by decide +kernel)]; kernel_rfl) | (rw [if_neg (by decide +kernel)]; exact ⟨rfl, rfl⟩))
    (fun os started H enc _ => lifted os started H enc)
end lawCodeText

/-- The card. -/
theorem lawCodeText_holds : Rows.FnExactCodeTextCardSaid :=
  Claim7.holds_tied_plain_at .later [] [.data, .data, .data, .data] true (true, "00af7fb6340898d1bf9a67d10f775299a98bc6488d3b997aae4701a645b86337") false
    lawCodeText.over (fun _ h => by cases h) (by kernel_rfl) (fun _ h => by cases h) fnExactCodeText_row_tie rfl ⟨rfl, rfl⟩ (by kernel_rfl) rfl
    (fun f fn hf hfn => by
      obtain rfl : f = 5 := Option.some.inj ((show Tryd.prog.funcNamed Rows.fnExactCodeTextRow.func = some 5 by kernel_rfl).symm.trans hf) |>.symm
      obtain rfl : fn = Tryd.f5 := (Option.some.inj (Tryd.func5.symm.trans hfn)).symm
      exact ⟨by kernel_rfl, fun j t ht => by
        rw [Tryd.params5] at ht
        have hm : t ∈ [22, 2] := by simpa using Array.mem_of_getElem? ht
        have hall : ([22, 2].all fun u => !Tryd.prog.wantsStandIn u) = true := by kernel_rfl
        exact (show Tryd.prog.wantsStandIn t = false by simpa using List.all_eq_true.1 hall t hm)⟩)
    (by kernel_rfl)
#print axioms lawCodeText_holds

end Go.Proofs.YtfmljlhcaimafaaDoor
