/-
  Proved: at every argument impl.TokenText answers as spec.TokenText, every field (laws.FnExactTokenText returns true), where the library's listed tables hold what the program's text lays in them (the card ties that). No other condition.
-/
import Derived.Test.YtfmcbkohegccmaaDoorTokS
import Derived.Test.YtfmcbkohegccmaaDoorTokI
import Derived.Test.YtfmcbkohegccmaaDoorTie
import Derived.Test.YtfmcbkohegccmaaDoorCards
import Derived.ProofKit
import Derived.OpenShut
import Derived.ShutString
import Derived.ChangeOld
import Derived.LaidMore
import Derived.Stop.Joined
import Derived.Stop.LaidErr
import Derived.MakeChecks
import Derived.SevenTiedAt
import Derived.Lib.SmallJoins
import Derived.Lib.AppendIntMem
import Derived.Lib.LaidTab
namespace Go.Proofs.YtfmcbkohegccmaaDoor
open Go.ChangeShapes Go.WideShapes Go.ChangeAt Go.RowKit
open Go.ChangeMaps (open_string shut_string)
set_option linter.unusedVariables false
set_option linter.unusedSimpArgs false

set_option maxHeartbeats 1000000 in
theorem szToken_any (k a n : Int) (s : ByteArray) (left : Int) (w : World) (h0 : 0 ≤ left) (h1 : left ≤ 1048576) (hs : s.size ≤ maxLen) :
    Calls Tryd.prog 18 #[.agg #[.int .i64 k, .int .i64 a, .int .i64 n, .string s], .int .i64 left] w fun e w' => e = .returned (.int .i64 (if left < s.size then -1 else left - s.size)) ∧ Below w.heap.size w w' := by
  have hs' := hs
  unfold maxLen at hs'
  by_cases h : left < s.size
  · have h2 : left - (s.size : Int) < 0 := by omega
    rw [if_pos h]
    clear h
    go_enter Tryd.func18, Tryd.ntmps18
    go_wp2_with fail
    go_ret
    exact ⟨rfl, (Below.refl _ _).alloc (Nat.le_refl _) _⟩
  · have h2 : ¬ left - (s.size : Int) < 0 := by omega
    rw [if_neg h]
    clear h
    go_enter Tryd.func18, Tryd.ntmps18
    go_wp2_with fail
    go_ret
    exact ⟨rfl, (Below.refl _ _).alloc (Nat.le_refl _) _⟩

set_option maxHeartbeats 1000000 in
theorem toToken_any (k a n : Int) (s : ByteArray) (w : World) :
    Calls Tryd.prog 20 #[.agg #[.int .i64 k, .int .i64 a, .int .i64 n, .string s]] w fun e w' => e = .returned (.agg #[.int .i64 k, .int .i64 a, .int .i64 n, .string s]) ∧ Below w.heap.size w w' := by
  have B0 : Hid (∀ o, Below w.heap.size w (w.alloc o)) := fun o => (Below.refl _ _).alloc (Nat.le_refl _) o
  go_enter Tryd.func20, Tryd.ntmps20
  go_wp2_with fail
  refine bodyPost_ret (v := .agg #[.int .i64 k, .int .i64 a, .int .i64 n, .string s]) (by simp [results, Tryd.results20, go_sem]) rfl ⟨rfl, ?_⟩
  repeat (first | exact B0.out _ | exact Below.refl _ _ | refine Below.setCell ?_ (by simp <;> omega) _ | refine Below.alloc ?_ (by simp <;> omega) _)

set_option maxRecDepth 100000 in
set_option maxHeartbeats 4000000 in
theorem lawTokenText_walk (k a n : Int) (s : ByteArray) (w : World) (hs : s.size ≤ maxLen) (htab : Lib.TabIs Tryd.prog w "internal/strconv.uint64pow10" .u64 Lib.pow10Tab) :
    Calls Tryd.prog 5 #[.agg #[.int .i64 k, .int .i64 a, .int .i64 n, .string s]] w fun e w' => e = .returned (.bool true) ∧ Below w.heap.size w w' := by
  have HS := hide (fun w => szToken_any k a n s 1048576 w (by omega) (by omega) hs)
  have hT := hide (Lib.tabBelow_of_tabIs htab)
  clear htab
  obtain ⟨w0, hw0⟩ : ∃ w0, w0 = w.alloc (.cells #[.int .i64 k, .int .i64 a, .int .i64 n, .string s] 40) := ⟨_, rfl⟩
  have B0 : Below w.heap.size w w0 := by rw [hw0]; exact (Below.refl _ _).alloc (Nat.le_refl _) _
  have hX0 : Own w0 w.heap.size 40 [.int .i64 k, .int .i64 a, .int .i64 n, .string s] := by rw [hw0]; exact ⟨_, heap_alloc_new _ _, rfl⟩
  by_cases hbig : 1048576 < s.size
  · rw [if_pos (by omega)] at HS
    go_enter Tryd.func5, Tryd.ntmps5
    go_wp2_with fail
    rw [← hw0]
    clear hw0
    refine ((unhide HS) _).mono ?_
    rintro e w1 ⟨rfl, hb1⟩
    have B1 : Below w.heap.size w w1 := B0.trans (hb1.mono B0.size)
    go_wp2_with fail
    go_ret
    exact ⟨rfl, B1⟩
  have hsm : s.size ≤ 1048576 := by omega
  rw [if_neg (by omega)] at HS
  have hpos : 0 ≤ (1048576 : Int) - (s.size : Int) := by omega
  generalize (1048576 : Int) - (s.size : Int) = lf at *
  go_enter Tryd.func5, Tryd.ntmps5
  go_wp2_with fail
  rw [← hw0]
  clear hw0
  refine ((unhide HS) _).mono ?_
  rintro e w1 ⟨rfl, hb1⟩
  have B1 : Below w.heap.size w w1 := B0.trans (hb1.mono B0.size)
  have hX1 := hX0.below hb1 hX0.lt
  clear hb1 B0 hX0
  have c0 := hX1.cell 0
  have c1 := hX1.cell 1
  have c2 := hX1.cell 2
  have c3 := hX1.cell 3
  simp only [List.getElem?_cons_zero, List.getElem?_cons_succ] at c0 c1 c2 c3
  go_wp2_with fail
  refine (toToken_any k a n s _).mono ?_
  rintro e w2 ⟨rfl, hb2⟩
  have B2 : Below w.heap.size w w2 := B1.trans (hb2.mono B1.size)
  have hX2 := hX1.below hb2 hX1.lt
  clear hb2 B1 hX1 c0 c1 c2 c3
  go_wp2_with fail
  refine (specTok_any k a n s _ hsm).mono ?_
  rintro e w3 ⟨rfl, hb3⟩
  have B3 : Below w.heap.size w w3 := B2.trans (hb3.mono B2.size)
  have hX3 := hX2.below hb3 hX2.lt
  clear hb3 B2 hX2
  have HI := hide (fun (wq : World) (B : Below w.heap.size w wq) => implTok_any k a n s wq hsm (fun w' hb => (unhide hT) w' (B.trans (hb.mono B.size))))
  clear hT
  generalize hR : J.tokOut k n s = R at *
  obtain ⟨x, y⟩ := R
  simp only
  clear hR
  obtain ⟨w4, hw4⟩ : ∃ w4, w4 = w3.alloc (.cells #[.int .i64 x, .string y] 25) := ⟨_, rfl⟩
  have hR4 : Own w4 w3.heap.size 25 [.int .i64 x, .string y] := by rw [hw4]; exact ⟨_, heap_alloc_new _ _, rfl⟩
  have hX4 : Own w4 w.heap.size 40 [.int .i64 k, .int .i64 a, .int .i64 n, .string s] := by rw [hw4]; exact hX3.alloc _
  have B4 : Below w.heap.size w w4 := by rw [hw4]; exact B3.alloc B3.size _
  clear hX3 B3
  have c0 := hX4.cell 0
  have c1 := hX4.cell 1
  have c2 := hX4.cell 2
  have c3 := hX4.cell 3
  simp only [List.getElem?_cons_zero, List.getElem?_cons_succ] at c0 c1 c2 c3
  rw [hw4] at c0 c1 c2 c3
  go_wp2_with fail
  rw [← hw4]
  clear c0 c1 c2 c3
  refine (toToken_any k a n s _).mono ?_
  rintro e w5 ⟨rfl, hb5⟩
  have B5 : Below w.heap.size w w5 := B4.trans (hb5.mono B4.size)
  have hR5 := hR4.below hb5 hR4.lt
  clear hb5 B4 hR4 hX4 hw4
  go_wp2_with fail
  refine ((unhide HI) _ B5).mono ?_
  rintro e w6 ⟨rfl, hb6⟩
  have B6 : Below w.heap.size w w6 := B5.trans (hb6.mono B5.size)
  have hR6 := hR5.below hb6 hR5.lt
  clear hb6 B5 hR5 HI
  have x0 : ∀ o, (w6.alloc o).cell? ⟨w3.heap.size, 0, none⟩ = some (.int .i64 x) := fun o => (hR6.alloc o).cell 0
  have x1 : ∀ o, (w6.alloc o).cell? ⟨w3.heap.size, 1, none⟩ = some (.string y) := fun o => (hR6.alloc o).cell 1
  go_wp2_with fail
  refine (eqTextResult_same x y _).mono ?_
  rintro e w7 ⟨rfl, hb7⟩
  have B7 : Below w.heap.size w w7 := (B6.alloc B6.size _).trans (hb7.mono (by simp; have := B6.size; omega))
  clear hb7 x0 x1 hR6 B6
  go_wp2_with fail
  go_ret
  exact ⟨rfl, B7⟩

namespace lawTokenText
theorem own : ownKnob Tryd.prog.godebug = none := by kernel_rfl
theorem laidOut : laidOutB Tryd.prog = true := by kernel_rfl
theorem gTab : Tryd.prog.globalNamed "internal/strconv.uint64pow10" = some 0 := by kernel_rfl
theorem gTabType : (Tryd.prog.globals[0]?).map (·.type) = some 117 := by kernel_rfl
theorem tabData_is : (Rows.laid_internal_strconv_uint64pow10 : DataW Unit) = Lib.tabData .u64 Lib.pow10Tab := by kernel_rfl
/-- What the condition gives the walk: the table. -/
theorem of_laid {W : World} (h : laidMetH Tryd.prog Rows.fnExactTokenTextRow.laid W) : Lib.TabIs Tryd.prog W "internal/strconv.uint64pow10" .u64 Lib.pow10Tab := by
  rw [MakeChecks.laidMetH_plain _ _ _ (by kernel_rfl)] at h
  have h3 : laidMet Tryd.prog [("internal/strconv.uint64pow10", Lib.tabData .u64 Lib.pow10Tab)] W := by rw [← tabData_is]; exact (laidMet.tail (laidMet.tail h))
  exact Lib.tabIs_of_head gTab gTabType Tryd.underlying117 Tryd.underlying107 (by kernel_rfl) (by kernel_rfl) h3

/-- The door's own heap meets the condition. -/
theorem door_met (os : Os) (args : Array Value) : laidMetH Tryd.prog Rows.fnExactTokenTextRow.laid ((World.doorLaid Tryd.prog 400 os).forCall (fun _ _ => 0) ⟨#[], args, []⟩).memory :=
  laidMetH_of_parts3 (fuel := 8) (laidMet_of_run' 8 (by kernel_rfl) (by kernel_rfl)) (by kernel_rfl) (by kernel_rfl)

set_option maxRecDepth 100000 in
theorem lifted (os : Os) (started : os.Started) (H : Type) (enc : TypeId × Value → H) :
    ReturnsInHanded {} Tryd.checked os 5 .any (fun w args => (Rows.fnExactTokenTextSpec.pre enc Tryd.prog Tryd.f5 [] false w args ∧ laidMetH Tryd.prog Rows.fnExactTokenTextRow.laid w) ∧ sizedMet enc Tryd.prog Tryd.f5 (OpenSpec.ofChange Rows.fnExactTokenTextSpec) false w args)
      (Rows.fnExactTokenTextSpec.post enc Tryd.prog Tryd.f5 false true false false) := by
  refine returnsInHanded_of_change_and (C := Tryd.checked) (X := fun w _ => laidMetH Tryd.prog Rows.fnExactTokenTextRow.laid w) (fun _ _ _ hh h => h.of_heap hh) own started (by kernel_rfl) Tryd.func5
    (ChangeSpec.witness_shaped (enc := enc) (C := Tryd.checked) (os := os) (X := fun w _ => laidMetH Tryd.prog Rows.fnExactTokenTextRow.laid w) false (World.doorLaid Tryd.prog 400 os) #[.agg #[.int .i64 0, .int .i64 0, .int .i64 0, .string ByteArray.empty]] 8 rfl (World.shaped_of_RefB (by kernel_rfl) (by kernel_rfl)) (by kernel_rfl) (by kernel_rfl) (by kernel_rfl) (door_met os _)) ?_
  intro W base args ds gs before hval0 hW _ _ hL _
  have hval : ∀ (j : Nat) t v, Tryd.f5.params[j]? = some t → args[j]? = some v → Value.okWide Tryd.prog W .any base t v := hval0
  have hW' := hW
  obtain ⟨p, q, hA0, hV, rfl, hfz, hnd⟩ := hW
  have hA : DataW.TrodAll enc Tryd.prog W 0 (fun _ => true) true Tryd.f5.params.toList args.toList ds p := hA0
  rw [Tryd.params5] at hA hval
  obtain ⟨v0, vs0, d0, ds0, p0, q0, hargs, rfl, rfl, h0, r0⟩ := trodAll_cons hA
  obtain ⟨rfl, rfl, rfl⟩ := trodAll_nil r0
  obtain rfl : args = #[v0] := by cases args; simp_all
  obtain ⟨rfl, rfl⟩ := trodVars_none hV
  have k0 := h0
  have lt0 : ∀ x ∈ p0, x.block < W.heap.size := by obtain ⟨m, hm⟩ := k0; exact DataW.trod_lt m _ _ _ hm
  obtain ⟨c0, c1, c2, c3, y0, y1, y2, y3, m, rfl, hd0, hp0, hy0, hy1, hy2, hy3⟩ := Go.Joins.open_agg4 Tryd.underlying40 (by kernel_rfl) (show Tryd.prog.cellsOf 40 = 4 by kernel_rfl) (hval 0 40 v0 rfl rfl) h0
  obtain ⟨z0, e0, _, wz0⟩ := DataW.trod_int Tryd.underlying2 hy0
  obtain ⟨z1, e1, _, wz1⟩ := DataW.trod_int Tryd.underlying2 hy1
  obtain ⟨z2, e2, _, wz2⟩ := DataW.trod_int Tryd.underlying2 hy2
  obtain ⟨z3, e3, _, wz3⟩ := DataW.trod_string Tryd.underlying9 hy3
  simp only [List.cons.injEq, and_true] at e0 e1 e2 e3
  subst e0 e1 e2 e3
  have hT := of_laid hL
  clear hA0 hval0
  refine (lawTokenText_walk z0 z1 z2 z3 W wz3 hT).mono fun e W' ⟨he, bel⟩ => ?_
  subst he
  exact ⟨_, rfl, _, _, _, [], _, [], hW', trodAll_mk1 (shut_bool Tryd.underlying4 _), (trodAll_cons_mk (Below.trod laidOut (by kernel_rfl) (of_decide_eq_true (by kernel_rfl)) k0 bel lt0) trodAll_mk0), rfl, bel.frame _, fun h => by cases h⟩

theorem over : Rows.FnExactTokenTextSaid :=
  OpenClaim.holds_of_wide 5 Tryd.f5 rfl rfl rfl rfl rfl rfl rfl ⟨rfl, rfl, rfl, rfl, rfl⟩ rfl rfl rfl rfl rfl (by kernel_rfl) Tryd.func5 (by kernel_rfl)
    (of_decide_eq_true (by kernel_rfl)) (by unfold Func.isWrapper; first | (rw [if_pos (by decide +kernel)]; kernel_rfl) | (rw [if_neg (by decide +kernel)]; exact ⟨rfl, rfl⟩))
    (fun os started H enc _ => lifted os started H enc)
end lawTokenText

/-- The card. -/
theorem lawTokenText_holds : Rows.FnExactTokenTextCardSaid :=
  Claim7.holds_tied_plain_at .later [] [.data, .data, .data] true (true, "b6f139930eaaefba0ec2368533d6778a9ca161652bc80509161caaf974c1cb2d") false
    lawTokenText.over (fun _ h => by cases h) (by kernel_rfl) (fun _ h => by cases h) fnExactTokenText_row_tie rfl ⟨rfl, rfl⟩ (by kernel_rfl) rfl
    (fun f fn hf hfn => by
      obtain rfl : f = 5 := Option.some.inj ((show Tryd.prog.funcNamed Rows.fnExactTokenTextRow.func = some 5 by kernel_rfl).symm.trans hf) |>.symm
      obtain rfl : fn = Tryd.f5 := (Option.some.inj (Tryd.func5.symm.trans hfn)).symm
      exact ⟨by kernel_rfl, fun j t ht => by
        rw [Tryd.params5] at ht
        have hm : t ∈ [40] := by simpa using Array.mem_of_getElem? ht
        have hall : ([40].all fun u => !Tryd.prog.wantsStandIn u) = true := by kernel_rfl
        exact (show Tryd.prog.wantsStandIn t = false by simpa using List.all_eq_true.1 hall t hm)⟩)
    (by kernel_rfl)
#print axioms lawTokenText_holds
end Go.Proofs.YtfmcbkohegccmaaDoor
