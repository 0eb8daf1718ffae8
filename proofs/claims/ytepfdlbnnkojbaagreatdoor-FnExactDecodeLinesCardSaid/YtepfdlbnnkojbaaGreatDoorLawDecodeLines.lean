/-
  Proved: at every argument impl.DecodeLines answers as spec.DecodeLines, every field, and its answer owns its memory, no two of its lists sharing any (laws.FnExactDecodeLines returns true), where the library's listed variables hold what the program's text lays in them (the card ties that). No other condition.
-/
import Derived.Test.YtepfdlbnnkojbaaGreatDoorLinR
import Derived.Test.YtepfdlbnnkojbaaGreatDoorTie
import Derived.Test.YtepfdlbnnkojbaaGreatDoorCards
import Derived.ProofKit
import Derived.OpenShut
import Derived.ShutString
import Derived.ChangeOld
import Derived.LaidMore
import Derived.Stop.Joined
import Derived.Stop.LaidErr
import Derived.MakeChecks
import Derived.LaidHandle
import Derived.Lay
import Derived.Shelf.Vars
import Derived.LaidLaws
import Derived.SevenTiedAt
namespace Go.Proofs.YtepfdlbnnkojbaaGreatDoor
open Go.ChangeShapes Go.WideShapes Go.ChangeAt Go.RowKit
open Go.ChangeMaps (open_string shut_string)
set_option linter.unusedVariables false
set_option linter.unusedSimpArgs false

set_option maxRecDepth 100000 in
set_option maxHeartbeats 4000000 in
theorem lawDecodeLines_walk (s0 : ByteArray) (w : World) (hs : s0.size ≤ maxLen) (hG : Gl w) :
    Calls Tryz.prog 4 #[.string s0] w fun e w' => e = .returned (.bool true) ∧ Below w.heap.size w w' := by
  have B0 : Below w.heap.size w w := Below.refl _ _
  have hs' := hs
  unfold maxLen at hs'
  by_cases hbig : 1048576 < s0.size
  · go_enter Tryz.func4, Tryz.ntmps4
    go_wp2_with fail
    go_ret
    exact ⟨rfl, B0⟩
  have hsm : s0.size ≤ 1048576 := by omega
  have HI := hide (fun (wq : World) (B : Below w.heap.size w wq) => impl_DecodeLines s0 wq hsm (hG.below B))
  clear hG
  go_enter Tryz.func4, Tryz.ntmps4
  go_wp2_with fail
  refine (spec_DecodeLines s0 _ hsm).mono ?_
  rintro e w1 ⟨s, rfl, hr1, hb1⟩
  have B1 : Below w.heap.size w w1 := B0.trans (hb1.mono B0.size)
  have hsz1 : w.heap.size ≤ w1.heap.size := B1.size
  have HSM := J.linesOut_small s0
  generalize hR : J.linesOut s0 = R at *
  obtain ⟨code, at_, l⟩ := R
  simp only at hr1 HSM ⊢
  have hn1 : l.length ≤ 4096 := by have := HSM.1; omega
  have hmem : ∀ i, i < l.length → (l.getD i []).length ≤ 200 := fun i hi => (HSM.2 _ (by rw [List.getD_eq_getElem?_getD, List.getElem?_eq_getElem hi]; exact List.getElem_mem hi)).2
  have HLN := hide (show ∀ i, i < l.length → (l.getD i []).length ≤ 1048576 from fun i hi => by have := hmem i hi; omega)
  have HTT := hide (show tot l l.length ≤ 1048576 by have := tot_small l l.length (Nat.le_refl _) hmem; have := HSM.1; omega)
  clear hmem HSM
  have HR := hide hR
  clear hR hb1 B0
  obtain ⟨a1, m1, c1, rfl⟩ := hr1.shape
  go_wp2_with fail
  have hX : Own (w1.alloc (.cells #[.int .i64 code, .int .i64 at_, .slice a1 m1 c1] 31)) w1.heap.size 31 [.int .i64 code, .int .i64 at_, .slice a1 m1 c1] := ⟨_, heap_alloc_new _ _, rfl⟩
  refine ((unhide HI) _ (B1.alloc B1.size _)).mono ?_
  rintro e w2 ⟨s2, rfl, hr2, hb2⟩
  simp only at hr2 ⊢
  have hX2 : Own w2 w1.heap.size 31 [.int .i64 code, .int .i64 at_, .slice a1 m1 c1] := hX.below hb2 (by simp)
  have hr12 : PS w2 w.heap.size w1.heap.size (.slice a1 m1 c1) l := (hr1.alloc _).below hb2
  rw [World.size_alloc] at hr2
  have B2 : Below w.heap.size w w2 := (B1.alloc B1.size _).trans (hb2.mono (by simp; have := B1.size; omega))
  clear hX hb2 hr1 B1
  obtain ⟨a2, m2, c2, rfl⟩ := hr2.ps.shape
  have x0 : ∀ o, (w2.alloc o).cell? ⟨w1.heap.size, 0, none⟩ = some (.int .i64 code) := fun o => (hX2.alloc o).cell 0
  have x1 : ∀ o, (w2.alloc o).cell? ⟨w1.heap.size, 1, none⟩ = some (.int .i64 at_) := fun o => (hX2.alloc o).cell 1
  have x2 : ∀ o, (w2.alloc o).cell? ⟨w1.heap.size, 2, none⟩ = some (.slice a1 m1 c1) := fun o => (hX2.alloc o).cell 2
  go_wp2_with fail
  refine (eqLinesResult_any code at_ (.slice a2 m2 c2) (.slice a1 m1 c1) _ _ _ _ l _ (hr2.alloc _).ps (hr12.alloc _) hn1 (unhide HLN)).mono ?_
  rintro e w3 ⟨rfl, hb3⟩
  have hX3 : Own w3 w1.heap.size 31 [.int .i64 code, .int .i64 at_, .slice a1 m1 c1] := (hX2.alloc _).below hb3 (by have := hX2.lt; simp; omega)
  have hY3 : Own w3 w2.heap.size 31 [.int .i64 code, .int .i64 at_, .slice a2 m2 c2] := Own.below ⟨_, heap_alloc_new _ _, rfl⟩ hb3 (by simp)
  have hr13 : PS w3 w.heap.size w1.heap.size (.slice a1 m1 c1) l := (hr12.alloc _).below hb3
  have hr23 := (hr2.alloc _).below hb3
  have B3 : Below w.heap.size w w3 := (B2.alloc B2.size _).trans (hb3.mono (by simp; have := B2.size; omega))
  clear x0 x1 x2 hb3 hX2 hr12 hr2 B2
  have y0 := hY3.cell 0
  have y1 := hY3.cell 1
  have y2 := hY3.cell 2
  simp only [List.getElem?_cons_zero, List.getElem?_cons_succ] at y0 y1 y2
  go_wp2_with fail
  refine (markLinesResult_any code at_ (.slice a2 m2 c2) _ _ l 1 _ hr23 hn1 (unhide HTT) (by decide) (by decide)).mono ?_
  rintro e w4 ⟨rfl, hm4, hv4⟩
  have hX4 : Own w4 w1.heap.size 31 [.int .i64 code, .int .i64 at_, .slice a1 m1 c1] := hv4.own hX3 (.inl (Nat.lt_succ_self _))
  have hY4 : Own w4 w2.heap.size 31 [.int .i64 code, .int .i64 at_, .slice a2 m2 c2] := hv4.own hY3 (.inr (Nat.le_refl _))
  have hr14 : PS w4 w.heap.size w1.heap.size (.slice a1 m1 c1) l := hr13.keep fun k _ h2 h3 => hv4.block k h3 (.inl (by omega))
  have B4 : Below w.heap.size w w4 := B3.trans (hv4.below (by omega) B3.size)
  clear y0 y1 y2 hX3 hY3 hr13 hr23 hv4 B3
  have y0 := hY4.cell 0
  have y1 := hY4.cell 1
  have y2 := hY4.cell 2
  simp only [List.getElem?_cons_zero, List.getElem?_cons_succ] at y0 y1 y2
  go_wp2_with fail
  refine (heldLinesResult_any code at_ (.slice a2 m2 c2) _ _ l 1 _ hm4 hn1 (unhide HTT) (by decide) (by decide)).mono ?_
  rintro e w5 ⟨rfl, hb5⟩
  have hX5 := hX4.below hb5 hX4.lt
  have hY5 := hY4.below hb5 hY4.lt
  have hr15 := hr14.below hb5
  have hm5 := hm4.below hb5
  have B5 : Below w.heap.size w w5 := B4.trans (hb5.mono B4.size)
  clear y0 y1 y2 hX4 hY4 hr14 hm4 hb5 B4
  go_wp2_with fail
  refine ((unhide HI) _ B5).mono ?_
  rintro e w6 ⟨s3, rfl, hr3, hb6⟩
  simp only at hr3 ⊢
  have hX6 := hX5.below hb6 hX5.lt
  have hY6 := hY5.below hb6 hY5.lt
  have hr16 := hr15.below hb6
  have hm6 := hm5.below hb6
  have B6 : Below w.heap.size w w6 := B5.trans (hb6.mono B5.size)
  clear hX5 hY5 hr15 hm5 hb6 B5
  obtain ⟨a3, m3, c3, rfl⟩ := hr3.ps.shape
  have x0 : ∀ o, (w6.alloc o).cell? ⟨w1.heap.size, 0, none⟩ = some (.int .i64 code) := fun o => (hX6.alloc o).cell 0
  have x1 : ∀ o, (w6.alloc o).cell? ⟨w1.heap.size, 1, none⟩ = some (.int .i64 at_) := fun o => (hX6.alloc o).cell 1
  have x2 : ∀ o, (w6.alloc o).cell? ⟨w1.heap.size, 2, none⟩ = some (.slice a1 m1 c1) := fun o => (hX6.alloc o).cell 2
  go_wp2_with fail
  refine (eqLinesResult_any code at_ (.slice a3 m3 c3) (.slice a1 m1 c1) _ _ _ _ l _ (hr3.alloc _).ps (hr16.alloc _) hn1 (unhide HLN)).mono ?_
  rintro e w7 ⟨rfl, hb7⟩
  have hY7 := (hY6.alloc _).below hb7 (by have := hY6.lt; simp; omega)
  have hm7 := (hm6.alloc _).below hb7
  have B7 : Below w.heap.size w w7 := (B6.alloc B6.size _).trans (hb7.mono (by simp; have := B6.size; omega))
  clear x0 x1 x2 hX6 hY6 hr16 hm6 hr3 hb7 B6
  have y0 := hY7.cell 0
  have y1 := hY7.cell 1
  have y2 := hY7.cell 2
  simp only [List.getElem?_cons_zero, List.getElem?_cons_succ] at y0 y1 y2
  go_wp2_with fail
  refine (heldLinesResult_any code at_ (.slice a2 m2 c2) _ _ l 1 _ hm7 hn1 (unhide HTT) (by decide) (by decide)).mono ?_
  rintro e w8 ⟨rfl, hb8⟩
  have B8 : Below w.heap.size w w8 := B7.trans (hb8.mono B7.size)
  clear y0 y1 y2 hY7 hm7 hb8 B7
  go_wp2_with fail
  go_ret
  exact ⟨rfl, B8⟩

namespace lawDecodeLines
theorem own : ownKnob Tryz.prog.godebug = none := by kernel_rfl
theorem gER : Tryz.prog.globalNamed "strconv.ErrRange" = some 5 := by kernel_rfl
theorem gERType : (Tryz.prog.globals[5]?).map (·.type) = some 46 := by kernel_rfl
theorem cellsE : Tryz.prog.cellsOf 163 = 1 := by kernel_rfl
theorem cellsS : Tryz.prog.cellsOf 9 = 1 := by kernel_rfl
theorem star : "*" ++ "errors.errorString" = "*errors.errorString" := by decide
theorem rowE (u : TypeId) (h : Tryz.prog.typeName? 3 u = some "*errors.errorString") : u = 161 :=
  typeName_ptr_named (nm := "errors.errorString") (by rw [star]; kernel_rfl) (by kernel_rfl) (by decide) u (by rw [star]; exact h)
theorem et : Tryz.prog.globalNamed "errors.errorType" = some 0 := by kernel_rfl
theorem rt : (Tryz.prog.cutTypes.find? (·.1 == "internal/reflectlite.rtype")).map (·.2) = some 96 := by kernel_rfl
theorem oneRow : ((List.range 206).filter fun t => Tryz.prog.rowNamed t [101, 114, 114, 111, 114]) = [46] := by kernel_rfl
theorem size : Tryz.prog.types.size = 206 := by kernel_rfl
theorem handle : typeHandle Tryz.prog 46 = .pointer (some ⟨9, 46, none⟩) := by kernel_rfl
/-- The condition's two parts. -/
theorem parts {W : World} (h : laidMetH Tryz.prog Rows.fnExactDecodeLinesRow.laid W) : laidMet Tryz.prog (Rows.fnExactDecodeLinesRow.laid.filter fun x => x.2.handleName?.isNone) W ∧ handlesMet Tryz.prog (Rows.fnExactDecodeLinesRow.laid.filter fun x => x.2.handleName?.isSome) W := by
  unfold laidMetH at h
  have e : (Rows.fnExactDecodeLinesRow.laid.filter fun x => x.2.handleName?.isSome) = [("errors.errorType", Rows.laid_errors_errorType)] := by kernel_rfl
  rw [e] at h ⊢
  exact h
theorem plain : (Rows.fnExactDecodeLinesRow.laid.filter fun x => x.2.handleName?.isNone) = [("math/bits.deBruijn32tab", Rows.laid_math_bits_deBruijn32tab), ("math/bits.deBruijn64tab", Rows.laid_math_bits_deBruijn64tab), ("internal/strconv.uint64pow10", Rows.laid_internal_strconv_uint64pow10), ("unicode/utf8.acceptRanges", Rows.laid_unicode_utf8_acceptRanges), ("strconv.ErrRange", Rows.laid_strconv_ErrRange), ("strconv.ErrSyntax", Rows.laid_strconv_ErrSyntax), ("unicode/utf8.first", Rows.laid_unicode_utf8_first)] := by kernel_rfl
theorem lt_of_cell {W : World} {g : Nat} {v : Value} (hc : W.cell? ⟨g, 0, none⟩ = some v) : g < W.heap.size := by
  by_cases hlt : g < W.heap.size
  · exact hlt
  · have hnone : W.heap[g]? = none := Array.getElem?_eq_none (by omega)
    simp [World.cell?, hnone] at hc
/-- What the condition gives the walk: the two variables' cells. -/
theorem of_laid {W : World} (h : laidMetH Tryz.prog Rows.fnExactDecodeLinesRow.laid W) (hM : ∃ m : Int, W.cell? ⟨1, 0, none⟩ = some (.int .i64 m)) : Gl W := by
  obtain ⟨h1, h2⟩ := parts h
  rw [plain] at h1
  have h3 := laidMet.tail (laidMet.tail (laidMet.tail (laidMet.tail h1)))
  obtain ⟨a0, s0, hv0, -, -, -⟩ := laid_sentinel h3 gER gERType Tryz.underlying46 rowE Tryz.underlying161 Tryz.underlying163 rfl rfl Tryz.underlying9 cellsE cellsS
  have h0 := World.var?_cell gER hv0 0
  have hc : W.cell? ⟨5, 0, none⟩ = some (.iface 161 (.pointer (some a0))) := by simpa using h0
  have e : (Rows.fnExactDecodeLinesRow.laid.filter fun x => x.2.handleName?.isSome) = [("errors.errorType", Rows.laid_errors_errorType)] := by kernel_rfl
  rw [e] at h2
  obtain ⟨name, u, ty, e1, e2, e3, e4, e5⟩ := h2 _ (List.mem_singleton.2 rfl)
  have en : name = [101, 114, 114, 111, 114] := (Option.some.inj e1).symm
  subst en
  obtain rfl := Option.some.inj (rt.symm.trans e2)
  have hm : ty ∈ (List.range 206).filter fun t => Tryz.prog.rowNamed t [101, 114, 114, 111, 114] := List.mem_filter.2 ⟨List.mem_range.2 (by rw [← size]; exact e3), e4⟩
  rw [oneRow] at hm
  obtain rfl := List.mem_singleton.1 hm
  rw [handle] at e5
  have ht : W.cell? ⟨0, 0, none⟩ = some (.iface 96 (.agg #[.pointer (some ⟨9, 46, none⟩)])) := by simpa using World.var?_cell et e5 0
  obtain ⟨m, hm⟩ := hM
  exact ⟨⟨⟨_, .inr ⟨_, _, rfl⟩, lt_of_cell hc, hc⟩, lt_of_cell ht, ht⟩, lt_of_cell hm, ⟨m, hm⟩⟩

/-- The listed data, without the handle. -/
abbrev plainL : List (String × DataW Unit) := Rows.fnExactDecodeLinesRow.laid.filter fun x => x.2.handleName?.isNone
theorem great1 : (plainL.filter fun x => (plainL.map (·.1)).contains x.1) = plainL := List.filter_eq_self.2 fun x hx => List.contains_iff_mem.2 (List.mem_map.2 ⟨x, hx, rfl⟩)
theorem great2 : (plainL.filter fun x => !(plainL.map (·.1)).contains x.1) = [] := List.filter_eq_nil_iff.2 fun x hx => by rw [List.contains_iff_mem.2 (List.mem_map.2 ⟨x, hx, rfl⟩)]; simp
/-- A world that meets the condition: the door's own, the listed data laid anew. -/
theorem door_plain (os : Os) : laidMet Tryz.prog plainL ((World.doorLaid Tryz.prog 400 os).layVars Tryz.prog plainL) :=
  laidMet_layVars (w0 := World.doorLaid Tryz.prog 400 os) (plainL.map (·.1)) [] (by rw [great1]) (by rw [great1]; kernel_rfl) (by rw [great1]; kernel_rfl) (by rw [great2]; exact LaidIn.none)
theorem door_met (os : Os) (args : Array Value) : laidMetH Tryz.prog Rows.fnExactDecodeLinesRow.laid (((World.doorLaid Tryz.prog 400 os).layVars Tryz.prog plainL).forCall (fun _ _ => 0) ⟨#[], args, []⟩).memory :=
  laidMetH_of_parts3 (fuel := 8) ((door_plain os).of_heap (by simp [World.memory, World.forCall, Input.heap])) (by kernel_rfl) (by kernel_rfl)

theorem maxLen_cell {W : World} (h : W.ShapedOpen Tryz.prog) : ∃ m : Int, W.cell? ⟨1, 0, none⟩ = some (.int .i64 m) :=
  cell_of_shapedOpen_int (t := 3) (zero := #[.int .i64 0]) h (of_decide_eq_true (by kernel_rfl)) (by kernel_rfl) rfl (by kernel_rfl) (by kernel_rfl) Tryz.underlying3
set_option maxRecDepth 100000 in
theorem contract {H : Type} (enc : TypeId × Value → H) (W : World) (base : Nat) (args : Array Value) (ds gs : List (DataW H)) (before : List MemPlace)
    (hval0 : ∀ (j : Nat) t v, Tryz.f4.params[j]? = some t → args[j]? = some v → Value.okWide Tryz.prog W .any base t v)
    (hW : DataW.Whole enc Tryz.prog Tryz.f4.params.toList Rows.fnExactDecodeLinesSpec.vars false W args.toList ds gs before)
    (hL : laidMetH Tryz.prog Rows.fnExactDecodeLinesRow.laid W) (hM : ∃ m : Int, W.cell? ⟨1, 0, none⟩ = some (.int .i64 m)) :
    Calls Tryz.prog 4 args W fun e W' => ∃ v, e = .returned v ∧ Rows.fnExactDecodeLinesSpec.post enc Tryz.prog Tryz.f4 false true false false W args v W' := by
  have hval : ∀ (j : Nat) t v, Tryz.f4.params[j]? = some t → args[j]? = some v → Value.okWide Tryz.prog W .any base t v := hval0
  have hW' := hW
  obtain ⟨p, q, hA0, hV, rfl, hfz, hnd⟩ := hW
  have hA : DataW.TrodAll enc Tryz.prog W 0 (fun _ => true) true Tryz.f4.params.toList args.toList ds p := hA0
  rw [Tryz.params4] at hA hval
  obtain ⟨v0, vs0, d0, ds0, p0, q0, hargs, rfl, rfl, h0, r0⟩ := trodAll_cons hA
  obtain ⟨rfl, rfl, rfl⟩ := trodAll_nil r0
  obtain rfl : args = #[v0] := by cases args; simp_all
  obtain ⟨rfl, rfl⟩ := trodVars_none hV
  obtain ⟨a0, rfl, rfl, rfl, w0⟩ := open_string Tryz.underlying9 (hval 0 9 v0 rfl rfl) h0
  clear hA0 hval0
  refine (lawDecodeLines_walk a0 W w0 (of_laid hL hM)).mono fun e W' ⟨he, bel⟩ => ?_
  subst he
  exact ⟨_, rfl, _, _, _, [], _, [], hW', trodAll_mk1 (shut_bool Tryz.underlying4 _), (trodAll_cons_mk (shut_string Tryz.underlying9 w0) trodAll_mk0), rfl, bel.frame _, fun h => by cases h⟩

set_option maxRecDepth 100000 in
theorem lifted (os : Os) (started : os.Started) (H : Type) (enc : TypeId × Value → H) :
    ReturnsInHanded {} Tryz.checked os 4 .any (fun w args => (Rows.fnExactDecodeLinesSpec.pre enc Tryz.prog Tryz.f4 [] false w args ∧ laidMetH Tryz.prog Rows.fnExactDecodeLinesRow.laid w) ∧ sizedMet enc Tryz.prog Tryz.f4 (OpenSpec.ofChange Rows.fnExactDecodeLinesSpec) false w args)
      (Rows.fnExactDecodeLinesSpec.post enc Tryz.prog Tryz.f4 false true false false) := by
  refine returnsInHanded_of_calls (C := Tryz.checked) own started (by kernel_rfl)
    (ChangeSpec.witness_shaped (enc := enc) (C := Tryz.checked) (os := os) (X := fun w _ => laidMetH Tryz.prog Rows.fnExactDecodeLinesRow.laid w) false ((World.doorLaid Tryz.prog 400 os).layVars Tryz.prog plainL) #[.string ByteArray.empty] 8 ((World.layVars_os _ _ _).trans rfl) (World.shaped_of_ZipB (by kernel_rfl) (by kernel_rfl)) (by kernel_rfl) (by kernel_rfl) (by kernel_rfl) (door_met os _)) ?_
  intro wS tape i _ hsh _ hok hpre _
  obtain ⟨_, _, _, fn', hfn', _, _, _, _, hv0⟩ := hok
  obtain rfl : fn' = Tryz.f4 := Option.some.inj (hfn'.symm.trans Tryz.func4)
  obtain ⟨⟨⟨ds, gs, before, hw0, _⟩, hx0⟩, _⟩ := hpre
  have hWW := DataW.Whole.of_heap (w' := wS.forCall tape i) (by rfl) hw0
  have hLL : laidMetH Tryz.prog Rows.fnExactDecodeLinesRow.laid (wS.forCall tape i) := hx0.of_heap (by rfl)
  have hMM := maxLen_cell hsh
  refine (contract enc (wS.forCall tape i) wS.heap.size i.args ds gs before hv0 hWW hLL hMM).mono fun e W' ⟨v, he, hp⟩ => ?_
  subst he
  exact ChangeSpec.post_blind hp

theorem over : Rows.FnExactDecodeLinesSaid :=
  OpenClaim.holds_of_wide 4 Tryz.f4 rfl rfl rfl rfl rfl rfl rfl ⟨rfl, rfl, rfl, rfl, rfl⟩ rfl rfl rfl rfl rfl (by kernel_rfl) Tryz.func4 (by kernel_rfl)
    (of_decide_eq_true (by kernel_rfl)) (by unfold Func.isWrapper; first | (rw [if_pos (by decide +kernel)]; kernel_rfl) | (rw [if_neg (by decide +kernel)]; exact ⟨rfl, rfl⟩))
    (fun os started H enc _ => lifted os started H enc)
end lawDecodeLines

/-- The card. -/
theorem lawDecodeLines_holds : Rows.FnExactDecodeLinesCardSaid :=
  Claim7.holds_tied_plain_at .later [] [.data, .data, .data, .data, .handle, .sentinel, .sentinel, .pinned] true (true, "67e6c92ddb1128163d5ead89d48795bf7ab934eaf868c35ac32495b0df9c4ff3") true
    lawDecodeLines.over (fun _ h => by cases h) (by kernel_rfl) (fun _ h => by cases h) fnExactDecodeLines_row_tie rfl ⟨rfl, rfl⟩ (by kernel_rfl) rfl
    (fun f fn hf hfn => by
      obtain rfl : f = 4 := Option.some.inj ((show Tryz.prog.funcNamed Rows.fnExactDecodeLinesRow.func = some 4 by kernel_rfl).symm.trans hf) |>.symm
      obtain rfl : fn = Tryz.f4 := (Option.some.inj (Tryz.func4.symm.trans hfn)).symm
      exact ⟨by kernel_rfl, fun j t ht => by
        rw [Tryz.params4] at ht
        have hm : t ∈ [9] := by simpa using Array.mem_of_getElem? ht
        have hall : ([9].all fun u => !Tryz.prog.wantsStandIn u) = true := by kernel_rfl
        exact (show Tryz.prog.wantsStandIn t = false by simpa using List.all_eq_true.1 hall t hm)⟩)
    (by kernel_rfl)
#print axioms lawDecodeLines_holds
end Go.Proofs.YtepfdlbnnkojbaaGreatDoor
