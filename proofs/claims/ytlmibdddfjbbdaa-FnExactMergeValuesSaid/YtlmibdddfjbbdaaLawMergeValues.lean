/-
  Proved: at every argument impl.MergeValues answers as spec.MergeValues, every field, writes nothing into its arguments, and its answer owns its memory (laws.FnExactMergeValues returns true). No condition.
-/
import Derived.Test.YtlmibdddfjbbdaaM50
import Derived.Test.YtlmibdddfjbbdaaM51
import Derived.ChangeOld
import Derived.ShutString
namespace Go.Proofs.Ytlmibdddfjbbdaa
open Go.ChangeShapes Go.WideShapes Go.ChangeAt Go.RowKit
open Go.ChangeMaps (open_string shut_string)
set_option linter.unusedVariables false

theorem rowAlloc {w : World} {b : Nat} {t : TypeId} {l : List M.Cl} (h : OwnRow w b t l) (o : Obj) : OwnRow (w.alloc o) b t l := by
  obtain ⟨xs, p1, p2⟩ := h
  exact ⟨xs, p1.alloc _, p2⟩
theorem But.res {B b : Nat} {w w' : World} (h : But B b w w') {C : Nat} {s : Value} {l : List M.Cl} (hr : Res w C s l) (hB : w.heap.size ≤ B) (hne : s.ownBlock ≠ some b) : Res w' C s l := by
  obtain ⟨q1, q2 | ⟨c, cc, q3, q4, q5, q6⟩⟩ := hr
  · exact ⟨q1, .inl q2⟩
  · exact ⟨q1, .inr ⟨c, cc, q3, q4, q5, h.ownG q6 (Nat.lt_of_lt_of_le q6.lt hB) (fun e => hne (by rw [q3, e]; rfl))⟩⟩

set_option maxRecDepth 100000 in
set_option maxHeartbeats 8000000 in
theorem lawMergeValues_walk (a : Option Addr) (cap : Nat) (l : List M.Cl) (a' : Option Addr) (cap' : Nat) (l' : List M.Cl) (w : World) (hA : Cells w a cap l) (hA' : Cells w a' cap' l') :
    Calls Try.prog 3 #[.slice a l.length cap, .slice a' l'.length cap'] w fun e w' => e = .returned (.bool true) ∧ Below w.heap.size w w' := by
  have HA := hide hA
  have HA' := hide hA'
  clear hA hA'
  go_enter Try.func3, Try.ntmps3
  go_wp2_with fail
  refine (sz_arg a cap l _ _ (unhide HA) (by decide) (by decide)).mono ?_
  rintro e w1 ⟨r, rfl, hr, hb1⟩
  rcases hr with hr | ⟨hr0, hr1⟩
  · go_wp2_with fail
    go_ret
    exact ⟨rfl, hb1⟩
  have hn : l.length ≤ 1048576 := by omega
  have hr2 : r ≤ 1048576 := by omega
  have hok := hide (unhide HA).2.2.1
  clear hr1
  go_wp2_with fail
  refine (sz_arg a' cap' l' _ _ ((unhide HA').below hb1) hr0 hr2).mono ?_
  rintro e w2 ⟨r', rfl, hr, hb2⟩
  have B2 : Below w.heap.size w w2 := hb1.trans (hb2.mono hb1.size)
  clear hb1 hb2
  rcases hr with hr | ⟨hr3, hr1⟩
  · go_wp2_with fail
    go_ret
    exact ⟨rfl, B2⟩
  have hn' : l'.length ≤ 1048576 := by omega
  have hok' := hide (unhide HA').2.2.1
  clear hr1 hr2 hr0
  go_wp2_with fail
  refine (to_arg a cap l _ ((unhide HA).below B2) hn).mono ?_
  rintro e w3 ⟨rfl, ho3, hb3⟩
  have B3 : Below w.heap.size w w3 := B2.trans (hb3.mono B2.size)
  clear hb3
  go_wp2_with fail
  refine (to_arg a' cap' l' _ ((unhide HA').below B3) hn').mono ?_
  rintro e w4 ⟨rfl, hp4, hb4⟩
  have B4 : Below w.heap.size w w4 := B3.trans (hb4.mono B3.size)
  have ho4 := ho3.below hb4 ho3.lt
  clear hb4 ho3
  go_wp2_with fail
  refine (Mg.specMerge_any l w2.heap.size 0 l.length l' w3.heap.size 0 l'.length _ ho4.row ho4.lt hn (Nat.le_refl _) (unhide hok) hp4.row hp4.lt hn' (Nat.le_refl _) (unhide hok')).mono ?_
  rintro e w5 ⟨s, rfl, hrs, hb5⟩
  have B5 : Below w.heap.size w w5 := B4.trans (hb5.mono B4.size)
  have hr5 : Res w5 w.heap.size s (Mg.mergeOut l l').2 := hrs.mono B4.size
  clear hb5 ho4 hp4 B2 B3 B4 hrs
  generalize hR : Mg.mergeOut l l' = R at *
  obtain ⟨code, rl⟩ := R
  simp only at hr5 ⊢
  have HR := hide hR
  clear hR
  have hlt1 : ∀ b, s.ownBlock = some b → b < w5.heap.size := hr5.lt
  have hs5 : w.heap.size ≤ w5.heap.size := B5.size
  obtain ⟨a1, m1, c1, rfl⟩ := hr5.shape
  go_wp2_with fail
  have B5' : Below w.heap.size w (w5.alloc (.cells #[.int .i64 code, .slice a1 m1 c1] 26)) := B5.alloc B5.size _
  have hX5 : Own (w5.alloc (.cells #[.int .i64 code, .slice a1 m1 c1] 26)) w5.heap.size 26 [.int .i64 code, .slice a1 m1 c1] := ⟨_, heap_alloc_new _ _, rfl⟩
  refine (to_arg a cap l _ ((unhide HA).below B5') hn).mono ?_
  rintro e w6 ⟨rfl, ho6, hb6⟩
  have hX6 := hX5.below hb6 (by simp)
  have hr6 := (hr5.alloc _).below hb6
  have B6 : Below w.heap.size w w6 := B5'.trans (hb6.mono (by simp; omega))
  have hs6 : w5.heap.size + 1 < w6.heap.size := by have := ho6.lt; simpa using this
  clear B5' hX5 hb6 hr5 B5
  simp only [World.size_alloc] at ho6 ⊢
  go_wp2_with fail
  refine (to_arg a' cap' l' _ ((unhide HA').below B6) hn').mono ?_
  rintro e w7 ⟨rfl, hp7, hb7⟩
  have hX7 := hX6.below hb7 hX6.lt
  have ho7 := ho6.below hb7 ho6.lt
  have hr7 := hr6.below hb7
  have B7 : Below w.heap.size w w7 := B6.trans (hb7.mono B6.size)
  have hs7 : w6.heap.size < w7.heap.size := hp7.lt
  clear hb7 hX6 ho6 hr6 B6
  go_wp2_with fail
  refine (Mg.implMerge_any l (w5.heap.size + 1) 0 l.length l' w6.heap.size 0 l'.length _ ho7.row ho7.lt hn (Nat.le_refl _) (unhide hok) hp7.row hp7.lt hn' (Nat.le_refl _) (unhide hok')).mono ?_
  rintro e w8 ⟨s2, rfl, hg8, hb8⟩
  rw [unhide HR] at hg8 ⊢
  simp only at hg8 ⊢
  have hge2 : ∀ b, s2.ownBlock = some b → w7.heap.size ≤ b := hg8.base
  have hlt2 : ∀ b, s2.ownBlock = some b → b < w8.heap.size := hg8.lt
  have hX8 := hX7.below hb8 hX7.lt
  have ho8 := ho7.below hb8 ho7.lt
  have hp8 := hp7.below hb8 hp7.lt
  have hr8 := hr7.below hb8
  have B8 : Below w.heap.size w w8 := B7.trans (hb8.mono B7.size)
  have hs8 : w7.heap.size ≤ w8.heap.size := hb8.size
  clear hb8 hX7 ho7 hp7 hr7 B7
  obtain ⟨a2, m2, c2, rfl⟩ := hg8.shape
  have x0 : ∀ o, (w8.alloc o).cell? ⟨w5.heap.size, 0, none⟩ = some (.int .i64 code) := fun o => (hX8.alloc o).cell 0
  have x1 : ∀ o, (w8.alloc o).cell? ⟨w5.heap.size, 1, none⟩ = some (.slice a1 m1 c1) := fun o => (hX8.alloc o).cell 1
  go_wp2_with fail
  refine (eqValueResult_any code (.slice a2 m2 c2) (.slice a1 m1 c1) _ _ rl _ (hg8.alloc _) (hr8.alloc _)).mono ?_
  rintro e w9 ⟨rfl, hb9⟩
  have hX9 := (hX8.alloc _).below hb9 (by have := hX8.lt; simp; omega)
  have ho9 := (rowAlloc ho8 _).below hb9 (by have := ho8.lt; simp; omega)
  have hp9 := (rowAlloc hp8 _).below hb9 (by have := hp8.lt; simp; omega)
  have hr9 := (hr8.alloc _).below hb9
  have hg9 := (hg8.alloc _).below hb9
  have hY9 : Own w9 w8.heap.size 26 [.int .i64 code, .slice a2 m2 c2] := Own.below ⟨_, heap_alloc_new _ _, rfl⟩ hb9 (by simp)
  have B9 : Below w.heap.size w w9 := (B8.alloc B8.size _).trans (hb9.mono (by simp; have := B8.size; omega))
  clear x0 x1 hb9 hX8 ho8 hp8 hr8 hg8 B8
  go_wp2_with fail
  refine (to_arg a cap l _ ((unhide HA).below B9) hn).mono ?_
  rintro e w10 ⟨rfl, hq10, hb10⟩
  have hX10 := hX9.below hb10 hX9.lt
  have hY10 := hY9.below hb10 hY9.lt
  have ho10 := ho9.below hb10 ho9.lt
  have hp10 := hp9.below hb10 hp9.lt
  have hr10 := hr9.below hb10
  have hg10 := hg9.below hb10
  have B10 : Below w.heap.size w w10 := B9.trans (hb10.mono B9.size)
  clear hb10 hX9 hY9 ho9 hp9 hr9 hg9 B9
  go_wp2_with fail
  refine (eqCellS_same (w5.heap.size + 1) 0 l.length w9.heap.size 0 l.length l _ ho10.row ho10.lt hq10.row hq10.lt hn (Nat.le_refl _) (Nat.le_refl _)).mono ?_
  rintro e w11 ⟨rfl, hb11⟩
  have hX11 := hX10.below hb11 hX10.lt
  have hY11 := hY10.below hb11 hY10.lt
  have ho11 := ho10.below hb11 ho10.lt
  have hp11 := hp10.below hb11 hp10.lt
  have hr11 := hr10.below hb11
  have hg11 := hg10.below hb11
  have B11 : Below w.heap.size w w11 := B10.trans (hb11.mono B10.size)
  clear hb11 hq10 hX10 hY10 ho10 hp10 hr10 hg10 B10
  go_wp2_with fail
  refine (to_arg a' cap' l' _ ((unhide HA').below B11) hn').mono ?_
  rintro e w12 ⟨rfl, hq12, hb12⟩
  have hX12 := hX11.below hb12 hX11.lt
  have hY12 := hY11.below hb12 hY11.lt
  have ho12 := ho11.below hb12 ho11.lt
  have hp12 := hp11.below hb12 hp11.lt
  have hr12 := hr11.below hb12
  have hg12 := hg11.below hb12
  have B12 : Below w.heap.size w w12 := B11.trans (hb12.mono B11.size)
  clear hb12 hX11 hY11 ho11 hp11 hr11 hg11 B11
  go_wp2_with fail
  refine (eqCellS_same w6.heap.size 0 l'.length w11.heap.size 0 l'.length l' _ hp12.row hp12.lt hq12.row hq12.lt hn' (Nat.le_refl _) (Nat.le_refl _)).mono ?_
  rintro e w13 ⟨rfl, hb13⟩
  have hX13 := hX12.below hb13 hX12.lt
  have hY13 := hY12.below hb13 hY12.lt
  have ho13 := ho12.below hb13 ho12.lt
  have hp13 := hp12.below hb13 hp12.lt
  have hr13 := hr12.below hb13
  have hg13 := hg12.below hb13
  have B13 : Below w.heap.size w w13 := B12.trans (hb13.mono B12.size)
  clear hb13 hq12 hX12 hY12 ho12 hp12 hr12 hg12 B12
  go_wp2_with fail
  refine (markCellS_any (w5.heap.size + 1) l.length l 1 _ ho13.wide hn (Nat.le_refl _) (by decide) (by decide)).mono ?_
  rintro e w14 ⟨rfl, _, hm⟩
  have hX14 : Own w14 w5.heap.size 26 [.int .i64 code, .slice a1 m1 c1] := hm.own hX13 hX13.lt (by omega)
  have hY14 : Own w14 w8.heap.size 26 [.int .i64 code, .slice a2 m2 c2] := hm.own hY13 hY13.lt (by omega)
  have hp14 : OwnRow w14 w6.heap.size 41 l' := hm.ownRow hp13 hp13.lt (by omega)
  have hr14 : Res w14 w.heap.size (.slice a1 m1 c1) rl := hm.res hr13 (Nat.le_refl _) (fun e => by have := hlt1 _ e; omega)
  have hg14 : Res w14 w7.heap.size (.slice a2 m2 c2) rl := hm.res hg13 (Nat.le_refl _) (fun e => by have := hge2 _ e; omega)
  have B14 : Below w.heap.size w w14 := B13.trans (hm.below B13.size (by omega))
  clear hm hX13 hY13 ho13 hp13 hr13 hg13 B13
  go_wp2_with fail
  refine (markCellS_any w6.heap.size l'.length l' (1 + 5 * (l.length : Int)) _ hp14.wide hn' (Nat.le_refl _) (by omega) (by omega)).mono ?_
  rintro e w15 ⟨rfl, _, hm⟩
  have hX15 : Own w15 w5.heap.size 26 [.int .i64 code, .slice a1 m1 c1] := hm.own hX14 hX14.lt (by omega)
  have hY15 : Own w15 w8.heap.size 26 [.int .i64 code, .slice a2 m2 c2] := hm.own hY14 hY14.lt (by omega)
  have hr15 : Res w15 w.heap.size (.slice a1 m1 c1) rl := hm.res hr14 (Nat.le_refl _) (fun e => by have := hlt1 _ e; omega)
  have hg15 : Res w15 w7.heap.size (.slice a2 m2 c2) rl := hm.res hg14 (Nat.le_refl _) (fun e => by have := hge2 _ e; omega)
  have B15 : Below w.heap.size w w15 := B14.trans (hm.below B14.size (by omega))
  clear hm hX14 hY14 hp14 hr14 hg14 B14
  have x0 := hX15.cell 0
  have x1 := hX15.cell 1
  have y0 := hY15.cell 0
  have y1 := hY15.cell 1
  simp only [List.getElem?_cons_zero, List.getElem?_cons_succ] at x0 x1 y0 y1
  have d15 : decide ((1 : Int) + 5 * (l.length : Int) + 5 * (l'.length : Int) < 0) = false := decide_eq_false (by omega)
  go_wp2_with fail
  refine (eqValueResult_any code (.slice a2 m2 c2) (.slice a1 m1 c1) _ _ rl _ hg15 hr15).mono ?_
  rintro e w16 ⟨rfl, hb16⟩
  have hX16 := hX15.below hb16 hX15.lt
  have hY16 := hY15.below hb16 hY15.lt
  have hr16 := hr15.below hb16
  have hg16 := hg15.below hb16
  have B16 : Below w.heap.size w w16 := B15.trans (hb16.mono B15.size)
  clear x0 x1 y0 y1 d15 hb16 hX15 hY15 hr15 hg15 B15
  have y0 := hY16.cell 0
  have y1 := hY16.cell 1
  simp only [List.getElem?_cons_zero, List.getElem?_cons_succ] at y0 y1
  go_wp2_with fail
  refine (markValueResult_any code (.slice a2 m2 c2) _ rl 1 _ hg16 (by decide) (by decide)).mono ?_
  rintro e w17 ⟨rfl, hm17, hv17⟩
  have hX17 : Own w17 w5.heap.size 26 [.int .i64 code, .slice a1 m1 c1] := hv17.own hX16 (fun e => by have := hge2 _ e; omega)
  have hY17 : Own w17 w8.heap.size 26 [.int .i64 code, .slice a2 m2 c2] := hv17.own hY16 (fun e => by have := hlt2 _ e; omega)
  have hr17 : Res w17 w.heap.size (.slice a1 m1 c1) rl := hv17.res hr16 (fun b h1 h2 => by have := hge2 _ h1; have := hlt1 _ h2; omega)
  have B17 : Below w.heap.size w w17 := B16.trans (hv17.below B16.size (fun b hb => by have := hge2 b hb; omega))
  clear y0 y1 hX16 hY16 hr16 hg16 hv17 B16
  have hln := hm17.1
  rw [marked_length] at hln
  have y0 := hY17.cell 0
  have y1 := hY17.cell 1
  simp only [List.getElem?_cons_zero, List.getElem?_cons_succ] at y0 y1
  go_wp2_with fail
  refine (heldValueResult_any code (.slice a2 m2 c2) _ rl.length 1 _ hm17 (by decide) (by decide) hln).mono ?_
  rintro e w18 ⟨rfl, hb18⟩
  have hX18 := hX17.below hb18 hX17.lt
  have hY18 := hY17.below hb18 hY17.lt
  have hr18 := hr17.below hb18
  have hm18 := hm17.below hb18
  have B18 : Below w.heap.size w w18 := B17.trans (hb18.mono B17.size)
  clear y0 y1 hb18 hX17 hY17 hr17 hm17 B17
  go_wp2_with fail
  refine (to_arg a cap l _ ((unhide HA).below B18) hn).mono ?_
  rintro e w19 ⟨rfl, ho19, hb19⟩
  have hX19 := hX18.below hb19 hX18.lt
  have hY19 := hY18.below hb19 hY18.lt
  have hr19 := hr18.below hb19
  have hm19 := hm18.below hb19
  have B19 : Below w.heap.size w w19 := B18.trans (hb19.mono B18.size)
  clear hb19 hX18 hY18 hr18 hm18 B18
  go_wp2_with fail
  refine (to_arg a' cap' l' _ ((unhide HA').below B19) hn').mono ?_
  rintro e w20 ⟨rfl, hp20, hb20⟩
  have ho20 := ho19.below hb20 ho19.lt
  have hX20 := hX19.below hb20 hX19.lt
  have hY20 := hY19.below hb20 hY19.lt
  have hr20 := hr19.below hb20
  have hm20 := hm19.below hb20
  have B20 : Below w.heap.size w w20 := B19.trans (hb20.mono B19.size)
  clear hb20 ho19 hX19 hY19 hr19 hm19 B19
  go_wp2_with fail
  refine (Mg.implMerge_any l w18.heap.size 0 l.length l' w19.heap.size 0 l'.length _ ho20.row ho20.lt hn (Nat.le_refl _) (unhide hok) hp20.row hp20.lt hn' (Nat.le_refl _) (unhide hok')).mono ?_
  rintro e w21 ⟨s3, rfl, hh21, hb21⟩
  rw [unhide HR] at hh21 ⊢
  simp only at hh21 ⊢
  have hX21 := hX20.below hb21 hX20.lt
  have hY21 := hY20.below hb21 hY20.lt
  have hr21 := hr20.below hb21
  have hm21 := hm20.below hb21
  have B21 : Below w.heap.size w w21 := B20.trans (hb21.mono B20.size)
  clear hb21 ho20 hp20 hX20 hY20 hr20 hm20 B20
  obtain ⟨a3, m3, c3, rfl⟩ := hh21.shape
  have x0 : ∀ o, (w21.alloc o).cell? ⟨w5.heap.size, 0, none⟩ = some (.int .i64 code) := fun o => (hX21.alloc o).cell 0
  have x1 : ∀ o, (w21.alloc o).cell? ⟨w5.heap.size, 1, none⟩ = some (.slice a1 m1 c1) := fun o => (hX21.alloc o).cell 1
  go_wp2_with fail
  refine (eqValueResult_any code (.slice a3 m3 c3) (.slice a1 m1 c1) _ _ rl _ (hh21.alloc _) (hr21.alloc _)).mono ?_
  rintro e w22 ⟨rfl, hb22⟩
  have hY22 := (hY21.alloc _).below hb22 (by have := hY21.lt; simp; omega)
  have hm22 := (hm21.alloc _).below hb22
  have B22 : Below w.heap.size w w22 := (B21.alloc B21.size _).trans (hb22.mono (by simp; have := B21.size; omega))
  clear x0 x1 hX21 hY21 hr21 hm21 hh21 hb22 B21
  have y0 := hY22.cell 0
  have y1 := hY22.cell 1
  simp only [List.getElem?_cons_zero, List.getElem?_cons_succ] at y0 y1
  go_wp2_with fail
  refine (heldValueResult_any code (.slice a2 m2 c2) _ rl.length 1 _ hm22 (by decide) (by decide) hln).mono ?_
  rintro e w23 ⟨rfl, hb23⟩
  have B23 : Below w.heap.size w w23 := B22.trans (hb23.mono B22.size)
  clear y0 y1 hY22 hm22 hb23 B22
  go_wp2_with fail
  go_ret
  exact ⟨rfl, B23⟩

namespace lawMergeValues
theorem own : ownKnob Try.prog.godebug = none := by kernel_rfl
theorem laidOut : laidOutB Try.prog = true := by kernel_rfl

set_option maxRecDepth 100000 in
theorem lifted (os : Os) (started : os.Started) (H : Type) (enc : TypeId × Value → H) :
    ReturnsInHanded {} Try.checked os 3 .any (Rows.fnExactMergeValuesSpec.pre6 enc Try.prog Try.f3 Rows.fnExactMergeValuesRow.domain false) (Rows.fnExactMergeValuesSpec.post enc Try.prog Try.f3 false true false false) := by
  refine returnsInHanded_of_change (C := Try.checked) own started (by kernel_rfl) Try.func3
    (ChangeSpec.witness6 (enc := enc) (C := Try.checked) false ⟨#[], #[.slice none 0 0, .slice none 0 0], []⟩ 8 (by kernel_rfl) (by kernel_rfl) (by kernel_rfl) (by kernel_rfl)) ?_
  intro W base args ds gs before hval0 hW hcnd _
  have hval : ∀ (j : Nat) t v, Try.f3.params[j]? = some t → args[j]? = some v → Value.okWide Try.prog W .any base t v := hval0
  have hW' := hW
  obtain ⟨p, q, hA0, hV, rfl, hfz, hnd⟩ := hW
  have hA : DataW.TrodAll enc Try.prog W 0 (fun _ => true) true Try.f3.params.toList args.toList ds p := hA0
  rw [Try.params3] at hA hval
  obtain ⟨v0, vs0, d0, ds0, p0, q0, hargs, rfl, rfl, h0, r0⟩ := trodAll_cons hA
  obtain ⟨v1, vs1, d1, ds1, p1, q1, rfl, rfl, rfl, h1, r1⟩ := trodAll_cons r0
  obtain ⟨rfl, rfl, rfl⟩ := trodAll_nil r1
  obtain rfl : args = #[v0, v1] := by cases args; simp_all
  obtain ⟨rfl, rfl⟩ := trodVars_none hV
  obtain ⟨a0, len0, cap0, rfl⟩ := okWide_slice Try.underlying22 (hval 0 22 v0 rfl rfl)
  have k0 := h0
  have lt0 : ∀ x ∈ p0, x.block < W.heap.size := by obtain ⟨m, hm⟩ := k0; exact DataW.trod_lt m _ _ _ hm
  obtain ⟨l0, hl0, w0⟩ : ∃ l : List M.Cl, l.length = len0 ∧ Cells W a0 cap0 l := by
    obtain ⟨fuel, hf⟩ := h0
    exact open_cells hf lt0
  subst hl0
  obtain ⟨a1, len1, cap1, rfl⟩ := okWide_slice Try.underlying22 (hval 1 22 v1 rfl rfl)
  have k1 := h1
  have lt1 : ∀ x ∈ p1, x.block < W.heap.size := by obtain ⟨m, hm⟩ := k1; exact DataW.trod_lt m _ _ _ hm
  obtain ⟨l1, hl1, w1⟩ : ∃ l : List M.Cl, l.length = len1 ∧ Cells W a1 cap1 l := by
    obtain ⟨fuel, hf⟩ := h1
    exact open_cells hf lt1
  subst hl1
  clear hA0 hval0
  refine (lawMergeValues_walk a0 cap0 l0 a1 cap1 l1 W w0 w1).mono fun e W' ⟨he, bel⟩ => ?_
  subst he
  exact ⟨_, rfl, _, _, _, [], _, [], hW', trodAll_mk1 (shut_bool Try.underlying4 _), (trodAll_cons_mk (Below.trod laidOut (by kernel_rfl) (of_decide_eq_true (by kernel_rfl)) k0 bel lt0) (trodAll_cons_mk (Below.trod laidOut (by kernel_rfl) (of_decide_eq_true (by kernel_rfl)) k1 bel lt1) trodAll_mk0)), rfl, bel.frame _, fun h => by cases h⟩

theorem over : Rows.fnExactMergeValuesRow.holds Try.pinned (OpenSpec.ofChange Rows.fnExactMergeValuesSpec) :=
  OpenClaim.holds_of_wide 3 Try.f3 rfl rfl rfl rfl rfl rfl rfl ⟨rfl, rfl, rfl, rfl, rfl⟩ rfl rfl rfl rfl rfl (by kernel_rfl) Try.func3 (by kernel_rfl)
    (of_decide_eq_true (by kernel_rfl)) (by unfold Func.isWrapper; first | (rw [if_pos (by decide +kernel)]; kernel_rfl) | (rw [if_neg (by decide +kernel)]; exact ⟨rfl, rfl⟩))
    (fun os started H enc _ => lifted os started H enc)
end lawMergeValues

/-- The statement. -/
theorem lawMergeValues_holds : Rows.FnExactMergeValuesSaid := lawMergeValues.over
#print axioms lawMergeValues_holds
end Go.Proofs.Ytlmibdddfjbbdaa
