/-
  Both KindsCores: how many nodes have each Op.
-/
import Derived.Test.YtkjmnkbiflkpdaaKnW
import Derived.Test.YtkjmnkbiflkpdaaIntO
namespace Go.Proofs.Ytkjmnkbiflkpdaa
open Go.RowKit
set_option linter.unusedVariables false
set_option linter.unusedSimpArgs false

namespace Kn
/-- Numbers of the 17 Ops. -/
def ops17 (f : Nat → Int) : List Int := (List.range 17).map f
theorem ops17_len (f : Nat → Int) : (ops17 f).length = 17 := by simp [ops17]
theorem ops17_get (f : Nat → Int) {i : Nat} (h : i < 17) : (ops17 f).getD i 0 = f i := by
  unfold ops17
  rw [List.getD_eq_getElem?_getD, List.getElem?_map, List.getElem?_range h]
  rfl
theorem ops17_ext {f g : Nat → Int} (h : ∀ j, j < 17 → f j = g j) : ops17 f = ops17 g := List.map_congr_left fun j hj => h j (by simpa using hj)
def kout (l : List Co) : Int × List Int := if Co.fault l ≠ 0 then (Co.fault l, []) else (0, ops17 fun j => cnt l j (Tr.up 0 l.length))
theorem cnt_next (l : List Co) (j k : Nat) : cnt l j (Tr.up 0 (k + 1)) = cnt l j (Tr.up 0 k) + ownK (l.getD k Co.zero).op j := by rw [Tr.up_succ, cnt_app, Nat.zero_add, cnt_one]
theorem made17 (l : List Co) : (madeCells #[.int .i64 0] (17 * 1)).toList = kis fun j => cnt l j (Tr.up 0 0) := by
  have e : (kis fun j => cnt l j (Tr.up 0 0)) = kis fun _ => 0 := kis_ext fun j _ => rfl
  rw [e]
  unfold madeCells kis
  simp
  intro a _
  rw [Nat.mod_one]
  rfl
theorem ints_co {w : World} {b : Nat} {x y : Value} (h : Own w b 34 [x, y]) : w.cell? ⟨b, 0, none⟩ = some x ∧ w.cell? ⟨b, 1, none⟩ = some y := ⟨h.cell 0, h.cell 1⟩
theorem kis_next (l : List Co) (k i : Nat) (h : (l.getD k Co.zero).op = (i : Int) + 1) : (kis fun j => cnt l j (Tr.up 0 k)).set i (.int .i64 (cnt l i (Tr.up 0 k) + 1)) = kis fun j => cnt l j (Tr.up 0 (k + 1)) := by
  rw [kis_set]
  refine kis_ext fun j hj => ?_
  rw [cnt_next]
  unfold ownK
  by_cases e : j = i
  · subst e; rw [if_pos rfl, if_pos h]
  · rw [if_neg e, if_neg (by omega)]; omega
end Kn
set_option maxRecDepth 100000 in
set_option maxHeartbeats 4000000 in
theorem specKindsCore_any (b : Nat) (l : List Co) (w : World) (hrow : Co.Row w b l) (hb : b < w.heap.size) (hn : l.length ≤ 1048576) (hsz : ∀ i, i < l.length → (l.getD i Co.zero).val.length ≤ 1048576) (hok : ∀ c ∈ l, c.ok) :
    Calls Try.prog 12 #[.slice (some ⟨b, 0, none⟩) l.length l.length] w fun e w' => ∃ s, e = .returned (.agg #[.int .i64 (Kn.kout l).1, s]) ∧ ResO w' w.heap.size s (Kn.kout l).2 ∧ Below w.heap.size w w' := by
  have HR := hide (fun (V : World) (hV : Below w.heap.size w V) => hrow.below hV hb)
  obtain ⟨w0, hw0⟩ : ∃ w0, w0 = w.alloc (.cells #[.int .i64 0, .slice none 0 0] 34) := ⟨_, rfl⟩
  have B0 : Below w.heap.size w w0 := by rw [hw0]; exact (Below.refl _ _).alloc (Nat.le_refl _) _
  have O0 : Own w0 w.heap.size 34 [.int .i64 0, .slice none 0 0] := by rw [hw0]; exact ⟨_, heap_alloc_new _ _, rfl⟩
  have HC := hide (specCoreFault_any b l w0 (hrow.below B0 hb) (Nat.lt_of_lt_of_le hb B0.size) hn hsz hok)
  clear hrow hsz hok
  go_enter Try.func12, Try.ntmps12
  go_wp2_with fail
  rw [← hw0]
  clear hw0
  refine (unhide HC).mono ?_
  rintro e w1 ⟨rfl, hb1⟩
  have B1 : Below w.heap.size w w1 := B0.trans (hb1.mono B0.size)
  have O1 := O0.below hb1 O0.lt
  clear O0 B0 hb1 HC
  by_cases hf : Co.fault l = 0
  case neg =>
    have fin := hide (show Kn.kout l = (Co.fault l, []) by unfold Kn.kout; rw [if_pos hf])
    generalize Co.fault l = q at *
    have g1 : (q != 0) = true := by simpa using hf
    clear hf
    obtain ⟨c0, c1⟩ := Kn.ints_co O1
    have z0 := O1.frozen 0
    have z1 := O1.frozen 1
    have O2 := hide ((O1.set 0 (.int .i64 q)).set 1 (.slice none 0 0))
    have B2 := hide (show Below w.heap.size w ((w1.setCell ⟨w.heap.size, 0, none⟩ (.int .i64 q)).setCell ⟨w.heap.size, 1, none⟩ (.slice none 0 0)) from (B1.setCell (Nat.le_refl _) _).setCell (Nat.le_refl _) _)
    clear O1 B1
    go_wp2_with fail
    obtain ⟨q0, q1⟩ := Kn.ints_co (x := .int .i64 q) (y := .slice none 0 0) (unhide O2)
    have BF := unhide B2
    clear O2 B2 c0 c1 z0 z1
    refine bodyPost_ret (v := .agg #[.int .i64 q, .slice none 0 0]) (by simp [results, Try.results12, go_sem, q0, q1]; try rfl) rfl ?_
    rw [unhide fin]
    exact ⟨_, rfl, ⟨by simp, .inl ⟨rfl, rfl⟩⟩, BF⟩
  have fin := hide (show Kn.kout l = (0, Kn.ops17 fun j => Kn.cnt l j (Tr.up 0 l.length)) by unfold Kn.kout; rw [if_neg (by simpa using hf)])
  obtain ⟨h0, h900, hnf, hord⟩ := Co.fault_all hf
  have hfine := Co.fine_of hnf
  have hop := co_ops hnf
  rw [hf]
  clear hf hnf
  have hmk : (Instr.makeSlice 32 (.int .i64 17) (.int .i64 17)).run Try.prog w1 = .ok (.slice (some ⟨w1.heap.size, 0, none⟩) 17 17) (w1.alloc (.cells (madeCells #[.int .i64 0] (17 * 1)) 2)) := Tr.make_ints 17 (by omega) w1
  have hs1 := B1.size
  obtain ⟨w2, hw2⟩ : ∃ w2, w2 = w1.alloc (.cells (madeCells #[.int .i64 0] (17 * 1)) 2) := ⟨_, rfl⟩
  have B2' : Below w.heap.size w w2 := by rw [hw2]; exact B1.alloc hs1 _
  have O2' : Own w2 w.heap.size 34 [.int .i64 0, .slice none 0 0] := by rw [hw2]; exact O1.below ((Below.refl _ _).alloc (Nat.le_refl _) _) O1.lt
  have OK : Own w2 w1.heap.size 2 (Kn.kis fun j => Kn.cnt l j (Tr.up 0 0)) := by
    rw [hw2]
    exact ⟨_, heap_alloc_new _ _, Kn.made17 l⟩
  rw [← hw2] at hmk
  have hne : w.heap.size ≠ w1.heap.size := Nat.ne_of_lt O1.lt
  generalize w1.heap.size = bo at *
  clear hw2 O1 B1
  have HOP := hide hop
  clear hfine hop hord
  go_wp2_with fail
  go_loopg [5] l.length (fun gh s5 wr => ∃ (k : Nat), Hid (gh = l.length - k) ∧ s5 = .int .i64 k ∧ k ≤ l.length ∧ Hid (Own wr bo 2 (Kn.kis fun j => Kn.cnt l j (Tr.up 0 k))) ∧ Hid (Own wr w.heap.size 34 [.int .i64 0, .slice none 0 0]) ∧ Hid (Below w.heap.size w wr))
  case atStart => exact ⟨0, rfl, rfl, by omega, OK, O2', B2'⟩
  case round =>
  clear OK O2' B2' hmk
  obtain ⟨k, hg, rfl, hk, HOK, HO2, HB2⟩ := hrel
  by_cases hlt : k < l.length
  · have hltI : (k : Int) < (l.length : Int) := by omega
    have hk0 : (0 : Int) ≤ (k : Int) := by omega
    obtain ⟨g0, _⟩ := (unhide HR) wr (unhide HB2) k hlt
    have hopk := (unhide HOP) k hlt
    obtain ⟨i, hio⟩ : ∃ i : Nat, (l.getD k Co.zero).op = (i : Int) + 1 := ⟨((l.getD k Co.zero).op - 1).toNat, by omega⟩
    have hi17 : i < 17 := by omega
    have hcn := Kn.cnt_le l i (Tr.up 0 k)
    rw [Tr.up_length] at hcn
    have hc : wr.cell? ⟨bo, i, none⟩ = some (.int .i64 (Kn.cnt l i (Tr.up 0 k))) := by rw [(unhide HOK).cell i, Kn.kis_get _ hi17]
    have hz := (unhide HOK).frozen i
    have NK := hide (show Own (wr.setCell ⟨bo, i, none⟩ (.int .i64 (Kn.cnt l i (Tr.up 0 k) + 1))) bo 2 (Kn.kis fun j => Kn.cnt l j (Tr.up 0 (k + 1))) by
      rw [← Kn.kis_next l k i hio]
      exact (unhide HOK).set i _)
    have NO := hide ((unhide HO2).setOther ⟨bo, i, none⟩ (.int .i64 (Kn.cnt l i (Tr.up 0 k) + 1)) hne)
    have NB := hide ((unhide HB2).setCell (p := ⟨bo, i, none⟩) hs1 (.int .i64 (Kn.cnt l i (Tr.up 0 k) + 1)))
    rw [hio] at g0
    generalize Kn.cnt l i (Tr.up 0 k) = x at *
    have hx0 : 0 ≤ x := hcn.1
    have hx1 : x ≤ 1000 := by omega
    have hiI : (i : Int) < 17 := by omega
    have hi0 : (0 : Int) ≤ (i : Int) := by omega
    have hii : (i : Int) + 1 - 1 = (i : Int) := by omega
    have hwi : IntKind.i64.wrap (i : Int) = (i : Int) := IntWalk.i64_in _ ⟨by omega, by omega⟩
    have hwx : IntKind.i64.wrap (x + 1) = x + 1 := IntWalk.i64_in _ ⟨by omega, by omega⟩
    clear HOK HO2 HB2 hcn hio hopk
    go_wp2_with fail
    go_roundg (l.length - (k + 1))
    case rel => exact ⟨k + 1, rfl, by go_num, by omega, unhide NK, unhide NO, unhide NB⟩
    case measure => have := hg.out; omega
  · have hltI : ¬ (k : Int) < (l.length : Int) := by omega
    have hke : k = l.length := by omega
    have OK3 := unhide HOK
    rw [hke] at OK3
    have O3' := unhide HO2
    have B3' := unhide HB2
    have HRES := hide (fun (V : World) (ho : Own V bo 2 (Kn.kis fun j => Kn.cnt l j (Tr.up 0 l.length))) => show ResO V w.heap.size (.slice (some ⟨bo, 0, none⟩) 17 17) (Kn.ops17 fun j => Kn.cnt l j (Tr.up 0 l.length)) from
      ⟨by rw [Kn.ops17_len]; omega, .inr ⟨bo, 0, 17, by rw [Kn.ops17_len], hs1, by rw [Kn.ops17_len]; exact Nat.le_refl _, 2, _, ho, by rw [Kn.ops17_len, Kn.kis_len]; exact Nat.le_refl _, fun j hj => by
        rw [Kn.ops17_len] at hj
        rw [Nat.zero_add, Kn.kis_get _ hj, Kn.ops17_get _ hj]⟩⟩)
    have OK4 := hide ((OK3.setOther ⟨w.heap.size, 0, none⟩ (.int .i64 0) (Ne.symm hne)).setOther ⟨w.heap.size, 1, none⟩ (.slice (some ⟨bo, 0, none⟩) 17 17) (Ne.symm hne))
    clear hke OK3 HOK HO2 HB2 HOP
    obtain ⟨c0, c1⟩ := Kn.ints_co O3'
    have z0 := O3'.frozen 0
    have z1 := O3'.frozen 1
    have O2 := hide ((O3'.set 0 (.int .i64 0)).set 1 (.slice (some ⟨bo, 0, none⟩) 17 17))
    have B2 := hide (show Below w.heap.size w ((wr.setCell ⟨w.heap.size, 0, none⟩ (.int .i64 0)).setCell ⟨w.heap.size, 1, none⟩ (.slice (some ⟨bo, 0, none⟩) 17 17)) from (B3'.setCell (Nat.le_refl _) _).setCell (Nat.le_refl _) _)
    clear O3' B3'
    go_wp2_with fail
    obtain ⟨q0, q1⟩ := Kn.ints_co (x := .int .i64 0) (y := .slice (some ⟨bo, 0, none⟩) 17 17) (unhide O2)
    have BF := unhide B2
    clear O2 B2 c0 c1 z0 z1
    refine bodyPost_ret (v := .agg #[.int .i64 0, .slice (some ⟨bo, 0, none⟩) 17 17]) (by simp [results, Try.results12, go_sem, q0, q1]; try rfl) rfl ?_
    rw [unhide fin]
    exact ⟨_, rfl, (unhide HRES) _ (unhide OK4), BF⟩
set_option maxRecDepth 100000 in
set_option maxHeartbeats 4000000 in
theorem implKindsCore_any (b : Nat) (l : List Co) (w : World) (hrow : Co.Row w b l) (hb : b < w.heap.size) (hn : l.length ≤ 1048576) (hsz : ∀ i, i < l.length → (l.getD i Co.zero).val.length ≤ 1048576) (hok : ∀ c ∈ l, c.ok) :
    Calls Try.prog 13 #[.slice (some ⟨b, 0, none⟩) l.length l.length] w fun e w' => ∃ s, e = .returned (.agg #[.int .i64 (Kn.kout l).1, s]) ∧ ResO w' w.heap.size s (Kn.kout l).2 ∧ Below w.heap.size w w' := by
  have HR := hide (fun (V : World) (hV : Below w.heap.size w V) => hrow.below hV hb)
  obtain ⟨w0, hw0⟩ : ∃ w0, w0 = w.alloc (.cells #[.int .i64 0, .slice none 0 0] 34) := ⟨_, rfl⟩
  have B0 : Below w.heap.size w w0 := by rw [hw0]; exact (Below.refl _ _).alloc (Nat.le_refl _) _
  have O0 : Own w0 w.heap.size 34 [.int .i64 0, .slice none 0 0] := by rw [hw0]; exact ⟨_, heap_alloc_new _ _, rfl⟩
  have HC := hide (implCoreFault_any b l w0 (hrow.below B0 hb) (Nat.lt_of_lt_of_le hb B0.size) hn hsz hok)
  clear hrow hsz hok
  go_enter Try.func13, Try.ntmps13
  go_wp2_with fail
  rw [← hw0]
  clear hw0
  refine (unhide HC).mono ?_
  rintro e w1 ⟨rfl, hb1⟩
  have B1 : Below w.heap.size w w1 := B0.trans (hb1.mono B0.size)
  have O1 := O0.below hb1 O0.lt
  clear O0 B0 hb1 HC
  by_cases hf : Co.fault l = 0
  case neg =>
    have fin := hide (show Kn.kout l = (Co.fault l, []) by unfold Kn.kout; rw [if_pos hf])
    generalize Co.fault l = q at *
    have g1 : (q != 0) = true := by simpa using hf
    clear hf
    obtain ⟨c0, c1⟩ := Kn.ints_co O1
    have z0 := O1.frozen 0
    have z1 := O1.frozen 1
    have O2 := hide ((O1.set 0 (.int .i64 q)).set 1 (.slice none 0 0))
    have B2 := hide (show Below w.heap.size w ((w1.setCell ⟨w.heap.size, 0, none⟩ (.int .i64 q)).setCell ⟨w.heap.size, 1, none⟩ (.slice none 0 0)) from (B1.setCell (Nat.le_refl _) _).setCell (Nat.le_refl _) _)
    clear O1 B1
    go_wp2_with fail
    obtain ⟨q0, q1⟩ := Kn.ints_co (x := .int .i64 q) (y := .slice none 0 0) (unhide O2)
    have BF := unhide B2
    clear O2 B2 c0 c1 z0 z1
    refine bodyPost_ret (v := .agg #[.int .i64 q, .slice none 0 0]) (by simp [results, Try.results13, go_sem, q0, q1]; try rfl) rfl ?_
    rw [unhide fin]
    exact ⟨_, rfl, ⟨by simp, .inl ⟨rfl, rfl⟩⟩, BF⟩
  have fin := hide (show Kn.kout l = (0, Kn.ops17 fun j => Kn.cnt l j (Tr.up 0 l.length)) by unfold Kn.kout; rw [if_neg (by simpa using hf)])
  obtain ⟨h0, h900, hnf, hord⟩ := Co.fault_all hf
  have hfine := Co.fine_of hnf
  have hop := co_ops hnf
  rw [hf]
  clear hf hnf
  have HN := hide (knownOfLast_any b l w1 ((unhide HR) w1 B1) (Nat.lt_of_lt_of_le hb B1.size) h0 h900 hop hfine (fun i hi => Kn.ki_fit hfine hord h900 hi))
  have HKI := hide (show (Kn.ops17 fun j => Kn.cnt l j (Tr.up 0 l.length)) = Kn.ops17 (Kn.at' l (l.length - 1)).ki from Kn.ops17_ext fun j _ => (Kn.ki_last hfine hord h0 j).symm)
  rw [unhide HKI] at fin
  generalize Kn.at' l (l.length - 1) = k at *
  clear hfine hop hord h0 HKI
  go_upto_region 4 with fail
  refine wp_region_lit ?_
  refine Kn.step_val (v := .slice (some ⟨b, 0, none⟩) l.length l.length) (w' := w1) rfl (by rfl) ?_
  simp only [Act.put, List.setIfInBounds_toArray, List.set_cons_zero, List.set_cons_succ]
  refine wpList_plain rfl fun K hK => ?_
  go_simp
  refine (unhide HN).mono ?_
  rintro e w2 ⟨rfl, hb2⟩
  have B2' : Below w.heap.size w w2 := B1.trans (hb2.mono B1.size)
  have O2' := O1.below hb2 O1.lt
  clear O1 B1 hb2 HN
  go_simp
  refine hK _ _ ?_
  clear hK K
  refine Kn.step_val (v := .pointer (some ⟨w2.heap.size, 0, none⟩)) (w' := w2.alloc (.cells Kn.zArr 55)) rfl (by kernel_rfl) ?_
  simp only [Act.put, List.setIfInBounds_toArray, List.set_cons_zero, List.set_cons_succ]
  refine Kn.step_skip (w' := w2.alloc (.cells (Kn.arr k) 55)) rfl (Kn.kn_store w2 k _ _ (.tmp 4) (.tmp 12) rfl rfl rfl) ?_
  simp only [Act.put, List.setIfInBounds_toArray, List.set_cons_zero, List.set_cons_succ]
  have OK : Own (w2.alloc (.cells (Kn.arr k) 55)) w2.heap.size 55 (Kn.cells k) := ⟨_, heap_alloc_new _ _, rfl⟩
  have O3' := O2'.below ((Below.refl _ _).alloc (Nat.le_refl _) (.cells (Kn.arr k) 55)) O2'.lt
  have B3' : Below w.heap.size w (w2.alloc (.cells (Kn.arr k) 55)) := B2'.alloc B2'.size _
  have hs2 := B2'.size
  have hne : w.heap.size ≠ w2.heap.size := Nat.ne_of_lt O2'.lt
  generalize (Kn.cells k).toArray = KA at *
  clear O2' B2'
  generalize w2.alloc (.cells (Kn.arr k) 55) = w3 at *
  generalize w2.heap.size = bo at *
  have HRES := hide (fun (V : World) (ho : Own V bo 55 (Kn.cells k)) => show ResO V w.heap.size (.slice (some ⟨bo, 3, none⟩) 17 17) (Kn.ops17 k.ki) from
    ⟨by rw [Kn.ops17_len]; omega, .inr ⟨bo, 3, 17, by rw [Kn.ops17_len], hs2, by rw [Kn.ops17_len]; exact Nat.le_refl _, 55, _, ho, by rw [Kn.ops17_len, Kn.cells_len]; exact Nat.le_refl _, fun j hj => by
      rw [Kn.ops17_len] at hj
      rw [Kn.cells_eq, show 3 + j = j + 1 + 1 + 1 by omega, Kn.ops17_get _ hj]
      exact Kn.kis_get _ hj⟩⟩)
  have OK4 := hide ((OK.setOther ⟨w.heap.size, 0, none⟩ (.int .i64 0) (Ne.symm hne)).setOther ⟨w.heap.size, 1, none⟩ (.slice (some ⟨bo, 3, none⟩) 17 17) (Ne.symm hne))
  clear OK
  obtain ⟨c0, c1⟩ := Kn.ints_co O3'
  have z0 := O3'.frozen 0
  have z1 := O3'.frozen 1
  have O2 := hide ((O3'.set 0 (.int .i64 0)).set 1 (.slice (some ⟨bo, 3, none⟩) 17 17))
  have B2 := hide (show Below w.heap.size w ((w3.setCell ⟨w.heap.size, 0, none⟩ (.int .i64 0)).setCell ⟨w.heap.size, 1, none⟩ (.slice (some ⟨bo, 3, none⟩) 17 17)) from (B3'.setCell (Nat.le_refl _) _).setCell (Nat.le_refl _) _)
  clear O3' B3'
  go_wp2_with fail
  obtain ⟨q0, q1⟩ := Kn.ints_co (x := .int .i64 0) (y := .slice (some ⟨bo, 3, none⟩) 17 17) (unhide O2)
  have BF := unhide B2
  clear O2 B2 c0 c1 z0 z1
  refine bodyPost_ret (v := .agg #[.int .i64 0, .slice (some ⟨bo, 3, none⟩) 17 17]) (by simp [results, Try.results13, go_sem, q0, q1]; try rfl) rfl ?_
  rw [unhide fin]
  exact ⟨_, rfl, (unhide HRES) _ (unhide OK4), BF⟩

end Go.Proofs.Ytkjmnkbiflkpdaa
