/-
  impl.knownOf: what is known of a node, out of what is known of its parts.
-/
import Derived.Test.YtkjmnkbiflkpdaaKnK
namespace Go.Proofs.Ytkjmnkbiflkpdaa
open Go.RowKit
set_option linter.unusedVariables false
set_option linter.unusedSimpArgs false

namespace Kn
/-- A node's own kind. -/
def ownK (op : Int) (j : Nat) : Int := if op = (j : Int) + 1 then 1 else 0
theorem kd_eq (c : Co) (L : List Kn) : kd c L = fo (ownK c.op) L := rfl
theorem ownK_fit (op : Int) : KF (ownK op) 1 := fun j _ => by unfold ownK; split <;> omega
theorem ownK_set {i : Nat} {op : Int} (h : op = (i : Int) + 1) : (kis fun _ => 0).set i (.int .i64 1) = kis (ownK op) := by
  rw [kis_set]
  refine kis_ext fun j hj => ?_
  unfold ownK
  by_cases e : j = i
  · subst e; rw [if_pos rfl, if_pos h]
  · rw [if_neg e, if_neg (by omega)]
theorem joined_kindsL (f : Nat → Int) (pv : Value) (L : List Kn) (w : World) (hl : Lies w pv L) (hL : ∀ k ∈ L, KF k.ki 1000) (hf : KF f 1) (hn : L.length ≤ 3) :
    Calls Try.prog 66 #[.agg (kis f).toArray, pv, .func (.func 67) #[] #[]] w fun e w' => e = .returned (.agg (kis (fo f L)).toArray) ∧ Below w.heap.size w w' := by
  rcases hl with ⟨rfl, rfl⟩ | ⟨q, cap, _, rfl, _, hr⟩
  · exact joined_kinds0 f none 0 w
  · exact joined_kinds f q 0 cap L w hr hL hf hn
theorem node_cells (c : Co) (L : List Kn) : cells (node c L) = .int .i64 (bd c L).1 :: .int .i64 (bd c L).2 :: .bool (mf c L) :: kis (fo (ownK c.op) L) := rfl
end Kn
set_option maxRecDepth 100000 in
set_option maxHeartbeats 4000000 in
theorem knownOf_any (c : Co) (ca : Option Addr) (cn cc : Nat) (pv : Value) (L : List Kn) (h1 : 1 ≤ c.op) (h2 : c.op ≤ 17) (hL : ∀ k ∈ L, Kn.Fit k) (hK : ∀ k ∈ L, Kn.KF k.ki 1000) (hn : L.length = Co.kids c.op) (w : World) (hl : Kn.Lies w pv L) :
    Calls Try.prog 51 #[.agg #[.int .i64 c.op, .int .i64 c.a, .int .i64 c.b, .int .i64 c.c, .int .i64 c.num, .slice ca cn cc], pv] w fun e w' => e = .returned (.agg (Kn.cells (Kn.node c L)).toArray) ∧ Below w.heap.size w w' := by
  have hk3 := Co.kids_le c.op
  have HB := hide (fun (V : World) (hb : Below w.heap.size w V) => boundsOf_any c ca cn cc pv L h1 h2 hL hn V (hl.below hb))
  have HM := hide (fun (V : World) (hb : Below w.heap.size w V) => mayFail_any c ca cn cc pv L h1 h2 hn V (hl.below hb))
  have HJ := hide (fun (V : World) (hb : Below w.heap.size w V) => Kn.joined_kindsL (Kn.ownK c.op) pv L V (hl.below hb) hK (Kn.ownK_fit _) (by omega))
  have HN := hide (Kn.node_cells c L)
  have HLEN := hide (show (Kn.cells (Kn.node c L)).length = 20 from rfl)
  have HONE := hide (Kn.cells_one (Kn.node c L))
  obtain ⟨i, hio⟩ : ∃ i : Nat, c.op = (i : Int) + 1 := ⟨(c.op - 1).toNat, by omega⟩
  have hi17 : i < 17 := by omega
  have HSET := hide (Kn.ownK_set hio)
  obtain ⟨pa, pn, pc, rfl⟩ : ∃ pa pn pc, pv = .slice pa pn pc := by
    rcases hl with ⟨_, h⟩ | ⟨q, cap, _, h, _, _⟩ <;> exact ⟨_, _, _, h⟩
  generalize Kn.cells (Kn.node c L) = A at *
  generalize Kn.fo (Kn.ownK c.op) L = F at *
  generalize (Kn.bd c L) = bd at *
  obtain ⟨b1, b2⟩ := bd
  generalize (Kn.mf c L) = m at *
  simp only at HB HM HN
  rw [hio] at HB HM HJ HSET ⊢
  clear hl hn hL hK hk3 h1 h2 hio
  generalize c.a = c1 at *
  generalize c.b = c2 at *
  generalize c.c = c3 at *
  generalize c.num = c4 at *
  obtain ⟨W, hW⟩ : ∃ W, W = ((w.alloc (.cells #[.int .i64 ((i : Int) + 1), .int .i64 c1, .int .i64 c2, .int .i64 c3, .int .i64 c4, .slice ca cn cc] 48)).alloc (.cells Kn.zArr 55)).alloc (.cells Kn.z17 53) := ⟨_, rfl⟩
  have BN : Below w.heap.size w W := by rw [hW]; exact Kn.bel3 _ _ _ _
  have OC : Own W w.heap.size 48 [.int .i64 ((i : Int) + 1), .int .i64 c1, .int .i64 c2, .int .i64 c3, .int .i64 c4, .slice ca cn cc] := by
    rw [hW]
    exact Own.below (w := w.alloc _) ⟨_, heap_alloc_new _ _, rfl⟩ (((Below.refl _ _).alloc (Nat.le_refl _) _).alloc (by simp) _) (by simp)
  have OK : Own W (w.heap.size + 1) 55 Kn.zArr.toList := by
    rw [hW]
    have h : Own ((w.alloc (.cells #[.int .i64 ((i : Int) + 1), .int .i64 c1, .int .i64 c2, .int .i64 c3, .int .i64 c4, .slice ca cn cc] 48)).alloc (.cells Kn.zArr 55)) (w.alloc (.cells #[.int .i64 ((i : Int) + 1), .int .i64 c1, .int .i64 c2, .int .i64 c3, .int .i64 c4, .slice ca cn cc] 48)).heap.size 55 Kn.zArr.toList := ⟨_, heap_alloc_new _ _, rfl⟩
    have h2 := h.below ((Below.refl _ _).alloc (Nat.le_refl _) (.cells Kn.z17 53)) h.lt
    simpa using h2
  have OZ : Own W (w.heap.size + 1 + 1) 53 (Kn.kis fun _ => 0) := by
    rw [hW]
    have h : Own (((w.alloc (.cells #[.int .i64 ((i : Int) + 1), .int .i64 c1, .int .i64 c2, .int .i64 c3, .int .i64 c4, .slice ca cn cc] 48)).alloc (.cells Kn.zArr 55)).alloc (.cells Kn.z17 53)) ((w.alloc (.cells #[.int .i64 ((i : Int) + 1), .int .i64 c1, .int .i64 c2, .int .i64 c3, .int .i64 c4, .slice ca cn cc] 48)).alloc (.cells Kn.zArr 55)).heap.size 53 (Kn.kis fun _ => 0) := ⟨_, heap_alloc_new _ _, by rw [Kn.z17_eq]⟩
    simpa using h
  -- behind region 2
  obtain ⟨W2, hW2⟩ : ∃ W2, W2 = W.setCell ⟨w.heap.size + 1 + 1, i, none⟩ (.int .i64 1) := ⟨_, rfl⟩
  have BN2 : Below w.heap.size w W2 := by rw [hW2]; exact BN.setCell (by simp only; omega) _
  have OC2 : Own W2 w.heap.size 48 [.int .i64 ((i : Int) + 1), .int .i64 c1, .int .i64 c2, .int .i64 c3, .int .i64 c4, .slice ca cn cc] := by rw [hW2]; exact OC.setOther _ _ (by simp only; omega)
  have OK2 : Own W2 (w.heap.size + 1) 55 Kn.zArr.toList := by rw [hW2]; exact OK.setOther _ _ (by simp only; omega)
  have OZ2 : Own W2 (w.heap.size + 1 + 1) 53 (Kn.kis (Kn.ownK ((i : Int) + 1))) := by rw [hW2, ← unhide HSET]; exact OZ.set i _
  have f0 : W.cell? ⟨w.heap.size, 0, none⟩ = some (.int .i64 ((i : Int) + 1)) := OC.cell 0
  have f1 : W.cell? ⟨w.heap.size + 1 + 1, i, none⟩ = some (.int .i64 0) := by rw [OZ.cell i, Kn.kis_get _ hi17]
  have f2 := OZ.frozen i
  have hiI : (i : Int) < 17 := by omega
  have hi0 : (0 : Int) ≤ (i : Int) := by omega
  have hwr : wrap64 ((i : Int) + 1 - 1) = (i : Int) := by rw [Kn.wrap_ok _ (by omega) (by omega)]; omega
  have hwr2 : wrap64 ((i : Int) + 1) = (i : Int) + 1 := Kn.wrap_ok _ (by omega) (by omega)
  have hii : (i : Int) + 1 - 1 = (i : Int) := by omega
  clear OC OK OZ HSET BN
  go_enter Try.func51, Try.ntmps51
  go_upto_region 0 with fail
  refine wp_region_lit ?_
  refine Kn.step_val (v := .pointer (some ⟨w.heap.size, 0, none⟩)) (w' := w.alloc (.cells #[.int .i64 ((i : Int) + 1), .int .i64 c1, .int .i64 c2, .int .i64 c3, .int .i64 c4, .slice ca cn cc] 48)) rfl (by kernel_rfl) ?_
  simp only [Act.put, List.setIfInBounds_toArray, List.set_cons_zero, List.set_cons_succ]
  refine Kn.step_val (v := .pointer (some ⟨w.heap.size + 1, 0, none⟩)) (w' := (w.alloc (.cells #[.int .i64 ((i : Int) + 1), .int .i64 c1, .int .i64 c2, .int .i64 c3, .int .i64 c4, .slice ca cn cc] 48)).alloc (.cells Kn.zArr 55)) rfl (by rw [← World.size_alloc w (.cells #[.int .i64 ((i : Int) + 1), .int .i64 c1, .int .i64 c2, .int .i64 c3, .int .i64 c4, .slice ca cn cc] 48)]; kernel_rfl) ?_
  simp only [Act.put, List.setIfInBounds_toArray, List.set_cons_zero, List.set_cons_succ]
  go_upto_region 1 with fail
  refine wp_region_lit ?_
  refine Kn.step_val (v := .pointer (some ⟨w.heap.size + 1 + 1, 0, none⟩)) (w' := W) rfl (by rw [hW, ← World.size_alloc w (.cells #[.int .i64 ((i : Int) + 1), .int .i64 c1, .int .i64 c2, .int .i64 c3, .int .i64 c4, .slice ca cn cc] 48), ← World.size_alloc (w.alloc (.cells #[.int .i64 ((i : Int) + 1), .int .i64 c1, .int .i64 c2, .int .i64 c3, .int .i64 c4, .slice ca cn cc] 48)) (.cells Kn.zArr 55)]; kernel_rfl) ?_
  simp only [Act.put, List.setIfInBounds_toArray, List.set_cons_zero, List.set_cons_succ]
  clear hW
  go_upto_region 3 with fail
  rw [← hW2]
  clear hW2 f0 f1 f2 hwr hwr2 hii hiI hi0
  refine Z.region 10 (fun w' => Below W2.heap.size W2 w') (by kernel_rfl) (Below.refl _ _).drew (fun hHeld => ?_)
  refine Z.take (i := 0) (d := 13) (v := .agg #[.int .i64 ((i : Int) + 1), .int .i64 c1, .int .i64 c2, .int .i64 c3, .int .i64 c4, .slice ca cn cc]) rfl rfl (by kernel_rfl) (by kernel_rfl) (by kernel_rfl) (by kernel_rfl) (fun _ _ _ h => h) (Or.inl ⟨by rfl, ?_⟩) hHeld ?_
  · intro w' hSw; exact Kn.exec_load rfl rfl (run_loadAt_mid w' w.heap.size 0 48 [.int .i64 ((i : Int) + 1), .int .i64 c1, .int .i64 c2, .int .i64 c3, .int .i64 c4, .slice ca cn cc] _ (Kn.own_range (OC2.below hSw OC2.lt)) Try.underlying48 rfl (by kernel_rfl))
  simp only [Act.put, List.setIfInBounds_toArray, List.set_cons_zero, List.set_cons_succ]
  refine Z.take (i := 1) (d := 14) (v := .slice pa pn pc) rfl rfl (by kernel_rfl) (by kernel_rfl) (by kernel_rfl) (by kernel_rfl) (fun _ _ _ h => h) (Or.inl ⟨by rfl, ?_⟩) hHeld ?_
  · intro w' hSw; go_simp
  simp only [Act.put, List.setIfInBounds_toArray, List.set_cons_zero, List.set_cons_succ]
  refine Z.take (i := 3) (d := 16) (v := .agg #[.int .i64 ((i : Int) + 1), .int .i64 c1, .int .i64 c2, .int .i64 c3, .int .i64 c4, .slice ca cn cc]) rfl rfl (by kernel_rfl) (by kernel_rfl) (by kernel_rfl) (by kernel_rfl) (fun _ _ _ h => h) (Or.inl ⟨by rfl, ?_⟩) hHeld ?_
  · intro w' hSw; exact Kn.exec_load rfl rfl (run_loadAt_mid w' w.heap.size 0 48 [.int .i64 ((i : Int) + 1), .int .i64 c1, .int .i64 c2, .int .i64 c3, .int .i64 c4, .slice ca cn cc] _ (Kn.own_range (OC2.below hSw OC2.lt)) Try.underlying48 rfl (by kernel_rfl))
  simp only [Act.put, List.setIfInBounds_toArray, List.set_cons_zero, List.set_cons_succ]
  refine Z.take (i := 4) (d := 17) (v := .slice pa pn pc) rfl rfl (by kernel_rfl) (by kernel_rfl) (by kernel_rfl) (by kernel_rfl) (fun _ _ _ h => h) (Or.inl ⟨by rfl, ?_⟩) hHeld ?_
  · intro w' hSw; go_simp
  simp only [Act.put, List.setIfInBounds_toArray, List.set_cons_zero, List.set_cons_succ]
  refine Z.take (i := 6) (d := 19) (v := .agg (Kn.kis (Kn.ownK ((i : Int) + 1))).toArray) rfl rfl (by kernel_rfl) (by kernel_rfl) (by kernel_rfl) (by kernel_rfl) (fun _ _ _ h => h) (Or.inl ⟨by rfl, ?_⟩) hHeld ?_
  · intro w' hSw; exact Kn.exec_load rfl rfl (run_loadAt_mid w' (w.heap.size + 1 + 1) 0 53 (Kn.kis (Kn.ownK ((i : Int) + 1))) _ (Kn.own_range (OZ2.below hSw OZ2.lt)) Try.underlying53 rfl (by rw [Kn.kis_len]; exact Kn.kiInfo))
  simp only [Act.put, List.setIfInBounds_toArray, List.set_cons_zero, List.set_cons_succ]
  refine Z.take (i := 7) (d := 20) (v := .slice pa pn pc) rfl rfl (by kernel_rfl) (by kernel_rfl) (by kernel_rfl) (by kernel_rfl) (fun _ _ _ h => h) (Or.inl ⟨by rfl, ?_⟩) hHeld ?_
  · intro w' hSw; go_simp
  simp only [Act.put, List.setIfInBounds_toArray, List.set_cons_zero, List.set_cons_succ]
  refine Z.call1 (i := 2) (d := 15) rfl rfl (by kernel_rfl) (by rfl) (fun K hK => ?_)
  go_simp
  refine ((unhide HB) _ BN2.drew).mono ?_
  rintro e w4 ⟨rfl, hw4⟩
  have B4 : Below W2.heap.size W2 w4 := ((Below.refl _ _).drew).trans (hw4.mono (Nat.le_refl _))
  clear hw4
  go_simp
  refine hK.out (.agg #[.int .i64 b1, .int .i64 b2]) _ B4 ?_
  clear hK K
  simp only [Act.put, List.setIfInBounds_toArray, List.set_cons_zero, List.set_cons_succ]
  refine Z.call1 (i := 5) (d := 18) rfl rfl (by kernel_rfl) (by rfl) (fun K hK => ?_)
  go_simp
  refine ((unhide HM) _ (BN2.trans (B4.mono BN2.size))).mono ?_
  rintro e w5 ⟨rfl, hw5⟩
  have B5 : Below W2.heap.size W2 w5 := B4.trans (hw5.mono B4.size)
  clear hw5
  go_simp
  refine hK.out (.bool m) _ B5 ?_
  clear hK K
  simp only [Act.put, List.setIfInBounds_toArray, List.set_cons_zero, List.set_cons_succ]
  refine Z.call1 (i := 8) (d := 21) rfl rfl (by kernel_rfl) (by rfl) (fun K hK => ?_)
  go_simp
  refine ((unhide HJ) _ (BN2.trans (B5.mono BN2.size))).mono ?_
  rintro e w6 ⟨rfl, hw6⟩
  have B6 : Below W2.heap.size W2 w6 := B5.trans (hw6.mono B5.size)
  clear hw6
  go_simp
  refine hK.out (.agg (Kn.kis F).toArray) _ B6 ?_
  clear hK K
  simp only [Act.put, List.setIfInBounds_toArray, List.set_cons_zero, List.set_cons_succ]
  refine Z.take (i := 9) (d := 22) (v := .agg (Value.int .i64 b1 :: Value.int .i64 b2 :: Value.bool m :: Kn.kis F).toArray) rfl rfl (by kernel_rfl) (by kernel_rfl) (by kernel_rfl) (by kernel_rfl) (fun _ _ _ h => h) (Or.inl ⟨by rfl, ?_⟩) B6 ?_
  · intro w' hSw; kernel_rfl
  simp only [Act.put, List.setIfInBounds_toArray, List.set_cons_zero, List.set_cons_succ]
  rw [← unhide HN]
  have OK6 := OK2.below B6 OK2.lt
  have hth : w6.there (w.heap.size + 1) 0 A.toArray.size := Kn.own_there OK6 (by rw [List.size_toArray, unhide HLEN]; rfl)
  have OR := hide (Kn.own_all OK6 (ys := A) (by rw [unhide HLEN]; rfl))
  have BR := hide (Kn.below_all (c := w.heap.size + 1) (by omega) A 0 w6 (BN2.trans (B6.mono BN2.size)))
  have hone := unhide HONE
  have hsz := unhide HLEN
  refine Z.last_at (w' := w6.setCells (w.heap.size + 1) 0 A) rfl (by kernel_rfl) (by rfl) (fun K hK => ?_) ?_
  · exact wp_store_mid 55 (.tmp 4) (.tmp 22) rfl (w.heap.size + 1) 0 A.toArray rfl rfl hth (by rw [List.size_toArray, hsz]; exact Kn.knInfo) hone hK.out
  refine Z.done (by kernel_rfl) ?_ _
  have hrr : (w6.setCells (w.heap.size + 1) 0 A).rangeAt (w.heap.size + 1) 0 A := Kn.own_range (unhide OR)
  have BF := unhide BR
  clear OR BR hth hone OK6 OK2 OZ2 OC2 BN2 B4 B5 B6 hHeld
  generalize w6.setCells (w.heap.size + 1) 0 A = WW at *
  have hld := run_loadVar_mid WW (w.heap.size + 1) 0 55 A _ hrr Try.underlying55 rfl (by rw [hsz]; exact Kn.knInfo)
  clear hrr hsz
  go_wp2_with fail
  refine bodyPost_ret (v := .agg A.toArray) (Kn.results_cell Try.results51 _ _ _ _ _ rfl hld) rfl ?_
  exact ⟨rfl, BF⟩

end Go.Proofs.Ytkjmnkbiflkpdaa
