/-
  impl's put: a node is laid behind the others, with the places of its parts.
  The lowerer of the program, in memory: what was laid, the names that are bound; what a call that lays may turn.
  What is asked of lay; slotOf; layAll.
  layAll: the forms of a list, one behind the other.
  lay: a node of the core; a variable.
-/
import Derived.Test.YtmbefapdckhjdaaLofC
import Derived.Test.YtmbefapdckhjdaaLowT
import Derived.Test.YtmbefapdckhjdaaScoM
import Derived.Test.YtmbefapdckhjdaaAns
import Derived.Laws.CopyOwn
import Derived.Deep.RegionHeldLaw
import Derived.Deep.CutRange
import Derived.Maps.AppendAt
import Derived.Deep.DeepFit
namespace Go.Proofs.Ytmbefapdckhjdaa
open Go.RowKit
set_option linter.unusedVariables false
set_option linter.unusedSimpArgs false


namespace Lp
/-- The slice pl holds the places ps. -/
def Pl (w : World) (pl : Value) (ps : List Int) : Prop := ∃ a c, pl = .slice a ps.length c ∧ ∀ j u, (ps.map (Value.int .i64))[j]? = some u → ∃ g, a = some ⟨g, 0, none⟩ ∧ w.cell? ⟨g, j, none⟩ = some u
theorem Pl.nil (w : World) : Pl w (.slice none 0 0) [] := ⟨none, 0, rfl, fun j u h => by simp at h⟩
theorem Pl.row {w : World} {b : Nat} {pl : Value} {ps : List Int} (h : w.ownsRow b 2 1 pl ps.length (ps.map (Value.int .i64))) : Pl w pl ps := by
  have h' := h
  obtain ⟨h1, ⟨h2, h3⟩ | ⟨g, cap, cur, h4, hg, hh, hnc, hcm, hcs, htk⟩⟩ := h
  · refine ⟨none, 0, by rw [h2, h3], fun j u h => ?_⟩
    have : ps = [] := List.length_eq_zero_iff.1 h3
    subst this
    simp at h
  · refine ⟨_, cap, h4, fun j u hu => ⟨g, rfl, ?_⟩⟩
    have hj : j < ps.length := by
      have := (List.getElem?_eq_some_iff.1 hu).1
      simpa using this
    rw [cell_of_row w g j cur _ (0, 0) hh]
    have h3 : cur.toList[j]? = (ps.map (Value.int .i64))[j]? := by rw [← htk, List.getElem?_take, if_pos (by omega)]
    have h4 : cur[j]? = cur.toList[j]? := by simp
    rw [h4, h3, hu]
theorem splice3 (ps : List Int) (h : ps.length ≤ 3) : splice [Value.int .i64 0, .int .i64 0, .int .i64 0] 0 (ps.map (Value.int .i64)) = [.int .i64 (ps.getD 0 0), .int .i64 (ps.getD 1 0), .int .i64 (ps.getD 2 0)] := by
  match ps, h with
  | [], _ => rfl
  | [a], _ => rfl
  | [a, b], _ => rfl
  | [a, b, c], _ => rfl
  | a :: b :: c :: d :: r, h => simp at h
end Lp
theorem Lp.sizeI : (Try.prog.info? 2).map (·.size) = some 1 := by kernel_rfl
set_option maxRecDepth 100000 in
set_option maxHeartbeats 4000000 in
theorem implPut_any (base P : Nat) (tv v bv vv pl : Value) (cs : List (Co × Value)) (op num : Int) (val : List M.Cl) (ps : List Int) (w : World) (hN : Own w P 59 [tv, v, bv]) (hP : base ≤ P) (hrow : Lw.Rw w base v cs) (hvv : Res w base vv val) (hpl : Lp.Pl w pl ps) (h3 : ps.length ≤ 3) (hn : cs.length ≤ 4096) :
    Calls Try.prog 52 #[.pointer (some ⟨P, 0, none⟩), .agg #[.int .i64 op, .int .i64 0, .int .i64 0, .int .i64 0, .int .i64 num, vv], pl] w fun e w' => ∃ v', e = .returned (.int .i64 cs.length) ∧ Own w' P 59 [tv, v', bv] ∧ Lw.Rw w' base v' (cs ++ [(Lw.mk op num val ps, vv)]) ∧ Lw.Fr P v v' w w' := by
  obtain ⟨i0, hi, hz0, hz1, hz2⟩ := info_parts Lw.coreInfo
  obtain ⟨va, vc, rfl⟩ := hrow.slice
  obtain ⟨xa, xn, xc, rfl⟩ := hvv.shape
  obtain ⟨la, lc, rfl, hla⟩ := hpl
  obtain ⟨pA, hpA⟩ : ∃ x, x = ps.getD 0 0 := ⟨_, rfl⟩
  obtain ⟨pB, hpB⟩ : ∃ x, x = ps.getD 1 0 := ⟨_, rfl⟩
  obtain ⟨pC, hpC⟩ : ∃ x, x = ps.getD 2 0 := ⟨_, rfl⟩
  have SPL := Lp.splice3 ps h3
  rw [← hpA, ← hpB, ← hpC] at SPL
  have HMK := hide (show Lw.mk op num val ps = ⟨op, pA, pB, pC, num, val⟩ by rw [hpA, hpB, hpC]; rfl)
  clear hpA hpB hpC
  have hbase : base ≤ w.heap.size := by have := hN.lt; omega
  have HR := hide hrow
  have HV := hide hvv
  have HLA := hide hla
  have hne : (Value.slice va cs.length vc).ownBlock ≠ some P := hrow.ne hN (by decide)
  have hltv : ∀ b, (Value.slice va cs.length vc).ownBlock = some b → b < w.heap.size := fun b hb => hrow.lt hb
  obtain ⟨wx, hwx⟩ : ∃ wx, wx = (w.alloc (.cells #[.int .i64 op, .int .i64 0, .int .i64 0, .int .i64 0, .int .i64 num, .slice xa xn xc] 82)).alloc (.cells #[.int .i64 0, .int .i64 0, .int .i64 0] 139) := ⟨_, rfl⟩
  have HSX := hide (show wx.heap.size = w.heap.size + 2 by rw [hwx]; simp)
  have BX : Below w.heap.size w wx := by rw [hwx]; exact ((Below.refl _ _).alloc (Nat.le_refl _) _).alloc (by simp) _
  have XX : Own wx w.heap.size 82 [.int .i64 op, .int .i64 0, .int .i64 0, .int .i64 0, .int .i64 num, .slice xa xn xc] := by rw [hwx]; exact Own.alloc ⟨_, heap_alloc_new _ _, rfl⟩ _
  have KX : Hid (wx.heap[w.heap.size + 1]? = some (.cells [Value.int .i64 0, .int .i64 0, .int .i64 0].toArray 139 (0, 0))) := by
    show _ = _
    rw [hwx, show w.heap.size + 1 = (w.alloc (.cells #[.int .i64 op, .int .i64 0, .int .i64 0, .int .i64 0, .int .i64 num, .slice xa xn xc] 82)).heap.size by simp]
    exact heap_alloc_new _ _
  obtain ⟨csV, hcsV⟩ : ∃ c, c = ps.map (Value.int .i64) := ⟨_, rfl⟩
  rw [← hcsV] at SPL
  have SPLH := hide SPL
  have LEN : csV.length = Nat.min ps.length 3 := by rw [hcsV, List.length_map]; exact (Nat.min_eq_left h3).symm
  have hfit : 0 + csV.length ≤ 3 := by rw [LEN]; exact Nat.le_trans (by rw [Nat.zero_add]; exact Nat.min_le_left _ _) h3
  have SRC : Hid (0 < csV.length → (some (⟨w.heap.size + 1, 0, none⟩ : Addr)) = some ⟨w.heap.size + 1, 0, none⟩ ∧ ∃ ad, la = some ad ∧ ∀ j u, csV[j]? = some u → wx.cell? (ad.add j) = some u) := fun hpos => by
    refine ⟨rfl, ?_⟩
    rw [hcsV] at hpos ⊢
    have h00 : (ps.map (Value.int .i64))[0]? = some ((ps.map (Value.int .i64))[0]'hpos) := List.getElem?_eq_getElem hpos
    obtain ⟨g, e, _⟩ := (unhide HLA) 0 _ h00
    refine ⟨⟨g, 0, none⟩, e, fun j u hu => ?_⟩
    obtain ⟨g', e', hc⟩ := (unhide HLA) j u hu
    rw [e] at e'
    cases e'
    have ha : (⟨g, 0, none⟩ : Addr).add j = ⟨g, j, none⟩ := by unfold Addr.add; split <;> simp_all
    rw [ha]
    exact (BX.cell (block_lt_of_cell hc)).trans hc
  have ONE : Hid (∀ u ∈ csV, u.oneCell' = true) := fun u hu => by
    rw [hcsV] at hu
    obtain ⟨x, _, rfl⟩ := List.mem_map.1 hu
    rfl
  have LEN2 := hide LEN
  have CPY : Hid (∃ w2, Sem.run Try.prog (Builtin.copy_ #[74, 74] 3 #[.slice (some ⟨w.heap.size + 1, 0, none⟩) 3 3, .slice la ps.length lc]) wx = .ok (goInt csV.length) w2 ∧ Hid (w2.heap[w.heap.size + 1]? = some (.cells (splice [Value.int .i64 0, .int .i64 0, .int .i64 0] 0 csV).toArray 139 (0, 0))) ∧ Below (w.heap.size + 1) wx w2) := by
    show ∃ _, _
    by_cases h0 : csV.length = 0
    · obtain rfl : csV = [] := List.eq_nil_of_length_eq_zero h0
      exact ⟨wx, run_copy_none (P := Try.prog) wx 74 74 3 2 _ _ 3 3 ps.length lc Try.underlying74 Lp.sizeI (by simpa using (unhide LEN2).symm), (show _ = _ by simpa [splice] using unhide KX), Below.refl _ _⟩
    · obtain ⟨_, ad, rfl, hsrc⟩ := (unhide SRC) (by omega)
      refine ⟨_, run_copy_row (P := Try.prog) wx 74 74 3 2 (w.heap.size + 1) 0 3 3 ad ps.length lc [Value.int .i64 0, .int .i64 0, .int .i64 0].toArray 139 csV Try.underlying74 Lp.sizeI (unhide KX) (unhide LEN2) hsrc (by simpa using hfit) (unhide ONE), ?_, below_setRow (Below.refl _ _) (Nat.le_refl _) _⟩
      exact (show _ = _ by simpa [splice] using setRow_heap wx (w.heap.size + 1) _ _ 139 _ (unhide KX))
  clear hrow hvv hla HLA SPL hcsV LEN
  go_enter Try.func52, Try.ntmps52
  obtain ⟨w2, hrun, hg2, hb2⟩ := CPY.out
  clear CPY
  rw [hwx] at hrun
  go_wp2_with fail
  clear hrun hwx
  have K2 : Own w2 (w.heap.size + 1) 139 [.int .i64 pA, .int .i64 pB, .int .i64 pC] := ⟨_, (unhide hg2), by rw [unhide SPLH]⟩
  have B2 : Below w.heap.size w w2 := BX.trans (hb2.mono (Nat.le_succ _))
  have X2 : Own w2 w.heap.size 82 [.int .i64 op, .int .i64 0, .int .i64 0, .int .i64 0, .int .i64 num, .slice xa xn xc] := XX.below hb2 (Nat.lt_succ_self _)
  have k0 := K2.cell 0
  have k1 := K2.cell 1
  have k2 := K2.cell 2
  have x0 := X2.cell 0
  have x1 := X2.cell 1
  have x2 := X2.cell 2
  have x3 := X2.cell 3
  simp only [List.getElem?_cons_zero, List.getElem?_cons_succ] at k0 k1 k2 x0 x1 x2 x3
  have f1 := X2.frozen 1
  have f2 := X2.frozen 2
  have f3 := X2.frozen 3
  have hSX : w.heap.size + 2 ≤ w2.heap.size := by have h1 := unhide HSX; have h2 := hb2.size; omega
  go_region_held_law (fun w' => w'.cell? ⟨w.heap.size + 1, 0, none⟩ = some (.int .i64 pA) ∧ w'.cell? ⟨w.heap.size + 1, 1, none⟩ = some (.int .i64 pB) ∧ w'.cell? ⟨w.heap.size + 1, 2, none⟩ = some (.int .i64 pC))
    (first | assumption | (simp [go_sem, k0, k1, k2]; done)) (fail)
  obtain ⟨w3, hw3⟩ : ∃ w3, w3 = (((w2.setCell ⟨w.heap.size, 1, none⟩ (.int .i64 pA)).setCell ⟨w.heap.size, 2, none⟩ (.int .i64 pB)).setCell ⟨w.heap.size, 3, none⟩ (.int .i64 pC)).drew := ⟨_, rfl⟩
  rw [← hw3]
  have B0 : Below w.heap.size w w3 := by rw [hw3]; exact (((B2.setCell (Nat.le_refl _) _).setCell (Nat.le_refl _) _).setCell (Nat.le_refl _) _).drew
  have hX : Own w3 w.heap.size 82 [.int .i64 op, .int .i64 pA, .int .i64 pB, .int .i64 pC, .int .i64 num, .slice xa xn xc] := by rw [hw3]; exact (((X2.set 1 (.int .i64 pA)).set 2 (.int .i64 pB)).set 3 (.int .i64 pC)).drew
  have HS0 := hide (show w.heap.size + 2 ≤ w3.heap.size by rw [hw3]; simpa [World.drew] using hSX)
  clear hw3 k0 k1 k2 x0 x1 x2 x3 f1 f2 f3 K2 B2 X2 hSX BX XX KX hb2 hg2
  have hN0 := hN.below B0 hN.lt
  have c1 := hN0.cell 1
  have p0 := hX.cell 0
  have p1 := hX.cell 1
  have p2 := hX.cell 2
  have p3 := hX.cell 3
  have p4 := hX.cell 4
  have p5 := hX.cell 5
  simp only [List.getElem?_cons_zero, List.getElem?_cons_succ] at c1 p0 p1 p2 p3 p4 p5
  go_wp2_with fail
  refine Z.region 10 (fun w' => w'.cell? ⟨P, 1, none⟩ = some (.slice va cs.length vc) ∧ w'.cell? ⟨w.heap.size, 0, none⟩ = some (.int .i64 op) ∧ w'.cell? ⟨w.heap.size, 1, none⟩ = some (.int .i64 pA) ∧ w'.cell? ⟨w.heap.size, 2, none⟩ = some (.int .i64 pB) ∧ w'.cell? ⟨w.heap.size, 3, none⟩ = some (.int .i64 pC) ∧ w'.cell? ⟨w.heap.size, 4, none⟩ = some (.int .i64 num) ∧ w'.cell? ⟨w.heap.size, 5, none⟩ = some (.slice xa xn xc)) (by kernel_rfl) ⟨c1, p0, p1, p2, p3, p4, p5⟩ (fun hHeld => ?_)
  refine Z.take (i := 0) (d := 20) (v := .pointer (some ⟨P, 0, none⟩)) rfl rfl (by kernel_rfl) (by kernel_rfl) (by kernel_rfl) (by kernel_rfl) (fun _ _ _ h => h) (Or.inl ⟨by rfl, ?_⟩) hHeld ?_
  · intro w' hSw; obtain ⟨s1, q0, q1, q2, q3, q4, q5⟩ := hSw; go_simp
  simp only [Act.put, List.setIfInBounds_toArray, List.set_cons_zero, List.set_cons_succ]
  refine Z.take (i := 1) (d := 21) (v := .pointer (some ⟨P, 0, none⟩)) rfl rfl (by kernel_rfl) (by kernel_rfl) (by kernel_rfl) (by kernel_rfl) (fun _ _ _ h => h) (Or.inl ⟨by rfl, ?_⟩) hHeld ?_
  · intro w' hSw; obtain ⟨s1, q0, q1, q2, q3, q4, q5⟩ := hSw; go_simp
  simp only [Act.put, List.setIfInBounds_toArray, List.set_cons_zero, List.set_cons_succ]
  refine Z.take (i := 2) (d := 22) (v := .pointer (some ⟨P, 0, none⟩)) rfl rfl (by kernel_rfl) (by kernel_rfl) (by kernel_rfl) (by kernel_rfl) (fun _ _ _ h => h) (Or.inl ⟨by rfl, ?_⟩) hHeld ?_
  · intro w' hSw; obtain ⟨s1, q0, q1, q2, q3, q4, q5⟩ := hSw; go_simp
  simp only [Act.put, List.setIfInBounds_toArray, List.set_cons_zero, List.set_cons_succ]
  refine Z.take (i := 3) (d := 23) (v := .pointer (some ⟨P, 1, none⟩)) rfl rfl (by kernel_rfl) (by kernel_rfl) (by kernel_rfl) (by kernel_rfl) (fun _ _ _ h => h) (Or.inl ⟨by rfl, ?_⟩) hHeld ?_
  · intro w' hSw; obtain ⟨s1, q0, q1, q2, q3, q4, q5⟩ := hSw; go_simp
  simp only [Act.put, List.setIfInBounds_toArray, List.set_cons_zero, List.set_cons_succ]
  refine Z.take (i := 4) (d := 24) (v := .slice va cs.length vc) rfl rfl (by kernel_rfl) (by kernel_rfl) (by kernel_rfl) (by kernel_rfl) (fun _ _ _ h => h) (Or.inl ⟨by rfl, ?_⟩) hHeld ?_
  · intro w' hSw; obtain ⟨s1, q0, q1, q2, q3, q4, q5⟩ := hSw; go_simp
  simp only [Act.put, List.setIfInBounds_toArray, List.set_cons_zero, List.set_cons_succ]
  refine Z.take (i := 5) (d := 25) (v := .agg #[.int .i64 op, .int .i64 pA, .int .i64 pB, .int .i64 pC, .int .i64 num, .slice xa xn xc]) rfl rfl (by kernel_rfl) (by kernel_rfl) (by kernel_rfl) (by kernel_rfl) (fun _ _ _ h => h) (Or.inl ⟨by rfl, ?_⟩) hHeld ?_
  · intro w' hSw; obtain ⟨s1, q0, q1, q2, q3, q4, q5⟩ := hSw; go_simp
  simp only [Act.put, List.setIfInBounds_toArray, List.set_cons_zero, List.set_cons_succ]
  have B1 : Below w3.heap.size w3 (w3.alloc (.cells #[.int .i64 op, .int .i64 pA, .int .i64 pB, .int .i64 pC, .int .i64 num, .slice xa xn xc] 82)).drew := ((Below.refl w3.heap.size w3).alloc (by simp) _).drew
  have N1 := hN0.below B1 hN0.lt
  have X1 := hX.below B1 hX.lt
  have R1 := ((unhide HR).below B0).below B1
  refine Z.ready (rs := [6]) (by kernel_rfl) (by simp) (Z.val_cons (i := 6) (d := 26) (v := .slice (some ⟨w3.heap.size, 0, none⟩) 1 1) (w' := (w3.alloc (.cells #[.int .i64 op, .int .i64 pA, .int .i64 pB, .int .i64 pC, .int .i64 num, .slice xa xn xc] 82)).drew) rfl (by rfl) ?_ (fun _ => ?_) ?_ Z.All.nil)
  · intro K hK
    go_simp
    exact hK.out
  · exact ⟨N1.cell 1, X1.cell 0, X1.cell 1, X1.cell 2, X1.cell 3, X1.cell 4, X1.cell 5⟩
  simp only [Act.put, List.setIfInBounds_toArray, List.set_cons_zero, List.set_cons_succ]
  have O1 : Own (w3.alloc (.cells #[.int .i64 op, .int .i64 pA, .int .i64 pB, .int .i64 pC, .int .i64 num, .slice xa xn xc] 82)).drew w3.heap.size 82 [.int .i64 op, .int .i64 pA, .int .i64 pB, .int .i64 pC, .int .i64 num, .slice xa xn xc] := ⟨_, heap_alloc_new w3 (.cells #[.int .i64 op, .int .i64 pA, .int .i64 pB, .int .i64 pC, .int .i64 num, .slice xa xn xc] 82), rfl⟩
  have HS1 := hide (show w.heap.size + 2 ≤ (w3.alloc (.cells #[.int .i64 op, .int .i64 pA, .int .i64 pB, .int .i64 pC, .int .i64 num, .slice xa xn xc] 82)).drew.heap.size by
    have h1 : (w3.alloc (.cells #[.int .i64 op, .int .i64 pA, .int .i64 pB, .int .i64 pC, .int .i64 num, .slice xa xn xc] 82)).drew.heap.size = w3.heap.size + 1 := by simp [World.drew]
    have h2 := unhide HS0
    omega)
  generalize (w3.alloc (.cells #[.int .i64 op, .int .i64 pA, .int .i64 pB, .int .i64 pC, .int .i64 num, .slice xa xn xc] 82)).drew = W1 at *
  refine Z.ready (rs := [7]) (by kernel_rfl) (by simp) (Z.All.cons rfl (fun K hK => ?_) Z.All.nil)
  refine Lw.step_append W1 rfl (.tmp 24) (.tmp 26) 24 rfl base 82 i0 (.agg #[.int .i64 0, .int .i64 0, .int .i64 0, .int .i64 0, .int .i64 0, .slice none 0 0]) 6 64 Try.underlying24 hi hz0 hz1 hz2 rfl (by decide) (.slice va cs.length vc) cs.length (Lw.flat cs) rfl R1.1 ⟨w3.heap.size, 0, none⟩ 1 1 (Lw.nodeV ⟨op, pA, pB, pC, num, val⟩ (.slice xa xn xc)) rfl rfl ?_ (Lw.plain_node _ _ rfl) (by unfold maxLen; omega) (by omega) (by have := unhide HS1; omega) ?_
  · intro j u hu
    have ha : (⟨w3.heap.size, 0, none⟩ : Addr).add j = ⟨w3.heap.size, j, none⟩ := by unfold Addr.add; split <;> simp_all
    rw [ha, O1.cell j]
    exact hu
  intro v' wb ho hg hob
  have kept : ∀ k, k < W1.heap.size → (Value.slice va cs.length vc).ownBlock ≠ some k → wb.heap[k]? = W1.heap[k]? := fun k h1 h2 => hg.block k h1 (fun e => h2 e.symm)
  have NB : Own wb P 59 [tv, .slice va cs.length vc, bv] := by
    obtain ⟨r, q1, q2⟩ := N1
    exact ⟨r, (kept P (by have := hN.lt; have := unhide HS1; omega) hne).trans q1, q2⟩
  have XB : Own wb w.heap.size 82 [.int .i64 op, .int .i64 pA, .int .i64 pB, .int .i64 pC, .int .i64 num, .slice xa xn xc] := by
    obtain ⟨r, q1, q2⟩ := X1
    exact ⟨r, (kept _ (by have := unhide HS1; omega) (fun e => by have := hltv _ e; omega)).trans q1, q2⟩
  have hHeld2 : (fun w' : World => w'.cell? ⟨P, 1, none⟩ = some (.slice va cs.length vc) ∧ w'.cell? ⟨w.heap.size, 0, none⟩ = some (.int .i64 op) ∧ w'.cell? ⟨w.heap.size, 1, none⟩ = some (.int .i64 pA) ∧ w'.cell? ⟨w.heap.size, 2, none⟩ = some (.int .i64 pB) ∧ w'.cell? ⟨w.heap.size, 3, none⟩ = some (.int .i64 pC) ∧ w'.cell? ⟨w.heap.size, 4, none⟩ = some (.int .i64 num) ∧ w'.cell? ⟨w.heap.size, 5, none⟩ = some (.slice xa xn xc)) wb := ⟨NB.cell 1, XB.cell 0, XB.cell 1, XB.cell 2, XB.cell 3, XB.cell 4, XB.cell 5⟩
  have R2 : Lw.Rw wb base v' (cs ++ [((⟨op, pA, pB, pC, num, val⟩ : Co), Value.slice xa xn xc)]) := by
    refine ⟨by rw [List.length_append, List.length_singleton, Lw.flat_snoc]; exact ho, fun p hp => ?_⟩
    have hp1 : Res W1 base p.2 p.1.val := by
      rcases List.mem_append.1 hp with h | h
      · exact R1.2 p h
      · rw [List.mem_singleton] at h; subst h; exact ((unhide HV).below B0).below B1
    exact Lw.res_keep hp1 fun b hb => kept b (hp1.lt b hb) (fun e => R1.apart hp1 e hb)
  have FB : Lw.Fr P (.slice va cs.length vc) v' w wb := by
    refine ⟨hg.os.trans (B1.os.trans B0.os), hg.tape.trans (B1.tape.trans B0.tape), hg.output.trans (B1.output.trans B0.output), by have := hg.size; have := unhide HS1; omega, fun k h1 h2 h3 => (kept k (by have := unhide HS1; omega) h3).trans ((B1.block k (by have := unhide HS0; omega)).trans (B0.block k h1)), ?_⟩
    rcases hob with e | e
    · exact .inl e
    · exact .inr ⟨_, e, by have := unhide HS1; omega⟩
  have hlen : (cs ++ [((⟨op, pA, pB, pC, num, val⟩ : Co), Value.slice xa xn xc)]).length = cs.length + 1 := by simp
  obtain ⟨ya, yc, hv'⟩ := R2.slice
  rw [hlen] at hv'
  subst hv'
  refine hK.out _ _ (fun _ => hHeld2) ?_
  clear hK K
  simp only [Act.put, List.getElem_toArray, List.getElem_cons_succ, List.getElem_cons_zero, List.setIfInBounds_toArray, List.set_cons_zero, List.set_cons_succ]
  refine Z.ready (rs := [8]) (by kernel_rfl) (by simp) (Z.val_cons (i := 8) (d := 28) (v := .pointer (some ⟨P, 0, none⟩)) (w' := wb) rfl (by rfl) ?_ (fun _ => hHeld2) ?_ Z.All.nil)
  · intro K hK
    go_simp
    exact hK.out
  simp only [Act.put, List.setIfInBounds_toArray, List.set_cons_zero, List.set_cons_succ]
  refine Z.ready (rs := [9]) (by kernel_rfl) (by simp) (Z.val_cons (i := 9) (d := 29) (v := .pointer (some ⟨P, 1, none⟩)) (w' := wb) rfl (by rfl) ?_ (fun _ => hHeld2) ?_ Z.All.nil)
  · intro K hK
    go_simp
    exact hK.out
  simp only [Act.put, List.setIfInBounds_toArray, List.set_cons_zero, List.set_cons_succ]
  have n1 := NB.cell 1
  have y1 := NB.frozen 1
  have N2 := hide (NB.set 1 (Value.slice ya (cs.length + 1) yc))
  have R3 := hide (show Lw.Rw (wb.setCell ⟨P, 1, none⟩ (Value.slice ya (cs.length + 1) yc)) base (Value.slice ya (cs.length + 1) yc) (cs ++ [((⟨op, pA, pB, pC, num, val⟩ : Co), Value.slice xa xn xc)]) by
    have hnp := R2.ne NB (by decide)
    refine ⟨?_, fun p hp => (R2.2 p hp).setOther _ _ (fun b hb e => Lw.res_ne (R2.2 p hp) NB (by decide) (by rw [hb]; exact congrArg some e))⟩
    obtain ⟨⟨h1, ⟨h2, h3⟩ | ⟨g, cap, cur, h4, hg', hh, h5⟩⟩, _⟩ := R2
    · exact ⟨h1, .inl ⟨h2, h3⟩⟩
    · exact ⟨h1, .inr ⟨g, cap, cur, h4, hg', (heap_setCell_other _ ⟨P, 1, none⟩ g _ (fun e => hnp (by rw [h4]; exact congrArg some e))).trans hh, h5⟩⟩)
  have F3 := hide (show Lw.Fr P (.slice va cs.length vc) (Value.slice ya (cs.length + 1) yc) w (wb.setCell ⟨P, 1, none⟩ (Value.slice ya (cs.length + 1) yc)) from
    ⟨FB.os, FB.tape, FB.output, by simpa using FB.size, fun k h1 h2 h3 => (heap_setCell_other _ ⟨P, 1, none⟩ k _ h2).trans (FB.block k h1 h2 h3), FB.own⟩)
  refine Z.last_at (w' := wb.setCell ⟨P, 1, none⟩ (Value.slice ya (cs.length + 1) yc)) rfl (by kernel_rfl) (by rfl) (fun K hK => ?_) ?_
  · go_simp
    exact hK.out
  refine Z.done (by kernel_rfl) ?_ _
  have m1 : (wb.setCell ⟨P, 1, none⟩ (Value.slice ya (cs.length + 1) yc)).cell? ⟨P, 1, none⟩ = some (Value.slice ya (cs.length + 1) yc) := (unhide N2).cell 1
  generalize wb.setCell ⟨P, 1, none⟩ (Value.slice ya (cs.length + 1) yc) = WE at *
  clear n1 y1 FB R2 NB XB hHeld2 kept
  go_wp2_with fail
  go_ret
  rw [unhide HMK]
  exact ⟨_, by go_num, unhide N2, unhide R3, unhide F3⟩

end Go.Proofs.Ytmbefapdckhjdaa

namespace Go.Proofs.Ytmbefapdckhjdaa
open Go.RowKit
set_option linter.unusedVariables false
set_option linter.unusedSimpArgs false

namespace Lp
/-- The blocks of the values of nodes. -/
def bls (cs : List (Co × Value)) : List Nat := cs.flatMap fun p => p.2.ownBlock.toList
theorem bls_snoc (cs : List (Co × Value)) (c : Co) (v : Value) : bls (cs ++ [(c, v)]) = bls cs ++ v.ownBlock.toList := by simp [bls]
/-- Of blocks of these types the world w' has all that w had. -/
def Ky (ts : List TypeId) (w w' : World) : Prop := ∀ (k : Nat) (c : Array Value) (t : TypeId), w.heap[k]? = some (Obj.cells c t (0, 0)) → t ∈ ts → w'.heap[k]? = w.heap[k]?
theorem Ky.sub {ts us : List TypeId} {w w' : World} (h : Ky ts w w') (hs : ∀ t ∈ us, t ∈ ts) : Ky us w w' := fun k c t h1 h2 => h k c t h1 (hs t h2)
theorem Ky.kf {ts : List TypeId} {w w' : World} (h : Ky ts w w') (hs : ∀ t ∈ [91, 120], t ∈ ts) : Lf.Kf w w' := fun k c t h1 h2 => h k c t h1 (hs t (by simpa using h2))
theorem Ky.own {ts : List TypeId} {w w' : World} (h : Ky ts w w') {b : Nat} {t : TypeId} {xs : List Value} (ho : Own w b t xs) (ht : t ∈ ts) : Own w' b t xs := by
  obtain ⟨c, h1, h2⟩ := ho
  exact ⟨c, (h b c t h1 ht).trans h1, h2⟩
theorem Ky.row {ts : List TypeId} {w w' : World} (h : Ky ts w w') {b n s : Nat} {t : TypeId} {v : Value} {xs : List Value} (ho : w.ownsRow b t s v n xs) (ht : t ∈ ts) : w'.ownsRow b t s v n xs := by
  obtain ⟨h1, ⟨h2, h3⟩ | ⟨g, cap, cur, h4, hg, hh, h5⟩⟩ := ho
  · exact ⟨h1, .inl ⟨h2, h3⟩⟩
  · exact ⟨h1, .inr ⟨g, cap, cur, h4, hg, (h g cur t hh ht).trans hh, h5⟩⟩
theorem Ky.res {ts : List TypeId} {w w' : World} (h : Ky ts w w') (ht : 120 ∈ ts) {B : Nat} {s : Value} {l : List M.Cl} (hr : Res w B s l) : Res w' B s l := by
  obtain ⟨hn, h1 | ⟨b, cap, h1, h2, h3, xs, ho, h5⟩⟩ := hr
  · exact ⟨hn, .inl h1⟩
  · exact ⟨hn, .inr ⟨b, cap, h1, h2, h3, xs, h.own ho ht, h5⟩⟩
theorem Ky.below {ts : List TypeId} {w w' : World} (h : Below w.heap.size w w') : Ky ts w w' := fun b c t h1 h2 => h.block b (Array.getElem?_eq_some_iff.1 h1).1
theorem row_typed {w : World} {b n s : Nat} {t : TypeId} {v : Value} {xs : List Value} (h : w.ownsRow b t s v n xs) {k : Nat} (hk : v.ownBlock = some k) : b ≤ k ∧ ∃ c, w.heap[k]? = some (Obj.cells c t (0, 0)) := by
  obtain ⟨_, ⟨h1, h2⟩ | ⟨g, cap, cur, h3, hg, hh, _⟩⟩ := h
  · rw [h1] at hk; cases hk
  · rw [h3] at hk; cases hk; exact ⟨hg, cur, hh⟩
/-- What was laid so far, the names that are bound, the blocks of the values that were laid. -/
structure Li (base P : Nat) (tv : Value) (w : World) (v bv : Value) (s : List Co) (ns : List ByteArray) (bl : List Nat) : Prop where
  own : Own w P 59 [tv, v, bv]
  le : base ≤ P
  row : ∃ cs, cs.map Prod.fst = s ∧ Lw.Rw w base v cs ∧ bls cs = bl
  nd : bl.Nodup
  names : w.ownsRow base 9 1 bv ns.length (ns.map Value.string)
theorem Li.base {base P : Nat} {tv v bv : Value} {w : World} {s : List Co} {ns : List ByteArray} {bl : List Nat} (h : Li base P tv w v bv s ns bl) : base ≤ w.heap.size := by have := h.own.lt; have := h.le; omega
theorem Li.upd {base P : Nat} {tv v bv : Value} {w w' : World} {s : List Co} {ns : List ByteArray} {bl : List Nat} (h : Li base P tv w v bv s ns bl) (hk : Ky [59, 82, 120, 9] w w') : Li base P tv w' v bv s ns bl := by
  obtain ⟨h1, h2, ⟨cs, h3, h4, h5⟩, h6, h7⟩ := h
  refine ⟨hk.own h1 (by decide), h2, ⟨cs, h3, ⟨hk.row h4.1 (by decide), fun p hp => hk.res (by decide) (h4.2 p hp)⟩, h5⟩, h6, hk.row h7 (by decide)⟩
theorem Li.below {base P : Nat} {tv v bv : Value} {w w' : World} {s : List Co} {ns : List ByteArray} {bl : List Nat} (h : Li base P tv w v bv s ns bl) (hb : Below w.heap.size w w') : Li base P tv w' v bv s ns bl := h.upd (Ky.below hb)
/-- What a call that lays leaves. -/
structure Fi (P : Nat) (v v' bv bv' : Value) (w w' : World) : Prop where
  os : w'.os = w.os
  tape : w'.tape = w.tape
  output : w'.output = w.output
  size : w.heap.size ≤ w'.heap.size
  block : ∀ k, k < w.heap.size → k ≠ P → v.ownBlock ≠ some k → bv.ownBlock ≠ some k → w'.heap[k]? = w.heap[k]?
  own : v'.ownBlock = v.ownBlock ∨ ∃ b, v'.ownBlock = some b ∧ w.heap.size ≤ b
  ownb : bv'.ownBlock = bv.ownBlock ∨ ∃ b, bv'.ownBlock = some b ∧ w.heap.size ≤ b
theorem Fi.refl (P : Nat) (v bv : Value) (w : World) : Fi P v v bv bv w w := ⟨rfl, rfl, rfl, Nat.le_refl _, fun _ _ _ _ _ => rfl, .inl rfl, .inl rfl⟩
theorem Fi.trans {P : Nat} {v v1 v2 b b1 b2 : Value} {w w1 w2 : World} (h : Fi P v v1 b b1 w w1) (k : Fi P v1 v2 b1 b2 w1 w2) : Fi P v v2 b b2 w w2 :=
  ⟨k.os.trans h.os, k.tape.trans h.tape, k.output.trans h.output, Nat.le_trans h.size k.size, fun i h1 h2 h3 h4 =>
    (k.block i (Nat.lt_of_lt_of_le h1 h.size) h2 (fun e => by
      rcases h.own with e1 | ⟨b, e1, e2⟩
      · exact h3 (e1.symm.trans e)
      · rw [e1] at e; cases e; omega) (fun e => by
      rcases h.ownb with e1 | ⟨b, e1, e2⟩
      · exact h4 (e1.symm.trans e)
      · rw [e1] at e; cases e; omega)).trans (h.block i h1 h2 h3 h4),
    by
      rcases k.own with e1 | ⟨b, e1, e2⟩
      · rw [e1]; exact h.own
      · exact .inr ⟨b, e1, Nat.le_trans h.size e2⟩,
    by
      rcases k.ownb with e1 | ⟨b, e1, e2⟩
      · rw [e1]; exact h.ownb
      · exact .inr ⟨b, e1, Nat.le_trans h.size e2⟩⟩
theorem Fi.ofFr {P : Nat} {v v' bv : Value} {w w' : World} (h : Lw.Fr P v v' w w') : Fi P v v' bv bv w w' := ⟨h.os, h.tape, h.output, h.size, fun k h1 h2 h3 _ => h.block k h1 h2 h3, h.own, .inl rfl⟩
/-- Only what is new since w was turned besides. -/
theorem Fi.low {P : Nat} {v v' bv bv' : Value} {w w1 w2 : World} (h : Fi P v v' bv bv' w w1) (hb : Below w.heap.size w1 w2) : Fi P v v' bv bv' w w2 :=
  ⟨hb.os.trans h.os, hb.tape.trans h.tape, hb.output.trans h.output, Nat.le_trans h.size hb.size, fun k h1 h2 h3 h4 => (hb.block k h1).trans (h.block k h1 h2 h3 h4), h.own, h.ownb⟩
theorem Fi.ahead {P : Nat} {v v' bv bv' : Value} {w w1 w2 : World} (hb : Below w.heap.size w w1) (k : Fi P v v' bv bv' w1 w2) : Fi P v v' bv bv' w w2 :=
  ⟨k.os.trans hb.os, k.tape.trans hb.tape, k.output.trans hb.output, Nat.le_trans hb.size k.size, fun i h1 h2 h3 h4 => (k.block i (Nat.lt_of_lt_of_le h1 hb.size) h2 h3 h4).trans (hb.block i h1),
    by
      rcases k.own with e1 | ⟨b, e1, e2⟩
      · exact .inl e1
      · exact .inr ⟨b, e1, Nat.le_trans hb.size e2⟩,
    by
      rcases k.ownb with e1 | ⟨b, e1, e2⟩
      · exact .inl e1
      · exact .inr ⟨b, e1, Nat.le_trans hb.size e2⟩⟩
/-- Blocks of other types are kept. -/
theorem Li.keep {base P : Nat} {tv v v' bv bv' : Value} {w w' : World} {s : List Co} {ns : List ByteArray} {bl : List Nat} (h : Li base P tv w v bv s ns bl) (f : Fi P v v' bv bv' w w') (ts : List TypeId) (hts : ∀ t ∈ ts, t ≠ 59 ∧ t ≠ 82 ∧ t ≠ 9) : Ky ts w w' := by
  intro k c t hk ht
  obtain ⟨t1, t2, t3⟩ := hts t ht
  refine f.block k (Array.getElem?_eq_some_iff.1 hk).1 ?_ ?_ ?_
  · rintro rfl
    obtain ⟨c', h1, _⟩ := h.own
    rw [h1] at hk
    simp only [Option.some.injEq, Obj.cells.injEq] at hk
    exact t1 hk.2.1.symm
  · intro e
    obtain ⟨cs, _, h4, _⟩ := h.row
    obtain ⟨_, c', h1⟩ := h4.typed e
    rw [h1] at hk
    simp only [Option.some.injEq, Obj.cells.injEq] at hk
    exact t2 hk.2.1.symm
  · intro e
    obtain ⟨_, c', h1⟩ := row_typed h.names e
    rw [h1] at hk
    simp only [Option.some.injEq, Obj.cells.injEq] at hk
    exact t3 hk.2.1.symm
theorem Li.frame {base P : Nat} {tv v v' bv bv' : Value} {w w' : World} {s : List Co} {ns : List ByteArray} {bl : List Nat} (h : Li base P tv w v bv s ns bl) (f : Fi P v v' bv bv' w w') : Below base w w' := by
  have hB := h.base
  refine ⟨f.os, f.tape, f.output, f.size, fun k hk => f.block k (by omega) (by have := h.le; omega) (fun e => ?_) (fun e => ?_)⟩
  · obtain ⟨cs, _, h4, _⟩ := h.row
    have := (h4.typed e).1
    omega
  · have := (row_typed h.names e).1
    omega
end Lp
theorem put_li (base P : Nat) (tv v bv vv pl : Value) (s : List Co) (ns : List ByteArray) (bl : List Nat) (op num : Int) (val : List M.Cl) (ps : List Int) (w : World) (h : Lp.Li base P tv w v bv s ns bl) (hv : Res w base vv val) (hb : ∀ b, vv.ownBlock = some b → b ∉ bl) (hpl : Lp.Pl w pl ps) (h3 : ps.length ≤ 3) (hn : s.length ≤ 4096) :
    Calls Try.prog 52 #[.pointer (some ⟨P, 0, none⟩), .agg #[.int .i64 op, .int .i64 0, .int .i64 0, .int .i64 0, .int .i64 num, vv], pl] w fun e w' => ∃ v', e = .returned (.int .i64 s.length) ∧ Lp.Li base P tv w' v' bv (s ++ [Lw.mk op num val ps]) ns (bl ++ vv.ownBlock.toList) ∧ Lp.Fi P v v' bv bv w w' := by
  obtain ⟨cs, h5, h6, h7⟩ := h.row
  have hl : cs.length = s.length := by rw [← h5, List.length_map]
  refine (implPut_any base P tv v bv vv pl cs op num val ps w h.own h.le h6 hv hpl h3 (by omega)).mono ?_
  rintro e w' ⟨v', rfl, q1, q2, q3⟩
  have hfi : Lp.Fi P v v' bv bv w w' := Lp.Fi.ofFr q3
  refine ⟨v', by rw [hl], ⟨q1, h.le, ⟨_, by rw [List.map_append, h5]; rfl, q2, by rw [Lp.bls_snoc, h7]⟩, ?_, ?_⟩, hfi⟩
  · refine List.nodup_append.2 ⟨h.nd, ?_, fun a ha b hb' e => ?_⟩
    · cases vv.ownBlock <;> simp
    · subst e
      cases hv2 : vv.ownBlock with
      | none => rw [hv2] at hb'; simp at hb'
      | some x => rw [hv2] at hb'; simp at hb'; subst hb'; exact hb _ hv2 ha
  · obtain ⟨n1, ⟨n2, n3⟩ | ⟨g, cap, cur, n4, hg, hh, n5⟩⟩ := h.names
    · exact ⟨n1, .inl ⟨n2, n3⟩⟩
    · refine ⟨n1, .inr ⟨g, cap, cur, n4, hg, (q3.block g (Array.getElem?_eq_some_iff.1 hh).1 ?_ ?_).trans hh, n5⟩⟩
      · rintro rfl
        obtain ⟨c', z1, _⟩ := h.own
        rw [z1] at hh
        simp only [Option.some.injEq, Obj.cells.injEq] at hh
        exact absurd hh.2.1 (by decide)
      · intro e
        obtain ⟨_, c', z1⟩ := h6.typed e
        rw [z1] at hh
        simp only [Option.some.injEq, Obj.cells.injEq] at hh
        exact absurd hh.2.1 (by decide)
end Go.Proofs.Ytmbefapdckhjdaa

namespace Go.Proofs.Ytmbefapdckhjdaa
open Go.RowKit
set_option linter.unusedVariables false
set_option linter.unusedSimpArgs false


namespace Lp
/-- A form, not a list. -/
def isF : Fm → Prop
  | .nil => False | .cons _ _ => False | _ => True
def isL : Fm → Prop
  | .nil => True | .cons _ t => isL t | _ => False
def elems : Fm → List Fm
  | .cons h t => h :: elems t
  | _ => []
/-- Forms whose parts are lists of forms, no more than three. -/
def Gd : Fm → Prop
  | .nil => True
  | .cons h t => isF h ∧ isL t ∧ Gd h ∧ Gd t
  | .tree _ => True
  | .var _ => True
  | .node _ _ _ ps => isL ps ∧ Gd ps ∧ (elems ps).length ≤ 3
  | .bind _ _ a b => isL a ∧ Gd a ∧ (elems a).length ≤ 2 ∧ Gd b ∧ ∃ c, b = Lw.l1 c ∧ isF c
theorem fv_len {w : World} {B : Nat} (ps : Fm) (h : isL ps) : ∀ {qs : List Value} {bl : List Nat}, Lf.Fv w B ps qs bl → qs.length = (elems ps).length := by
  induction ps with
  | nil => rintro qs bl ⟨rfl, _⟩; rfl
  | cons a t _ ih =>
    rintro qs bl ⟨v, ws, b1, b2, rfl, _, _, h4⟩
    show ws.length + 1 = (elems t).length + 1
    rw [ih h h4]
  | tree i => exact absurd h (by simp [isL])
  | var t => exact absurd h (by simp [isL])
  | node op num val ps => exact absurd h (by simp [isL])
  | bind op t a b => exact absurd h (by simp [isL])
theorem lay_one (rec : Lw.Rec) (F : Fm) (h : isF F) (ns : List ByteArray) (s : List Co) : (Lw.lay rec F ns s).2 = [(Lw.lay rec F ns s).2.headD 0] := by
  cases F with
  | nil => exact absurd h (by simp [isF])
  | cons a b => exact absurd h (by simp [isF])
  | tree i => rfl
  | var t => rfl
  | node op num val ps => rfl
  | bind op t a b => rfl
theorem lay_places (rec : Lw.Rec) (ps : Fm) (h : isL ps) (hg : Gd ps) : ∀ (ns : List ByteArray) (s : List Co), (Lw.lay rec ps ns s).2.length = (elems ps).length := by
  induction ps with
  | nil => intro ns s; rfl
  | cons a t _ ih =>
    intro ns s
    obtain ⟨g1, g2, g3, g4⟩ := hg
    show ((Lw.lay rec a ns s).2 ++ (Lw.lay rec t ns (Lw.lay rec a ns s).1).2).length = (elems t).length + 1
    rw [List.length_append, ih g2 g4, lay_one rec a g1]
    simp; omega
  | tree i => exact absurd h (by simp [isL])
  | var t => exact absurd h (by simp [isL])
  | node op num val ps => exact absurd h (by simp [isL])
  | bind op t a b => exact absurd h (by simp [isL])
/-- What a call of lay leaves. -/
def Mi (base P : Nat) (tv v bv : Value) (w : World) (ns : List ByteArray) (bl fb : List Nat) (r : List Co × Int) (e : Ending) (w' : World) : Prop :=
  ∃ v' bv' bl', e = .returned (.int .i64 r.2) ∧ Li base P tv w' v' bv' r.1 ns bl' ∧ Fi P v v' bv bv' w w' ∧ ∀ b ∈ bl', b ∈ bl ∨ b ∈ fb ∨ w.heap.size ≤ b
/-- lay lays the form F as it is said plainly. -/
def SayF (base P : Nat) (tv : Value) (T : World → Prop) (rec : Lw.Rec) (c : Int → Nat) (F : Fm) (ns : List ByteArray) : Prop :=
  ∀ (v bv : Value) (s : List Co) (bl : List Nat) (w : World) (fv : Value) (fb : List Nat), Li base P tv w v bv s ns bl → T w → Lf.Fv w base F [fv] fb → fb.Nodup → (∀ b ∈ fb, b ∉ bl ∧ b < w.heap.size) → s.length + Lw.cst c F ≤ 3000 →
    Calls Try.prog 24 #[.pointer (some ⟨P, 0, none⟩), fv] w (Mi base P tv v bv w ns bl fb ((Lw.lay rec F ns s).1, (Lw.lay rec F ns s).2.headD 0))
/-- What a call of layAll leaves. -/
def Ml (base P : Nat) (tv v bv : Value) (w : World) (ns : List ByteArray) (bl fb : List Nat) (r : List Co × List Int) (e : Ending) (w' : World) : Prop :=
  ∃ v' bv' bl' pl, e = .returned pl ∧ Li base P tv w' v' bv' r.1 ns bl' ∧ Fi P v v' bv bv' w w' ∧ (∀ b ∈ bl', b ∈ bl ∨ b ∈ fb ∨ w.heap.size ≤ b) ∧ w'.ownsRow w.heap.size 2 1 pl r.2.length (r.2.map (Value.int .i64))
theorem oneOf_last {ns : List ByteArray} {t : ByteArray} (h : oneOf ns t = true) : ∃ j, j < ns.length ∧ ((ns.getD j ByteArray.empty).toList == t.toList) = true := by
  induction ns with
  | nil => simp [oneOf] at h
  | cons a r ih =>
    by_cases e : (a.toList == t.toList) = true
    · exact ⟨0, by simp, e⟩
    · have h2 : oneOf r t = true := by
        simp only [oneOf, List.any_cons, Bool.or_eq_true] at h
        rcases h with h | h
        · exact absurd h (by simpa using e)
        · exact h
      obtain ⟨j, hj, hq⟩ := ih h2
      exact ⟨j + 1, by simp; omega, hq⟩
end Lp
set_option maxRecDepth 100000 in
set_option maxHeartbeats 1000000 in
theorem slotOf_li (base P : Nat) (tv v bv : Value) (s : List Co) (ns : List ByteArray) (bl : List Nat) (t : ByteArray) (w : World) (h : Lp.Li base P tv w v bv s ns bl) (hb : oneOf ns t = true) (hn : ns.length ≤ 4000) :
    Calls Try.prog 53 #[.pointer (some ⟨P, 0, none⟩), .string t] w fun e w' => e = .returned (.int .i64 (Lw.slot ns t)) ∧ w' = w := by
  obtain ⟨j0, hj0, hj1⟩ := Lp.oneOf_last hb
  have p2 := h.own.cell 2
  simp only [List.getElem?_cons_zero, List.getElem?_cons_succ] at p2
  have hnm := h.names
  obtain ⟨h1, ⟨h2, h3⟩ | ⟨g, cap, cur, h4, hg, hh, hnc, hcm, hcs, htk⟩⟩ := h.names
  · omega
  subst h4
  have HC := hide (show ∀ k, k < ns.length → w.cell? ⟨g, k, none⟩ = some (.string (ns.getD k ByteArray.empty)) from fun k hk => by
    rw [Tr.owns_cell hnm k hk, List.getElem?_map, List.getElem?_eq_getElem hk, List.getD_eq_getElem?_getD, List.getElem?_eq_getElem hk]; rfl)
  have HJ := hide (show ∃ j, j < ns.length ∧ ((ns.getD j ByteArray.empty).toList == t.toList) = true from ⟨j0, hj0, hj1⟩)
  have hs0 : (ns.length : Int) - 1 = ((ns.length - 1 : Nat) : Int) := by omega
  clear hnm h hb h1 hg hh htk hcs hj1
  go_enter Try.func53, Try.ntmps53
  go_wp2_with fail
  go_loopg [5] (ns.length - 1) (fun gh s5 wr => ∃ k : Nat, Hid (gh = k) ∧ s5 = .int .i64 k ∧ k < ns.length ∧ Hid (∀ i, k < i → i < ns.length → ((ns.getD i ByteArray.empty).toList == t.toList) = false) ∧ wr = w)
  case atStart => exact ⟨ns.length - 1, rfl, by rw [← hs0], by omega, fun i h1 h2 => absurd h2 (by omega), rfl⟩
  case round =>
    obtain ⟨k, hg, rfl, hk, hall, rfl⟩ := hrel
    have c0 := (unhide HC) k hk
    have hkI : (k : Int) < (ns.length : Int) := by omega
    by_cases he : ns.getD k ByteArray.empty = t
    · have fin := hide (Lw.slotK_is ns t ns.length k hk (by rw [he]; simp) hall.out)
      generalize ns.getD k ByteArray.empty = x at *
      subst he
      go_wp2_with fail
      go_ret
      exact ⟨by show Ending.returned (Value.int .i64 (k : Int)) = Ending.returned (.int .i64 ((Lw.slotK ns x ns.length : Nat) : Int)); rw [unhide fin], rfl⟩
    · have g1 : ((ns.getD k ByteArray.empty).toList == t.toList) = false := Lw.text_ne he
      have hk0 : 0 < k := by
        obtain ⟨j, q1, q2⟩ := unhide HJ
        by_cases hjk : k < j
        · rw [hall.out j hjk q1] at q2; cases q2
        · by_cases hjk2 : j = k
          · rw [hjk2, g1] at q2; cases q2
          · omega
      have hall2 : Hid (∀ i, k - 1 < i → i < ns.length → ((ns.getD i ByteArray.empty).toList == t.toList) = false) := fun i q1 q2 => by
        by_cases e : i = k
        · subst e; exact g1
        · exact hall.out i (by omega) q2
      have hsub : (k : Int) - 1 = ((k - 1 : Nat) : Int) := by omega
      generalize ns.getD k ByteArray.empty = x at *
      clear he
      go_wp2_with fail
      go_roundg (k - 1)
      case rel => exact ⟨k - 1, rfl, by rw [← hsub], by omega, hall2, rfl⟩
      case measure => have := hg.out; omega

end Go.Proofs.Ytmbefapdckhjdaa

namespace Go.Proofs.Ytmbefapdckhjdaa
open Go.RowKit
set_option linter.unusedVariables false
set_option linter.unusedSimpArgs false


theorem Lp.infoI : (Try.prog.info? 2).map (fun i => (i.zero, i.size, i.bytes)) = some (some (.int .i64 0), 1, 8) := by kernel_rfl
namespace Lp
/-- The walk of layAll ahead of the k-th form. -/
structure Wk (base P : Nat) (tv : Value) (T : World → Prop) (rec : Lw.Rec) (c : Int → Nat) (ns : List ByteArray) (v bv : Value) (w : World) (s : List Co) (bl fb : List Nat) (ps : Fm) (g : Nat) (qs : List Value) (k : Nat) (s5 : Value) (wr : World) (rest : Fm) (vk bvk : Value) (Sk : List Co) (blk fbk : List Nat) (pk : List Int) : Prop where
  li : Li base P tv wr vk bvk Sk ns blk
  t : T wr
  fi : Fi P v vk bv bvk w wr
  inn : ∀ b ∈ blk, b ∈ bl ∨ b ∈ fb ∨ w.heap.size ≤ b
  row : wr.ownsRow w.heap.size 2 1 s5 pk.length (pk.map (Value.int .i64))
  fv : Lf.Fv wr base rest (qs.drop k) fbk
  nd : fbk.Nodup
  ap : ∀ b ∈ fbk, b ∉ blk ∧ b ∈ fb
  eq : Lw.lay rec ps ns s = ((Lw.lay rec rest ns Sk).1, pk ++ (Lw.lay rec rest ns Sk).2)
  len : pk.length = k
  room : Sk.length + Lw.cst c rest ≤ 3000
  isl : isL rest
  gd : Gd rest
  say : ∀ G ∈ elems rest, SayF base P tv T rec c G ns
  own : Own wr g 91 qs
/-- What the walk has behind the k-th call of lay. -/
def Nx (base P : Nat) (tv : Value) (T : World → Prop) (rec : Lw.Rec) (c : Int → Nat) (ns : List ByteArray) (v bv : Value) (w : World) (s : List Co) (bl fb : List Nat) (ps : Fm) (g : Nat) (qs : List Value) (k : Nat) (s5 : Value) (pk : List Int) (q1 : Int) (w1 : World) : Prop :=
  w1.ownsRow w.heap.size 2 1 s5 pk.length (pk.map (Value.int .i64)) ∧ pk.length = k ∧ w.heap.size ≤ w1.heap.size ∧
  ∀ (w2 : World) (s5' : Value), w2.ownsRow w.heap.size 2 1 s5' (pk.length + 1) (pk.map (Value.int .i64) ++ [.int .i64 q1]) → Ky [59, 82, 120, 9, 91] w1 w2 → Below w.heap.size w1 w2 → ∃ rest vk bvk Sk blk fbk, Wk base P tv T rec c ns v bv w s bl fb ps g qs (k + 1) s5' w2 rest vk bvk Sk blk fbk (pk ++ [q1])
theorem Wk.call {base P : Nat} {tv : Value} {T : World → Prop} (hT : ∀ x y, Below base x y → T x → T y) {rec : Lw.Rec} {c : Int → Nat} (hc : ∀ i ns s, (rec i ns s).1.length ≤ s.length + c i) {ns : List ByteArray} {v bv : Value} {w : World} {s : List Co} {bl fb : List Nat} {ps : Fm} {g : Nat} {qs : List Value} {k : Nat} {s5 : Value} {wr : World} {rest : Fm} {vk bvk : Value} {Sk : List Co} {blk fbk : List Nat} {pk : List Int} (hbw : base ≤ w.heap.size) (hfb : ∀ b ∈ fb, b < w.heap.size) (W : Wk base P tv T rec c ns v bv w s bl fb ps g qs k s5 wr rest vk bvk Sk blk fbk pk) (hlt : k < qs.length) :
    ∃ tq xq q1, wr.cell? ⟨g, k, none⟩ = some (.iface tq xq) ∧ Calls Try.prog 24 #[.pointer (some ⟨P, 0, none⟩), .iface tq xq] wr (fun e w1 => e = .returned (.int .i64 q1) ∧ Nx base P tv T rec c ns v bv w s bl fb ps g qs k s5 pk q1 w1) := by
  obtain ⟨li, tt, fi, inn, row, fv, nd, ap, eq, len, room, isl, gd, say, own⟩ := W
  have hcell : wr.cell? ⟨g, k, none⟩ = some qs[k] := by rw [own.cell k, List.getElem?_eq_getElem hlt]
  rw [List.drop_eq_getElem_cons hlt] at fv
  cases rest with
  | nil => obtain ⟨e, _⟩ := fv; cases e
  | tree i => exact absurd isl (by simp [isL])
  | var t => exact absurd isl (by simp [isL])
  | node op num val ps => exact absurd isl (by simp [isL])
  | bind op t a b => exact absurd isl (by simp [isL])
  | cons h t =>
    obtain ⟨q', ws, b1, b2, e1, e2, fh, ft⟩ := fv
    simp only [List.cons.injEq] at e1
    obtain ⟨e1, e3⟩ := e1
    subst e2
    obtain ⟨g1, g2, g3, g4⟩ := gd
    obtain ⟨tq, xq, hqi⟩ := Lf.fv_iface fh (by
      refine ⟨?_, fun a b e => ?_⟩
      · rintro rfl; exact g1
      · subst e; exact g1)
    have hnd := List.nodup_append.1 nd
    have hroom : Sk.length + (Lw.cst c h + Lw.cst c t) ≤ 3000 := room
    have hfbs : ∀ b ∈ b1 ++ b2, b < wr.heap.size := fun b hb => Nat.lt_of_lt_of_le (hfb b (ap b hb).2) fi.size
    refine ⟨tq, xq, (Lw.lay rec h ns Sk).2.headD 0, by rw [hcell, e1, hqi], ?_⟩
    rw [hqi] at fh
    refine (say h (by simp [elems]) vk bvk Sk blk wr _ b1 li tt fh hnd.1 (fun b hb => ⟨(ap b (List.mem_append_left _ hb)).1, hfbs b (List.mem_append_left _ hb)⟩) (by omega)).mono ?_
    rintro e w1 ⟨v1, bv1, bl1, rfl, L1, F1, I1⟩
    have hk1 := li.keep F1 [91, 120, 2] (by decide)
    have hgrow := Lw.lay_len rec c hc h ns Sk
    refine ⟨rfl, hk1.row row (by decide), len, Nat.le_trans fi.size F1.size, fun w2 s5' hrow hky hbel => ?_⟩
    refine ⟨t, v1, bv1, (Lw.lay rec h ns Sk).1, bl1, b2, ⟨L1.upd (hky.sub (by decide)), hT _ _ (hbel.mono hbw) (hT _ _ (li.frame F1) tt), (fi.trans F1).low hbel, ?_, ?_, ?_, hnd.2.1, ?_, ?_, ?_, ?_, g2, g4, fun G hG => say G (by simp [elems, hG]), hky.own (hk1.own own (by decide)) (by decide)⟩⟩
    · intro b hb
      rcases I1 b hb with q | q | q
      · exact inn b q
      · exact .inr (.inl (ap b (List.mem_append_left _ q)).2)
      · exact .inr (.inr (Nat.le_trans fi.size q))
    · rw [List.length_append, List.length_singleton, List.map_append]; exact hrow
    · rw [← e3] at ft
      exact Lf.Fv.keep (hky.kf (by decide)) _ (Lf.Fv.keep (hk1.kf (by decide)) _ ft)
    · intro b hb
      refine ⟨fun hb1 => ?_, (ap b (List.mem_append_right _ hb)).2⟩
      rcases I1 b hb1 with q | q | q
      · exact (ap b (List.mem_append_right _ hb)).1 q
      · exact hnd.2.2 b q b hb rfl
      · have := hfbs b (List.mem_append_right _ hb); omega
    · rw [eq]
      show ((Lw.lay rec t ns (Lw.lay rec h ns Sk).1).1, pk ++ ((Lw.lay rec h ns Sk).2 ++ (Lw.lay rec t ns (Lw.lay rec h ns Sk).1).2)) = _
      rw [lay_one rec h g1 ns Sk, List.append_assoc]; rfl
    · rw [List.length_append, List.length_singleton, len]
    · omega
theorem Wk.done {base P : Nat} {tv : Value} {T : World → Prop} {rec : Lw.Rec} {c : Int → Nat} {ns : List ByteArray} {v bv : Value} {w : World} {s : List Co} {bl fb : List Nat} {ps : Fm} {g : Nat} {qs : List Value} {s5 : Value} {wr : World} {rest : Fm} {vk bvk : Value} {Sk : List Co} {blk fbk : List Nat} {pk : List Int} (W : Wk base P tv T rec c ns v bv w s bl fb ps g qs qs.length s5 wr rest vk bvk Sk blk fbk pk) : Ml base P tv v bv w ns bl fb (Lw.lay rec ps ns s) (.returned s5) wr := by
  obtain ⟨li, tt, fi, inn, row, fv, nd, ap, eq, len, room, isl, gd, say, own⟩ := W
  rw [List.drop_length] at fv
  cases rest with
  | nil =>
    have e1 : Lw.lay rec ps ns s = (Sk, pk) := by rw [eq]; show (Sk, pk ++ []) = _; rw [List.append_nil]
    rw [e1]
    exact ⟨vk, bvk, blk, s5, rfl, li, fi, inn, row⟩
  | tree i => exact absurd isl (by simp [isL])
  | var t => exact absurd isl (by simp [isL])
  | node op num val ps => exact absurd isl (by simp [isL])
  | bind op t a b => exact absurd isl (by simp [isL])
  | cons h t => obtain ⟨q', ws, b1, b2, e1, _⟩ := fv; cases e1
end Lp
set_option maxRecDepth 100000 in
set_option maxHeartbeats 1000000 in
theorem layAll_some (base P : Nat) (tv : Value) (T : World → Prop) (hT : ∀ x y, Below base x y → T x → T y) (rec : Lw.Rec) (c : Int → Nat) (hc : ∀ i ns s, (rec i ns s).1.length ≤ s.length + c i) (ns : List ByteArray) (v bv : Value) (s : List Co) (bl fb : List Nat) (ps : Fm) (g : Nat) (qs : List Value) (w : World) (hq : qs.length ≤ 3) (hbw : base ≤ w.heap.size) (hfb : ∀ b ∈ fb, b < w.heap.size) (W0 : Lp.Wk base P tv T rec c ns v bv w s bl fb ps g qs 0 (.slice none 0 0) w ps v bv s bl fb []) :
    Calls Try.prog 55 #[.pointer (some ⟨P, 0, none⟩), .slice (some ⟨g, 0, none⟩) qs.length qs.length] w (Lp.Ml base P tv v bv w ns bl fb (Lw.lay rec ps ns s)) := by
  obtain ⟨i0, hi, hz0, hz1, hz2⟩ := info_parts Lp.infoI
  have HW0 := hide W0
  have HCALL := hide (fun k s5 wr rest vk bvk Sk blk fbk pk W hlt => Lp.Wk.call (base := base) (P := P) (tv := tv) (T := T) hT (rec := rec) (c := c) hc (ns := ns) (v := v) (bv := bv) (w := w) (s := s) (bl := bl) (fb := fb) (ps := ps) (g := g) (qs := qs) (k := k) (s5 := s5) (wr := wr) (rest := rest) (vk := vk) (bvk := bvk) (Sk := Sk) (blk := blk) (fbk := fbk) (pk := pk) hbw hfb W hlt)
  obtain ⟨R, hR⟩ : ∃ R, R = Lw.lay rec ps ns s := ⟨_, rfl⟩
  rw [← hR]
  have HR := hide hR
  clear W0 hT hc hfb hR
  go_enter Try.func55, Try.ntmps55
  go_wp2_with fail
  go_loopg [5, 10] qs.length (fun gh s5 s10 wr => ∃ (k : Nat) (rest : Fm) (vk bvk : Value) (Sk : List Co) (blk fbk : List Nat) (pk : List Int), Hid (gh = qs.length - k) ∧ s10 = .int .i64 k ∧ k ≤ qs.length ∧ Hid (Lp.Wk base P tv T rec c ns v bv w s bl fb ps g qs k s5 wr rest vk bvk Sk blk fbk pk))
  case atStart => exact ⟨0, ps, v, bv, s, bl, fb, [], rfl, rfl, by omega, unhide HW0⟩
  case round =>
    obtain ⟨k, rest, vk, bvk, Sk, blk, fbk, pk, hg, rfl, hk, hwk⟩ := hrel
    clear HW0
    by_cases hlt : k < qs.length
    · have hltI : (k : Int) < (qs.length : Int) := by omega
      obtain ⟨tq, xq, q1, hcell, hcall⟩ := (unhide HCALL) k _ wr rest vk bvk Sk blk fbk pk hwk.out hlt
      have HC := hide hcall
      clear hcall hwk HCALL
      go_wp2_with fail
      refine (unhide HC).mono ?_
      clear HC hcell
      rintro e w1 ⟨rfl, hrow1, hpk, hsz1, hnx⟩
      have HN := hide hnx
      clear hnx
      have hrow2 := hide (hrow1.alloc (.cells #[.int .i64 q1] 2))
      have hone := hide (cell_one_new w1 (.int .i64 q1) 2)
      have hop1 : Hid (∀ x ∈ [Value.int .i64 q1], x.oneCell' = true) := fun x hx => by simp only [List.mem_singleton] at hx; subst hx; rfl
      have hb63 : pk.length + 1 ≤ maxLen := by unfold maxLen; omega
      have hby : (pk.length + 1) * 8 ≤ 140737488355328 := by omega
      have HROW := hide hrow1
      have HPK := hide hpk
      clear hrow1 hpk
      go_wp2_with (at_builtin; refine wpList_append_own_at _ rfl (.tmp 14) (.tmp 18) 74 rfl w.heap.size 2 i0 (.int .i64 0) 1 8 Try.underlying74 hi hz0 hz1 hz2 rfl (by decide) _ pk.length _ rfl (unhide hrow2) ⟨w1.heap.size, 0, none⟩ 1 1 [.int .i64 q1] rfl rfl (unhide hone) (unhide hop1) hb63 hby (by simp; omega) ?_)
      intro v' w2 ho' hg' _ _
      have hky : Lp.Ky [59, 82, 120, 9, 91] w1 w2 := by
        intro kk cc tt h1 h2
        have hlt1 := (Array.getElem?_eq_some_iff.1 h1).1
        have ha : (w1.alloc (.cells #[.int .i64 q1] 2)).heap[kk]? = w1.heap[kk]? := ((Below.refl w1.heap.size w1).alloc (Nat.le_refl _) _).block kk hlt1
        refine (hg'.block kk (by simp; omega) (fun e => ?_)).trans ha
        obtain ⟨_, c', z1⟩ := Lp.row_typed (unhide HROW) e.symm
        rw [h1] at z1
        simp only [Option.some.injEq, Obj.cells.injEq] at z1
        rw [z1.2.1] at h2
        exact absurd h2 (by decide)
      have hbl : Below w.heap.size w1 w2 := ((Below.refl _ _).alloc hsz1 _).grown hg' (by simp; omega) (fun q e => (Lp.row_typed (unhide HROW) e).1)
      obtain ⟨rest2, vk2, bvk2, Sk2, blk2, fbk2, hw2⟩ := (unhide HN) w2 v' ho' hky hbl
      have HW2 := hide hw2
      clear hw2 hky hbl ho' hg' HN HROW HPK hrow2 hone
      go_wp2_with fail
      go_roundg (qs.length - (k + 1))
      case rel => exact ⟨k + 1, rest2, vk2, bvk2, Sk2, blk2, fbk2, _, rfl, by go_num, by omega, unhide HW2⟩
      case measure => have := hg.out; omega
    · have hke : k = qs.length := by omega
      subst hke
      have fin := hide (Lp.Wk.done hwk.out)
      rw [← unhide HR] at fin
      clear hwk
      go_wp2_with fail
      go_ret
      exact unhide fin
set_option maxRecDepth 100000 in
set_option maxHeartbeats 1000000 in
theorem layAll_any (base P : Nat) (tv : Value) (T : World → Prop) (hT : ∀ x y, Below base x y → T x → T y) (rec : Lw.Rec) (c : Int → Nat) (hc : ∀ i ns s, (rec i ns s).1.length ≤ s.length + c i) (ns : List ByteArray) (v bv pv : Value) (s : List Co) (bl fb : List Nat) (ps : Fm) (qs : List Value) (w : World) (hL : Lp.Li base P tv w v bv s ns bl) (hw : T w) (hp : Lf.Pt w base pv qs) (hfv : Lf.Fv w base ps qs fb) (hnd : fb.Nodup) (hap : ∀ b ∈ fb, b ∉ bl ∧ b < w.heap.size) (hroom : s.length + Lw.cst c ps ≤ 3000) (hil : Lp.isL ps) (hgd : Lp.Gd ps) (h3 : (Lp.elems ps).length ≤ 3) (hsay : ∀ G ∈ Lp.elems ps, Lp.SayF base P tv T rec c G ns) :
    Calls Try.prog 55 #[.pointer (some ⟨P, 0, none⟩), pv] w (Lp.Ml base P tv v bv w ns bl fb (Lw.lay rec ps ns s)) := by
  have hlen := Lp.fv_len ps hil hfv
  rcases hp with ⟨rfl, rfl⟩ | ⟨g, rfl, hg, ho⟩
  · have hps : ps = .nil := by
      cases ps with
      | nil => rfl
      | cons a t => simp [Lp.elems] at hlen
      | tree i => exact absurd hil (by simp [Lp.isL])
      | var t => exact absurd hil (by simp [Lp.isL])
      | node op num val ps => exact absurd hil (by simp [Lp.isL])
      | bind op t a b => exact absurd hil (by simp [Lp.isL])
    subst hps
    have fin := hide (show Lp.Ml base P tv v bv w ns bl fb (s, []) (.returned (.slice none 0 0)) w from ⟨v, bv, bl, _, rfl, hL, Lp.Fi.refl _ _ _ _, fun b hb => .inl hb, World.ownsRow_nil _ _ _ _⟩)
    show Calls Try.prog 55 _ w (Lp.Ml base P tv v bv w ns bl fb (s, []))
    obtain ⟨R, hR⟩ : ∃ R : List Co × List Int, R = (s, []) := ⟨_, rfl⟩
    rw [← hR] at fin ⊢
    clear hR hL hw hfv hnd hap hroom hil hgd h3 hsay hlen hT hc
    go_enter Try.func55, Try.ntmps55
    go_wp2_with fail
    refine wp_loop_rounds 1 ?_
    rw [rounds_succ]
    go_wp2_with fail
    go_ret
    exact unhide fin
  · exact layAll_some base P tv T hT rec c hc ns v bv s bl fb ps g qs w (by omega) hL.base (fun b hb => (hap b hb).2) ⟨hL, hw, Lp.Fi.refl _ _ _ _, fun b hb => .inl hb, World.ownsRow_nil _ _ _ _, hfv, hnd, fun b hb => ⟨(hap b hb).1, hb⟩, rfl, rfl, hroom, hil, hgd, hsay, ho⟩

end Go.Proofs.Ytmbefapdckhjdaa

namespace Go.Proofs.Ytmbefapdckhjdaa
open Go.RowKit
set_option linter.unusedVariables false
set_option linter.unusedSimpArgs false


namespace Lp
def isStruct (u : Option TypeDesc) : Bool := match u with | some (.struct _) => true | _ => false
theorem run_assert_yes {P : Program} (w : World) (t xT : TypeId) (v : Value) (h : isStruct (P.underlying t) = true) : (Instr.typeAssert (.iface t v) xT t true).run P w = .ok (.tuple #[v, .bool true]) w := by
  cases hu : P.underlying t with
  | none => rw [hu] at h; cases h
  | some u =>
    cases u with
    | struct f => simp [Instr.typeAssert, run_underlying hu]
    | _ => rw [hu] at h; cases h
theorem run_assert_no {P : Program} (w : World) (t a xT : TypeId) (v z : Value) (h : isStruct (P.underlying a) = true) (hne : t ≠ a) (hz : (P.info? a).map (·.zero) = some (some z)) : (Instr.typeAssert (.iface t v) xT a true).run P w = .ok (.tuple #[z, .bool false]) w := by
  cases hu : P.underlying a with
  | none => rw [hu] at h; cases h
  | some u =>
    cases u with
    | struct f =>
      cases hq : P.info? a with
      | none => simp [hq] at hz
      | some i =>
        have hi : i.zero = some z := by simpa [hq] using hz
        simp [Instr.typeAssert, run_underlying hu, hne, zeroValue, typeInfo, hq, hi]
    | _ => rw [hu] at h; cases h
theorem noT (t : TypeId) (hne : t ≠ 62) (x : Value) (w : World) : (Instr.typeAssert (.iface t x) 91 62 true).run Try.prog w = .ok (.tuple #[.agg #[.int .i64 0], .bool false]) w := run_assert_no w t 62 91 x _ (by kernel_rfl) hne (by kernel_rfl)
theorem noV (t : TypeId) (hne : t ≠ 94) (x : Value) (w : World) : (Instr.typeAssert (.iface t x) 91 94 true).run Try.prog w = .ok (.tuple #[.agg #[.string ⟨#[]⟩], .bool false]) w := run_assert_no w t 94 91 x _ (by kernel_rfl) hne (by kernel_rfl)
theorem noB (t : TypeId) (hne : t ≠ 99) (x : Value) (w : World) : (Instr.typeAssert (.iface t x) 91 99 true).run Try.prog w = .ok (.tuple #[.agg #[.int .i64 0, .string ⟨#[]⟩, .slice none 0 0, .nilIface], .bool false]) w := run_assert_no w t 99 91 x _ (by kernel_rfl) hne (by kernel_rfl)
theorem yesT (x : Value) (w : World) : (Instr.typeAssert (.iface 62 x) 91 62 true).run Try.prog w = .ok (.tuple #[x, .bool true]) w := run_assert_yes w _ _ x (by kernel_rfl)
theorem yesV (x : Value) (w : World) : (Instr.typeAssert (.iface 94 x) 91 94 true).run Try.prog w = .ok (.tuple #[x, .bool true]) w := run_assert_yes w _ _ x (by kernel_rfl)
theorem yesB (x : Value) (w : World) : (Instr.typeAssert (.iface 99 x) 91 99 true).run Try.prog w = .ok (.tuple #[x, .bool true]) w := run_assert_yes w _ _ x (by kernel_rfl)
theorem yesC (x : Value) (w : World) : (Instr.typeAssert (.iface 102 x) 91 102 true).run Try.prog w = .ok (.tuple #[x, .bool true]) w := run_assert_yes w _ _ x (by kernel_rfl)
end Lp
theorem Lf.Pt.shape {w : World} {B : Nat} {pv : Value} {qs : List Value} (h : Lf.Pt w B pv qs) : ∃ a n c, pv = .slice a n c := by
  rcases h with ⟨rfl, _⟩ | ⟨g, rfl, _, _⟩
  · exact ⟨_, _, _, rfl⟩
  · exact ⟨_, _, _, rfl⟩
set_option maxRecDepth 100000 in
set_option maxHeartbeats 1000000 in
theorem lay_node (base P : Nat) (tv : Value) (T : World → Prop) (hT : ∀ x y, Below base x y → T x → T y) (rec : Lw.Rec) (c : Int → Nat) (hc : ∀ i ns s, (rec i ns s).1.length ≤ s.length + c i) (ns : List ByteArray) (op num : Int) (val : List M.Cl) (ps : Fm) (hil : Lp.isL ps) (hgd : Lp.Gd ps) (h3 : (Lp.elems ps).length ≤ 3) (hsay : ∀ G ∈ Lp.elems ps, Lp.SayF base P tv T rec c G ns) : Lp.SayF base P tv T rec c (.node op num val ps) ns := by
  intro v bv s bl w fv fb hL hw hfv hnd hap hroom
  obtain ⟨vv, pv, qs, b2, e1, hres, hpt, hfv2, e2⟩ := hfv
  simp only [List.cons.injEq, and_true] at e1
  subst e1 e2
  obtain ⟨xa, xn, xc, rfl⟩ := hres.shape
  obtain ⟨ya, yn, yc, rfl⟩ := hpt.shape
  have hnd2 := List.nodup_append.1 hnd
  have hroom2 : s.length + (Lw.cst c ps + 1) ≤ 3000 := hroom
  obtain ⟨w0, hw0⟩ : ∃ w0, w0 = w.alloc (.cells #[.int .i64 op, .int .i64 0, .int .i64 0, .int .i64 0, .int .i64 num, .slice xa xn xc, .slice ya yn yc] 102) := ⟨_, rfl⟩
  have B0 : Below w.heap.size w w0 := by rw [hw0]; exact (Below.refl _ _).alloc (Nat.le_refl _) _
  have X0 : Own w0 w.heap.size 102 [.int .i64 op, .int .i64 0, .int .i64 0, .int .i64 0, .int .i64 num, .slice xa xn xc, .slice ya yn yc] := by rw [hw0]; exact ⟨_, heap_alloc_new _ _, rfl⟩
  have B0d : Below w.heap.size w w0.drew := B0.drew
  have L0 := hL.below B0d
  have HALL := hide (layAll_any base P tv T hT rec c hc ns v bv _ s bl b2 ps qs w0.drew L0 (hT _ _ (B0d.mono hL.base) hw) (hpt.keep (Lf.Kf.below B0d)) (Lf.Fv.keep (Lf.Kf.below B0d) _ hfv2) hnd2.2.1 (fun b hb => ⟨(hap b (List.mem_append_right _ hb)).1, Nat.lt_of_lt_of_le (hap b (List.mem_append_right _ hb)).2 B0d.size⟩) (by omega) hil hgd h3 hsay)
  have HPUT := hide (show ∀ (w1 : World) (v1 bv1 pl : Value) (bl1 : List Nat), Lp.Li base P tv w1 v1 bv1 (Lw.lay rec ps ns s).1 ns bl1 → Lp.Fi P v v1 bv bv1 w0.drew w1 → (∀ b ∈ bl1, b ∈ bl ∨ b ∈ b2 ∨ w0.drew.heap.size ≤ b) → w1.ownsRow w0.drew.heap.size 2 1 pl (Lw.lay rec ps ns s).2.length ((Lw.lay rec ps ns s).2.map (Value.int .i64)) → Calls Try.prog 52 #[.pointer (some ⟨P, 0, none⟩), .agg #[.int .i64 op, .int .i64 0, .int .i64 0, .int .i64 0, .int .i64 num, .slice xa xn xc], pl] w1 fun e w2 => (∃ v', e = .returned (.int .i64 ((Lw.lay rec ps ns s).1.length : Int)) ∧ Lp.Fi P v1 v' bv1 bv1 w1 w2) ∧ Lp.Mi base P tv v bv w ns bl ((Value.slice xa xn xc).ownBlock.toList ++ b2) ((Lw.lay rec (.node op num val ps) ns s).1, (Lw.lay rec (.node op num val ps) ns s).2.headD 0) e w2 from fun w1 v1 bv1 pl bl1 L1 F1 I1 R1 => by
    have hlen := Lw.lay_len rec c hc ps ns s
    have hpl := Lp.lay_places rec ps hil hgd ns s
    refine (put_li base P tv v1 bv1 _ pl _ ns bl1 op num val (Lw.lay rec ps ns s).2 w1 L1 ((L0.keep F1 [120] (by decide)).res (by decide) (hres.below B0d)) (fun b hb hin => ?_) (Lp.Pl.row R1) (by omega) (by omega)).mono ?_
    · have hmem : b ∈ (Value.slice xa xn xc).ownBlock.toList := by rw [hb]; simp
      rcases I1 b hin with q | q | q
      · exact (hap b (List.mem_append_left _ hmem)).1 q
      · exact hnd2.2.2 b hmem b q rfl
      · have h4 := (hap b (List.mem_append_left _ hmem)).2
        have h5 : w.heap.size ≤ w0.drew.heap.size := B0d.size
        omega
    · rintro e w2 ⟨v2, rfl, L2, F2⟩
      refine ⟨⟨v2, rfl, F2⟩, v2, bv1, _, rfl, L2, (F1.trans F2).ahead B0d, fun b hb => ?_⟩
      rcases List.mem_append.1 hb with q | q
      · rcases I1 b q with q | q | q
        · exact .inl q
        · exact .inr (.inl (List.mem_append_right _ q))
        · exact .inr (.inr (Nat.le_trans B0d.size q))
      · exact .inr (.inl (List.mem_append_left _ q)))
  have KEEPX := hide (fun (w1 : World) (X : Own w1 w.heap.size 102 [.int .i64 op, .int .i64 0, .int .i64 0, .int .i64 0, .int .i64 num, .slice xa xn xc, .slice ya yn yc]) => show w1.cell? ⟨w.heap.size, 0, none⟩ = some (.int .i64 op) ∧ w1.cell? ⟨w.heap.size, 1, none⟩ = some (.int .i64 0) ∧ w1.cell? ⟨w.heap.size, 2, none⟩ = some (.int .i64 0) ∧ w1.cell? ⟨w.heap.size, 3, none⟩ = some (.int .i64 0) ∧ w1.cell? ⟨w.heap.size, 4, none⟩ = some (.int .i64 num) ∧ w1.cell? ⟨w.heap.size, 5, none⟩ = some (.slice xa xn xc) ∧ w1.cell? ⟨w.heap.size, 6, none⟩ = some (.slice ya yn yc) from ⟨X.cell 0, X.cell 1, X.cell 2, X.cell 3, X.cell 4, X.cell 5, X.cell 6⟩)
  have HL0 := hide L0
  have HX0 := hide X0.drew
  have S0 := (unhide KEEPX) w0 X0
  obtain ⟨R, hR⟩ : ∃ R, R = ((Lw.lay rec (.node op num val ps) ns s).1, (Lw.lay rec (.node op num val ps) ns s).2.headD 0) := ⟨_, rfl⟩
  rw [← hR] at HPUT ⊢
  obtain ⟨R2, hR2⟩ : ∃ R2, R2 = Lw.lay rec ps ns s := ⟨_, rfl⟩
  rw [← hR2] at HPUT HALL
  clear hR hR2 hL hw hpt hfv2 hnd hap hroom hroom2 hnd2 L0 X0 hsay hT hc hres hil hgd h3 B0d
  have a1 := Lp.noT 102 (by decide)
  have a2 := Lp.noV 102 (by decide)
  have a3 := Lp.noB 102 (by decide)
  have a4 := Lp.yesC
  go_enter Try.func24, Try.ntmps24
  go_wp2_with fail
  rw [← hw0]
  clear hw0
  go_region_held_law (fun w' => w'.cell? ⟨w.heap.size, 0, none⟩ = some (.int .i64 op) ∧ w'.cell? ⟨w.heap.size, 1, none⟩ = some (.int .i64 0) ∧ w'.cell? ⟨w.heap.size, 2, none⟩ = some (.int .i64 0) ∧ w'.cell? ⟨w.heap.size, 3, none⟩ = some (.int .i64 0) ∧ w'.cell? ⟨w.heap.size, 4, none⟩ = some (.int .i64 num) ∧ w'.cell? ⟨w.heap.size, 5, none⟩ = some (.slice xa xn xc) ∧ w'.cell? ⟨w.heap.size, 6, none⟩ = some (.slice ya yn yc))
    (first | assumption | exact (unhide KEEPX) _ (unhide HX0) | exact (unhide KEEPX) _ (by assumption))
    (first
    | (go_at_call 55
       go_fit (unhide HALL)
       rintro e w1 ⟨v1, bv1, bl1, pl, rfl, L1, F1, I1, R1⟩
       have X1 : Own w1 w.heap.size 102 [.int .i64 op, .int .i64 0, .int .i64 0, .int .i64 0, .int .i64 num, .slice xa xn xc, .slice ya yn yc] := ((unhide HL0).keep F1 [102] (by decide)).own (unhide HX0) (by decide)
       obtain ⟨la, lc, hpl⟩ : ∃ a c, pl = .slice a R2.2.length c := by obtain ⟨a, c, h, _⟩ := Lp.Pl.row R1; exact ⟨a, c, h⟩
       subst hpl)
    | (go_at_call 52
       go_fit ((unhide HPUT) _ _ _ _ _ L1 F1 I1 R1)
       rintro e w2 ⟨⟨v2, he2, F2⟩, MI⟩
       subst he2
       have X2 : Own w2 w.heap.size 102 [.int .i64 op, .int .i64 0, .int .i64 0, .int .i64 0, .int .i64 num, .slice xa xn xc, .slice ya yn yc] := (L1.keep F2 [102] (by decide)).own X1 (by decide)))
  go_wp2_with fail
  go_ret
  exact MI

end Go.Proofs.Ytmbefapdckhjdaa
