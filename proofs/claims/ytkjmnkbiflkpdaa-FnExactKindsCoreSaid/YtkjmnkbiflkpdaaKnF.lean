/-
  impl.boundsOf at reductions, alternatives and conditions.
-/
import Derived.Test.YtkjmnkbiflkpdaaKnE
import Derived.Deep.RegionHeld3
namespace Go.Proofs.Ytkjmnkbiflkpdaa
open Go.RowKit
set_option linter.unusedVariables false
set_option linter.unusedSimpArgs false

theorem Kn.g_mem {L : List Kn} {i : Nat} (h : i < L.length) : Kn.g L i ∈ L := by unfold Kn.g; rw [List.getD_eq_getElem?_getD, List.getElem?_eq_getElem h]; exact List.getElem_mem h
theorem Kn.Kr.range {w : World} {q : Nat} {L : List Kn} (h : Kn.Kr w q 0 L) (i : Nat) (hi : i < L.length) : w.rangeAt q (i * 20) (Kn.cells (Kn.g L i)) := fun j v hv => by
  have hj : j < 20 := by have := (List.getElem?_eq_some_iff.1 hv).1; simpa [Kn.cells] using this
  have := h.2 i hi j hj
  rw [Nat.zero_add] at this
  rw [this]; exact hv
set_option maxRecDepth 100000 in
set_option maxHeartbeats 4000000 in
theorem boundsOf_13 (c : Co) (ca : Option Addr) (cn cc : Nat) (q cap : Nat) (L : List Kn) (ho : c.op = 13) (hL : ∀ k ∈ L, Kn.Fit k) (hn : L.length = 3) (w : World) (hr : Kn.Kr w q 0 L) :
    Calls Try.prog 64 #[.agg #[.int .i64 c.op, .int .i64 c.a, .int .i64 c.b, .int .i64 c.c, .int .i64 c.num, .slice ca cn cc], .slice (some ⟨q, 0, none⟩) L.length cap] w fun e w' => e = .returned (.agg #[.int .i64 (Kn.bd c L).1, .int .i64 (Kn.bd c L).2]) ∧ Below w.heap.size w w' := by
  have FIN := hide (show Kn.bd c L = ((Kn.g L 1).lo, (Kn.g L 1).hi) by unfold Kn.bd; simp [ho])
  rw [unhide FIN]
  rw [ho, hn]
  generalize c.a = c1 at *
  generalize c.b = c2 at *
  generalize c.c = c3 at *
  generalize c.num = c4 at *
  clear ho FIN
  obtain ⟨W, hW⟩ : ∃ W, W = ((w.alloc (.cells #[.int .i64 13, .int .i64 c1, .int .i64 c2, .int .i64 c3, .int .i64 c4, .slice ca cn cc] 48)).alloc (.cells #[.int .i64 0, .int .i64 0] 51)).alloc (.cells #[.int .i64 1, .int .i64 1] 51) := ⟨_, rfl⟩
  have ON : Own W (w.heap.size + 1) 51 [.int .i64 0, .int .i64 0] := by rw [hW]; exact Kn.new1of3 _ _ _ _ _
  have OC : Own W w.heap.size 48 [.int .i64 13, .int .i64 c1, .int .i64 c2, .int .i64 c3, .int .i64 c4, .slice ca cn cc] := by
    rw [hW]
    exact Own.below (w := w.alloc _) ⟨_, heap_alloc_new _ _, rfl⟩ (((Below.refl _ _).alloc (Nat.le_refl _) _).alloc (by simp) _) (by simp)
  have BN : Below w.heap.size w W := by rw [hW]; exact Kn.bel3 _ _ _ _
  have HR := hide (fun (V : World) (hb : Below w.heap.size w V) => hr.below hb hr.1)
  have hql := hr.1
  have f0 : W.cell? ⟨w.heap.size, 0, none⟩ = some (.int .i64 13) := OC.cell 0
  have hc := ((unhide HR) W BN).2 1 (by omega)
  have e0 : W.cell? ⟨q, 20, none⟩ = some (.int .i64 (Kn.g L 1).lo) := hc 0 (by omega)
  have e1 : W.cell? ⟨q, 21, none⟩ = some (.int .i64 (Kn.g L 1).hi) := hc 1 (by omega)
  generalize (Kn.g L 1).lo = R1 at *
  generalize (Kn.g L 1).hi = R2 at *
  obtain ⟨d0, d1⟩ := Kn.two_co ON
  have z0 := ON.frozen 0
  have z1 := ON.frozen 1
  have O2 := hide ((ON.set 0 (.int .i64 R1)).set 1 (.int .i64 R2))
  have B2 := hide (show Below w.heap.size w ((W.setCell ⟨w.heap.size + 1, 0, none⟩ (.int .i64 R1)).setCell ⟨w.heap.size + 1, 1, none⟩ (.int .i64 R2)) from (BN.setCell (by simp only; omega) _).setCell (by simp only; omega) _)
  clear hc hL hr HR OC ON BN
  go_enter Try.func64, Try.ntmps64
  go_upto_region 2 with fail
  rw [← hW]
  clear hW
  go_wp2_with fail
  obtain ⟨q0, q1⟩ := Kn.two_co (x := .int .i64 R1) (y := .int .i64 R2) (unhide O2)
  have BF := unhide B2
  clear O2 B2 d0 d1 z0 z1 e0 e1 f0
  generalize (W.setCell ⟨w.heap.size + 1, 0, none⟩ (.int .i64 R1)).setCell ⟨w.heap.size + 1, 1, none⟩ (.int .i64 R2) = WW at *
  refine bodyPost_ret (v := .agg #[.int .i64 R1, .int .i64 R2]) (by simp [results, Try.results64, go_sem, q0, q1]; try rfl) rfl ?_
  exact ⟨rfl, BF⟩
set_option maxRecDepth 100000 in
set_option maxHeartbeats 4000000 in
theorem boundsOf_5 (c : Co) (ca : Option Addr) (cn cc : Nat) (q cap : Nat) (L : List Kn) (ho : c.op = 5) (hL : ∀ k ∈ L, Kn.Fit k) (hn : L.length = 2) (w : World) (hr : Kn.Kr w q 0 L) :
    Calls Try.prog 64 #[.agg #[.int .i64 c.op, .int .i64 c.a, .int .i64 c.b, .int .i64 c.c, .int .i64 c.num, .slice ca cn cc], .slice (some ⟨q, 0, none⟩) L.length cap] w fun e w' => e = .returned (.agg #[.int .i64 (Kn.bd c L).1, .int .i64 (Kn.bd c L).2]) ∧ Below w.heap.size w w' := by
  have FIN := hide (show Kn.bd c L = Kn.alt (Kn.g L 0) (Kn.g L 1) by unfold Kn.bd; simp [ho])
  rw [unhide FIN]
  rw [ho, hn]
  generalize c.a = c1 at *
  generalize c.b = c2 at *
  generalize c.c = c3 at *
  generalize c.num = c4 at *
  clear ho FIN
  obtain ⟨W, hW⟩ : ∃ W, W = ((w.alloc (.cells #[.int .i64 5, .int .i64 c1, .int .i64 c2, .int .i64 c3, .int .i64 c4, .slice ca cn cc] 48)).alloc (.cells #[.int .i64 0, .int .i64 0] 51)).alloc (.cells #[.int .i64 1, .int .i64 1] 51) := ⟨_, rfl⟩
  have ON : Own W (w.heap.size + 1) 51 [.int .i64 0, .int .i64 0] := by rw [hW]; exact Kn.new1of3 _ _ _ _ _
  have OC : Own W w.heap.size 48 [.int .i64 5, .int .i64 c1, .int .i64 c2, .int .i64 c3, .int .i64 c4, .slice ca cn cc] := by
    rw [hW]
    exact Own.below (w := w.alloc _) ⟨_, heap_alloc_new _ _, rfl⟩ (((Below.refl _ _).alloc (Nat.le_refl _) _).alloc (by simp) _) (by simp)
  have BN : Below w.heap.size w W := by rw [hW]; exact Kn.bel3 _ _ _ _
  have HR := hide (fun (V : World) (hb : Below w.heap.size w V) => hr.below hb hr.1)
  have hql := hr.1
  have f0 : W.cell? ⟨w.heap.size, 0, none⟩ = some (.int .i64 5) := OC.cell 0
  have HALT := hide (fun V => altBounds_any (Kn.g L 0) (Kn.g L 1) V)
  have hc0 := fun (V : World) (hb : Below w.heap.size w V) => ((unhide HR) V hb).2 0 (by omega)
  have hc1 := fun (V : World) (hb : Below w.heap.size w V) => ((unhide HR) V hb).2 1 (by omega)
  obtain ⟨R, hR⟩ : ∃ R, Kn.alt (Kn.g L 0) (Kn.g L 1) = R := ⟨_, rfl⟩
  rw [hR] at HALT ⊢
  obtain ⟨R1, R2⟩ := R
  simp only at HALT ⊢
  have KEEP := hide (fun (V : World) (hb : Below w.heap.size w V) => show V.cell? ⟨q, 0, none⟩ = some (.int .i64 (Kn.g L 0).lo) ∧ V.cell? ⟨q, 1, none⟩ = some (.int .i64 (Kn.g L 0).hi) ∧ V.cell? ⟨q, 20, none⟩ = some (.int .i64 (Kn.g L 1).lo) ∧ V.cell? ⟨q, 21, none⟩ = some (.int .i64 (Kn.g L 1).hi) from ⟨hc0 V hb 0 (by omega), hc0 V hb 1 (by omega), hc1 V hb 0 (by omega), hc1 V hb 1 (by omega)⟩)
  generalize (Kn.g L 0).lo = al at *
  generalize (Kn.g L 0).hi = ah at *
  generalize (Kn.g L 1).lo = bl at *
  generalize (Kn.g L 1).hi = bh at *
  obtain ⟨e0, e1, e20, e21⟩ := (unhide KEEP) W BN
  have HON := hide (fun (V : World) (hb : Below W.heap.size W V) => And.intro (ON.below hb ON.lt) (BN.trans (hb.mono BN.size)))
  clear hL hr HR OC hc0 hc1 hR ON
  go_enter Try.func64, Try.ntmps64
  go_upto_region 2 with fail
  rw [← hW]
  clear hW
  go_upto_region 22 with fail
  go_region_with (first | (go_at_call 79; refine ((unhide HALT) _).mono ?_; rintro e w1 ⟨rfl, hb1⟩; have hb1' : Below W.heap.size W w1 := (by first | exact hb1 | exact ((Below.refl W.heap.size W).drew).trans (hb1.mono (Nat.le_refl _))); have ON1 := ((unhide HON) w1 hb1').1; have B1 := ((unhide HON) w1 hb1').2; obtain ⟨c0', c1'⟩ := Kn.two_co ON1; have z0 := ON1.frozen 0; have z1 := ON1.frozen 1))
  all_goals
    have O2 := hide ((ON1.set 0 (.int .i64 R1)).set 1 (.int .i64 R2))
    have B2 := hide (show Below w.heap.size w ((w1.setCell ⟨w.heap.size + 1, 0, none⟩ (.int .i64 R1)).setCell ⟨w.heap.size + 1, 1, none⟩ (.int .i64 R2)) from (B1.setCell (by simp only; omega) _).setCell (by simp only; omega) _)
    clear ON1 B1
    go_wp2_with fail
    obtain ⟨q0, q1⟩ := Kn.two_co (x := .int .i64 R1) (y := .int .i64 R2) (unhide O2)
    have BF := unhide B2
    clear O2 B2 c0' c1' z0 z1
    generalize (w1.setCell ⟨w.heap.size + 1, 0, none⟩ (.int .i64 R1)).setCell ⟨w.heap.size + 1, 1, none⟩ (.int .i64 R2) = WW at *
    refine bodyPost_ret (v := .agg #[.int .i64 R1, .int .i64 R2]) (by simp [results, Try.results64, go_sem, q0, q1]; try rfl) rfl ?_
    exact ⟨rfl, BF⟩

end Go.Proofs.Ytkjmnkbiflkpdaa
