/-
  spec.l10Go: what becomes of a node and all that is in it.
-/
import Derived.Test.YtbaanpgbfncdnaaGreatQ48
import Derived.Deep.LoopGhost
import Derived.Deep.RegionHeld3
namespace Go.Proofs.YtbaanpgbfncdnaaGreat
open Go.RowKit
set_option linter.unusedVariables false
set_option linter.unusedSimpArgs false
namespace Ste
/-- A node that names parts is no list of a single tree. -/
theorem Pt.ne {w : World} {v : Value} {s : Ste} (hp : Pt w v s) (ho : Ok s) {nb : Nat} {op : Int} {x1 x2 x3 x4 x5 : Value} (hn : Own w nb 47 [.int .i64 op, x1, x2, x3, x4, x5]) (hk : Co.kids op ≠ 0) : v.ownBlock ≠ some nb := by
  intro e
  obtain ⟨ds, h1, h2⟩ := hp
  have hlen : ds.length = sz s := by have := congrArg List.length h2; rw [List.length_map, lay_len] at this; exact this
  have hpos := sz_pos s
  rcases h1 with ⟨rfl, _⟩ | ⟨g, cap, xs, e1, _, _, how, hnw, _⟩
  · cases e
  · rw [e1] at e
    cases e
    have hx : xs = [.int .i64 op, x1, x2, x3, x4, x5] := by
      obtain ⟨c, q1, q2⟩ := how
      obtain ⟨c', q1', q2'⟩ := hn
      rw [q1] at q1'
      simp only [Option.some.injEq, Obj.cells.injEq] at q1'
      rw [← q2, ← q2', q1'.1]
    have h6 := hnw.1
    rw [hx] at h6
    simp at h6
    have hd1 : sz s = 1 := by omega
    have hq := (hnw.2 0 (by omega)).1
    rw [hx] at hq
    simp at hq
    cases s with
    | n0 h =>
      have e3 : (ds.map Prod.fst)[0]? = some (nodeC h 0 0 0) := by rw [h2]; rfl
      rw [List.getElem?_map, List.getElem?_eq_getElem (by omega)] at e3
      have e4 : (ds[0]'(by omega)).1 = nodeC h 0 0 0 := by simpa using e3
      have e5 : ds[0]?.getD Lm.z = ds[0]'(by omega) := by rw [List.getElem?_eq_getElem (by omega)]; rfl
      rw [e5, e4] at hq
      apply hk
      rw [hq]
      exact (show Fit h 0 from ho).kid
    | n1 h a => simp only [sz] at hd1; have := sz_pos a; omega
    | n2 h a b => simp only [sz] at hd1; have := sz_pos a; omega
    | n3 h a b c => simp only [sz] at hd1; have := sz_pos a; omega
theorem Pt.far {w : World} {v x : Value} {s : Ste} {nb j : Nat} {t : TypeId} {xs : List Value} (hp : Pt w v s) (ho : Own w nb t xs) (h1 : t = 47 → v.ownBlock ≠ some nb) (h2 : t ≠ 71) : Pt (w.setCell ⟨nb, j, none⟩ x) v s := by
  obtain ⟨ds, q1, q2⟩ := hp
  refine ⟨ds, ?_, q2⟩
  obtain ⟨c0, hc0, _⟩ := ho
  rcases q1 with q | ⟨g, cap, ys, e1, hg, hc, hw, hn, hr⟩
  · exact .inl q
  · refine .inr ⟨g, cap, ys, e1, hg, hc, ?_, hn, fun i hi => Lw.res_keep (hr i hi) fun b hb => heap_setCell_other w ⟨nb, j, none⟩ b x (fun e => ?_)⟩
    · obtain ⟨c, r1, r2⟩ := hw
      refine ⟨c, (heap_setCell_other w ⟨nb, j, none⟩ g x (fun e => ?_)).trans r1, r2⟩
      simp only at e
      subst e
      rw [r1] at hc0
      simp only [Option.some.injEq, Obj.cells.injEq] at hc0
      exact h1 hc0.2.1.symm (by rw [e1]; rfl)
    · simp only at e
      subst e
      obtain ⟨c', hc'⟩ := Lw.res_typed (hr i hi) hb
      rw [hc'] at hc0
      simp only [Option.some.injEq, Obj.cells.injEq] at hc0
      exact h2 hc0.2.1.symm
theorem res_far {w : World} {v x : Value} {s : List M.Cl} {B nb j : Nat} {t : TypeId} {xs : List Value} (hp : Res w B v s) (ho : Own w nb t xs) (h2 : t ≠ 71) : Res (w.setCell ⟨nb, j, none⟩ x) B v s := by
  obtain ⟨c0, hc0, _⟩ := ho
  refine Lw.res_keep hp fun b hb => heap_setCell_other w ⟨nb, j, none⟩ b x (fun e => ?_)
  simp only at e
  subst e
  obtain ⟨c', hc'⟩ := Lw.res_typed hp hb
  rw [hc'] at hc0
  simp only [Option.some.injEq, Obj.cells.injEq] at hc0
  exact h2 hc0.2.1.symm
theorem Ps.far {w : World} {q nb j : Nat} {h : Hd} {L : List Ste} {t : TypeId} {xs : List Value} {x : Value} (H : Ps w q h L) (ho : Own w nb t xs) (hq : q ≠ nb) (h1 : ∀ i v, i < L.length → w.cell? ⟨q, i, none⟩ = some v → t = 47 → v.ownBlock ≠ some nb) (h2 : t ≠ 71) : Ps (w.setCell ⟨nb, j, none⟩ x) q h L :=
  ⟨by have := H.lt; simpa using this, fun i hi => by
    obtain ⟨v, a1, a2⟩ := H.at' i hi
    exact ⟨v, (cell_far x hq).trans a1, a2.far ho (h1 i v hi a1) h2⟩, H.hz, H.hF, H.hO⟩
theorem didL_le (p : Int) (L : List Ste) (h : ∀ k ∈ L, Ok k) : didL p L ≤ szL L := by
  induction L with
  | nil => simp [didL]
  | cons s r ih =>
    have h1 := (pass_ok p s (h s (by simp))).2.2
    have h2 := ih (fun k hk => h k (by simp [hk]))
    simp only [didL, szL]
    omega
/-- What spec.l10Go tells of a node, where it may call itself f times deep. -/
def GoSays (p : Int) (b P : Nat) (l : List Co) (f : Nat) : Prop := ∀ (i d : Nat) (w : World), i < l.length → i < f → d + sz (tre l i) ≤ 1000000 → sz (tre l i) ≤ 900 → Cc w b l →
    Own w P 65 [.slice (some ⟨b, 0, none⟩) l.length l.length, .slice none 0 0, .int .i64 p, .int .i64 (d : Int)] →
    Calls Tryz.prog 46 #[.pointer (some ⟨P, 0, none⟩), .int .i64 (i : Int)] w fun e w' => ∃ a n c, e = .returned (.slice a n c) ∧ Pt w' (.slice a n c) (pass p (tre l i)).1 ∧ Own w' P 65 [.slice (some ⟨b, 0, none⟩) l.length l.length, .slice none 0 0, .int .i64 p, .int .i64 ((d + (pass p (tre l i)).2 : Nat) : Int)] ∧ Gf P w w'
/-- The parts, gone through, and the node without its links. -/
theorem Gl.zero {p : Int} {b P nb B : Nat} {l : List Co} {K : List Nat} {d : Nat} {w wr : World} {h : Hd} {a1 a2 a3 : Int} {vv v : Value} {vs : List Value}
    (G : Gl p b P nb B l K d w wr [.int .i64 h.op, .int .i64 a1, .int .i64 a2, .int .i64 a3, .int .i64 h.num, vv] K.length v vs) (hnb : w.heap.size ≤ nb) (hF : Fit h K.length) (hz : ∀ x ∈ K, sz (tre l x) ≤ 900) (hO : ∀ x ∈ K, Ok (tre l x)) (hv : Res wr 0 vv h.val) :
    ∃ q cap, v = .slice (some ⟨q, 0, none⟩) K.length cap ∧ (∀ W, W = ((wr.setCell ⟨nb, 1, none⟩ (.int .i64 0)).setCell ⟨nb, 2, none⟩ (.int .i64 0)).setCell ⟨nb, 3, none⟩ (.int .i64 0) → Ps W q h (K.map fun x => (pass p (tre l x)).1) ∧ Own W nb 47 [.int .i64 h.op, .int .i64 0, .int .i64 0, .int .i64 0, .int .i64 h.num, vv] ∧ Own W P 65 [.slice (some ⟨b, 0, none⟩) l.length l.length, .slice none 0 0, .int .i64 p, .int .i64 ((d + didL p (K.map (tre l)) : Nat) : Int)] ∧ Res W 0 vv h.val ∧ Gf P w W) := by
  obtain ⟨q, cap, e⟩ := G.non
  refine ⟨q, cap, e, fun W hW => ?_⟩
  have hnP : nb ≠ P := fun q => by
    have o1 := G.nd
    have o2 := G.wk
    rw [q] at o1
    obtain ⟨c, r1, _⟩ := o1
    obtain ⟨c', r1', _⟩ := o2
    rw [r1] at r1'
    simp only [Option.some.injEq, Obj.cells.injEq] at r1'
    exact absurd r1'.2.1 (by decide)
  have hqn : q ≠ nb := fun q' => by
    obtain ⟨_, c, r1⟩ := owns_typed G.row (b := q) (by rw [e]; rfl)
    obtain ⟨c', r1', _⟩ := G.nd
    rw [q', r1'] at r1
    simp only [Option.some.injEq, Obj.cells.injEq] at r1
    exact absurd r1.2.1 (by decide)
  have hvl : vs.length = K.length := by have := G.row.1; omega
  have hcell : ∀ t, t < K.length → wr.cell? ⟨q, t, none⟩ = some (vs.getD t .nilFunc) := fun t ht => by
    have hr := G.row
    rw [e] at hr
    rw [Tr.owns_cell hr t ht, List.getD_eq_getElem?_getD, List.getElem?_eq_getElem (by omega)]
    rfl
  have hgK : ∀ t, t < K.length → g (K.map fun x => (pass p (tre l x)).1) t = (pass p (tre l (K.getD t 0))).1 := fun t ht => by
    unfold g
    rw [List.getD_eq_getElem?_getD, List.getElem?_map, List.getD_eq_getElem?_getD, List.getElem?_eq_getElem ht]; rfl
  have hmem : ∀ t, t < K.length → K.getD t 0 ∈ K := fun t ht => by
    rw [List.getD_eq_getElem?_getD, List.getElem?_eq_getElem ht]
    exact List.getElem_mem ht
  have hlt : q < wr.heap.size := owns_lt G.row (by rw [e]; rfl)
  have P0 : Ps wr q h (K.map fun x => (pass p (tre l x)).1) := ⟨hlt, fun t ht => by
    rw [List.length_map] at ht
    exact ⟨_, hcell t ht, by rw [hgK t ht]; exact G.pts t ht⟩, fun k hk => by
      obtain ⟨x, hx, rfl⟩ := List.mem_map.1 hk
      have := (pass_ok p _ (hO x hx)).2.1
      have := hz x hx
      omega, by rw [List.length_map]; exact hF, fun k hk => by
      obtain ⟨x, hx, rfl⟩ := List.mem_map.1 hk
      exact (pass_ok p _ (hO x hx)).1⟩
  have hne : ∀ i u, i < (K.map fun x => (pass p (tre l x)).1).length → wr.cell? ⟨q, i, none⟩ = some u → u.ownBlock ≠ some nb := fun i u hi hu => by
    rw [List.length_map] at hi
    rw [hcell i hi] at hu
    cases hu
    refine (G.pts i hi).ne (pass_ok p _ (hO _ (hmem i hi))).1 G.nd ?_
    rw [hF.kid]
    omega
  have hne2 : ∀ (W : World) (x : Value) (j' : Nat), W = wr.setCell ⟨nb, j', none⟩ x → ∀ i u, i < (K.map fun x => (pass p (tre l x)).1).length → W.cell? ⟨q, i, none⟩ = some u → u.ownBlock ≠ some nb := fun W x j' hW i u hi hu => hne i u hi (by rw [hW] at hu; exact (cell_far x hqn).symm.trans hu)
  have s1 := P0.far (j := 1) (x := .int .i64 0) G.nd hqn (fun i u hi hu _ => hne i u hi hu) (by decide)
  have o1 := G.nd.set 1 (.int .i64 0)
  have s2 := s1.far (j := 2) (x := .int .i64 0) o1 hqn (fun i u hi hu _ => hne i u hi (by rw [cell_far _ hqn] at hu; exact hu)) (by decide)
  have o2 := o1.set 2 (.int .i64 0)
  have s3 := s2.far (j := 3) (x := .int .i64 0) o2 hqn (fun i u hi hu _ => hne i u hi (by rw [cell_far _ hqn, cell_far _ hqn] at hu; exact hu)) (by decide)
  have o3 := o2.set 3 (.int .i64 0)
  have v3 := res_far (j := 3) (x := .int .i64 0) (res_far (j := 2) (x := .int .i64 0) (res_far (j := 1) (x := .int .i64 0) hv G.nd (by decide)) o1 (by decide)) o2 (by decide)
  have k3 := Co.own_far (j := 3) (Co.own_far (j := 2) (Co.own_far (j := 1) G.wk hnP.symm (.int .i64 0)) hnP.symm (.int .i64 0)) hnP.symm (.int .i64 0)
  have ht : (K.map (tre l)).take K.length = K.map (tre l) := List.take_of_length_le (by rw [List.length_map]; exact Nat.le_refl _)
  rw [ht] at k3
  subst hW
  refine ⟨s3, o3, k3, v3, ?_⟩
  refine ⟨G.fr.os, G.fr.tape, G.fr.output, by have := G.fr.size; simpa using this, fun k hk hkP => ?_⟩
  rw [heap_setCell_other _ ⟨nb, 3, none⟩ k _ (by simp only; omega), heap_setCell_other _ ⟨nb, 2, none⟩ k _ (by simp only; omega), heap_setCell_other _ ⟨nb, 1, none⟩ k _ (by simp only; omega)]
  exact G.fr.block k hk hkP
theorem infoSC : (Tryz.prog.info? 24).map (fun i => (i.zero, i.size, i.bytes)) = some (some (.slice none 0 0), 1, 24) := by kernel_rfl
end Ste
end Go.Proofs.YtbaanpgbfncdnaaGreat
