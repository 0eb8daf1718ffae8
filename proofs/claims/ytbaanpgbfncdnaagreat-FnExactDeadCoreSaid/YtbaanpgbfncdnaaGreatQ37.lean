/-
  A core that is made a tree of stems: the list of stems, and the stem whose parts are being named.
-/
import Derived.Test.YtbaanpgbfncdnaaGreatQ13
import Derived.Test.YtbaanpgbfncdnaaGreatQ27
import Derived.Test.YtbaanpgbfncdnaaGreatQ33
import Derived.Test.YtbaanpgbfncdnaaGreatQ35
import Derived.Test.YtbaanpgbfncdnaaGreatQ36
namespace Go.Proofs.YtbaanpgbfncdnaaGreat
open Go.RowKit
set_option linter.unusedVariables false
set_option linter.unusedSimpArgs false
namespace Ste
/-- The list of stems: the first k are told. -/
def ptrs (n k : Nat) (ps : List Nat) : List Value := (List.range n).map fun j => if j < k then .pointer (some ⟨ps.getD j 0, 0, none⟩) else .pointer none
theorem ptrs_get {n k : Nat} {ps : List Nat} {j : Nat} (hj : j < n) : (ptrs n k ps)[j]? = some (if j < k then .pointer (some ⟨ps.getD j 0, 0, none⟩) else .pointer none) := by
  unfold ptrs
  rw [List.getElem?_map, List.getElem?_range hj]; rfl
theorem ptrs_len (n k : Nat) (ps : List Nat) : (ptrs n k ps).length = n := by simp [ptrs]
theorem ptrs_zero (n : Nat) : ptrs n 0 [] = List.replicate n (.pointer none) := by
  unfold ptrs
  simp only [Nat.not_lt_zero, if_false]
  rw [List.map_const', List.length_range]
theorem map_at {α β : Type} (f : α → β) (xs : List α) (i : Nat) (hi : i < xs.length) (d : β) : (xs.map f).getD i d = f xs[i] := by
  rw [List.getD_eq_getElem?_getD, List.getElem?_map, List.getElem?_eq_getElem hi]; rfl
theorem getD_at {α : Type} (xs : List α) (i : Nat) (hi : i < xs.length) (d : α) : xs.getD i d = xs[i] := by
  rw [List.getD_eq_getElem?_getD, List.getElem?_eq_getElem hi]; rfl
theorem ptrs_set {n k : Nat} {ps : List Nat} (hk : k < n) (hl : ps.length = k) (p : Nat) : (ptrs n k ps).set k (.pointer (some ⟨p, 0, none⟩)) = ptrs n (k + 1) (ps ++ [p]) := by
  refine List.ext_getElem? fun j => ?_
  by_cases hj : j < n
  · rw [ptrs_get hj, List.getElem?_set]
    by_cases e : k = j
    · subst e
      rw [if_pos rfl, if_pos (by rw [ptrs_len]; exact hj), if_pos (by omega)]
      rw [List.getD_eq_getElem?_getD, List.getElem?_append_right (by omega), hl]
      simp
    · rw [if_neg e, ptrs_get hj]
      by_cases q : j < k
      · rw [if_pos q, if_pos (by omega), List.getD_eq_getElem?_getD, List.getD_eq_getElem?_getD, List.getElem?_append_left (by omega)]
      · rw [if_neg q, if_neg (by omega)]
  · rw [List.getElem?_eq_none (by rw [List.length_set, ptrs_len]; omega), List.getElem?_eq_none (by rw [ptrs_len]; omega)]
/-- The stems ahead of k are whole. -/
structure Sl (l : List Co) (w wr : World) (sb k : Nat) (ps : List Nat) (rr : Nat → List Nat) : Prop where
  len : ps.length = k
  own : Own wr sb 57 (ptrs l.length k ps)
  sh : ∀ j, j < k → Sh wr (tre l j) (ps.getD j 0) (rws l rr j)
  rlt : ∀ j, j < k → ∀ q ∈ rr j, sb < q ∧ q < wr.heap.size
  rnd : ∀ j, j < k → (rr j).Nodup
  dis : ∀ i j, i < k → j < k → i ≠ j → ∀ q ∈ rr i, q ∉ rr j
  bel : Below sb w wr
theorem rws_mem {l : List Co} (hf : Tr.Fine (Co.tree l)) (rr : Nat → List Nat) : ∀ (n i : Nat), i < n → i < l.length → ∀ q ∈ rws l rr i, ∃ j, j ≤ i ∧ q ∈ rr j := by
  intro n
  induction n with
  | zero => intro i h; omega
  | succ n ih =>
    intro i h1 hi q hq
    rw [rws_eq hf rr hi, List.mem_append] at hq
    rcases hq with hq | hq
    · exact ⟨i, Nat.le_refl _, hq⟩
    · obtain ⟨L, hL, hq⟩ := List.mem_flatten.1 hq
      obtain ⟨x, hx, rfl⟩ := List.mem_map.1 hL
      have := lks_fine hf hi x hx
      obtain ⟨j, hj, e⟩ := ih x (by omega) (by omega) q hq
      exact ⟨j, by omega, e⟩
theorem Sl.rows {l : List Co} {w wr : World} {sb k : Nat} {ps : List Nat} {rr : Nat → List Nat} (h : Sl l w wr sb k ps rr) (hf : Tr.Fine (Co.tree l)) (hk : k ≤ l.length) {j : Nat} (hj : j < k) : ∀ q ∈ rws l rr j, sb < q ∧ q < wr.heap.size := fun q hq => by
  obtain ⟨i, hi, e⟩ := rws_mem hf rr _ j (Nat.lt_succ_self _) (by omega) q hq
  exact h.rlt i (by omega) q e
/-- A stem whose first m parts are named; w1: the world in which it was begun. -/
structure Sp (l : List Co) (w w1 wr : World) (sb k : Nat) (ps : List Nat) (rr : Nat → List Nat) (pb m : Nat) (vv pv : Value) (c : Co) : Prop where
  len : ps.length = k
  own : Own wr sb 57 (ptrs l.length (k + 1) (ps ++ [pb]))
  sh : ∀ j, j < k → Sh w1 (tre l j) (ps.getD j 0) (rws l rr j)
  sb1 : ∃ xs, Own w1 sb 57 xs
  sz1 : w1.heap.size = pb
  kp : ∀ q, q < pb → q ≠ sb → wr.heap[q]? = w1.heap[q]?
  rlt : ∀ j, j < k → ∀ q ∈ rr j, sb < q ∧ q < pb
  rnd : ∀ j, j < k → (rr j).Nodup
  dis : ∀ i j, i < k → j < k → i ≠ j → ∀ q ∈ rr i, q ∉ rr j
  bel : Below sb w wr
  stem : Own wr pb 81 [.int .i64 c.op, .int .i64 c.a, .int .i64 c.b, .int .i64 c.c, .int .i64 c.num, vv, pv]
  val : Res wr 0 vv c.val
  row : wr.ownsRow (pb + 1) 57 1 pv m (((lks c).take m).map fun x => .pointer (some ⟨ps.getD x 0, 0, none⟩))
  sbp : sb < pb
theorem res_set {w : World} {B b j : Nat} {v x : Value} {l : List M.Cl} {t : TypeId} {xs : List Value} (h : Res w B v l) (ho : Own w b t xs) (ht : t ≠ 71) : Res (w.setCell ⟨b, j, none⟩ x) B v l := by
  refine h.setOther _ _ (fun q hq e => ?_)
  have e : q = b := e
  obtain ⟨_, ⟨u, _⟩ | ⟨bb, cc, u1, _, _, ys, ⟨arr, v2, _⟩, _⟩⟩ := h
  · rw [u] at hq; cases hq
  · rw [u1] at hq
    cases hq
    have e : bb = b := e
    obtain ⟨c2, u2, _⟩ := ho
    rw [e, u2] at v2
    simp only [Option.some.injEq, Obj.cells.injEq] at v2
    exact ht v2.2.1
/-- A new stem, and its place in the list. -/
theorem Sl.stem {l : List Co} {w wr : World} {sb k : Nat} {ps : List Nat} {rr : Nat → List Nat} (h : Sl l w wr sb k ps rr) (hk : k < l.length) {vv : Value} {c : Co} (hv : Res wr 0 vv c.val) :
    (∃ u, (wr.alloc (.cells #[.int .i64 c.op, .int .i64 c.a, .int .i64 c.b, .int .i64 c.c, .int .i64 c.num, vv, .slice none 0 0] 81)).cell? ⟨sb, k, none⟩ = some u) ∧ (wr.alloc (.cells #[.int .i64 c.op, .int .i64 c.a, .int .i64 c.b, .int .i64 c.c, .int .i64 c.num, vv, .slice none 0 0] 81)).frozen? ⟨sb, k, none⟩ = false ∧
    Sp l w wr ((wr.alloc (.cells #[.int .i64 c.op, .int .i64 c.a, .int .i64 c.b, .int .i64 c.c, .int .i64 c.num, vv, .slice none 0 0] 81)).setCell ⟨sb, k, none⟩ (.pointer (some ⟨wr.heap.size, 0, none⟩))) sb k ps rr wr.heap.size 0 vv (.slice none 0 0) c := by
  obtain ⟨wA, hA⟩ : ∃ wA, wA = wr.alloc (.cells #[.int .i64 c.op, .int .i64 c.a, .int .i64 c.b, .int .i64 c.c, .int .i64 c.num, vv, .slice none 0 0] 81) := ⟨_, rfl⟩
  have BA : Below wr.heap.size wr wA := by rw [hA]; exact (Below.refl _ _).alloc (Nat.le_refl _) _
  have OA := h.own.below BA h.own.lt
  have NA : Own wA wr.heap.size 81 [.int .i64 c.op, .int .i64 c.a, .int .i64 c.b, .int .i64 c.c, .int .i64 c.num, vv, .slice none 0 0] := by rw [hA]; exact ⟨_, heap_alloc_new _ _, rfl⟩
  rw [← hA]
  have hsb := h.own.lt
  have hne : wr.heap.size ≠ sb := by omega
  refine ⟨⟨_, (OA.cell k).trans (ptrs_get hk)⟩, OA.frozen k, ⟨h.len, ?_, h.sh, ⟨_, h.own⟩, rfl, fun q hq hqs => ?_, h.rlt, h.rnd, h.dis, ?_, NA.setOther _ _ (fun e => hne e), res_set (hv.below BA) OA (by decide), World.ownsRow_nil _ _ _ _, hsb⟩⟩
  · have := OA.set k (.pointer (some ⟨wr.heap.size, 0, none⟩))
    rw [ptrs_set hk h.len] at this
    exact this
  · exact (heap_setCell_other _ ⟨sb, k, none⟩ q _ hqs).trans (BA.block q hq)
  · exact (h.bel.trans (BA.mono (by omega))).setCell (Nat.le_refl _) _
/-- A part is named: the row is grown, then stored. -/
theorem Sp.push {l : List Co} {w w1 wr wA : World} {sb k pb m : Nat} {ps : List Nat} {rr : Nat → List Nat} {vv pv pv' : Value} {c : Co} (h : Sp l w w1 wr sb k ps rr pb m vv pv c) (hm : m < (lks c).length)
    (ho : wA.ownsRow (pb + 1) 57 1 pv' (m + 1) ((((lks c).take m).map fun x => .pointer (some ⟨ps.getD x 0, 0, none⟩)) ++ [.pointer (some ⟨ps.getD ((lks c).getD m 0) 0, 0, none⟩)])) (hg : wr.grownBy wA pv.ownBlock) :
    Own wA pb 81 [.int .i64 c.op, .int .i64 c.a, .int .i64 c.b, .int .i64 c.c, .int .i64 c.num, vv, pv] ∧ Own wA sb 57 (ptrs l.length (k + 1) (ps ++ [pb])) ∧ Sp l w w1 (wA.setCell ⟨pb, 6, none⟩ pv') sb k ps rr pb (m + 1) vv pv' c := by
  have hbs : ∀ b, pv.ownBlock = some b → pb + 1 ≤ b := ownsRow_base h.row
  have hpb := h.stem.lt
  have b1 : Below (pb + 1) wr wA := (Below.refl (pb + 1) wr).grown hg (by omega) hbs
  have hsbp := h.sbp
  have SA := h.stem.below b1 (by omega)
  have OA := h.own.below b1 (by omega)
  have hRA : Res wA 0 vv c.val := by
    obtain ⟨hn, u | ⟨bb, cc, u1, u2, u3, ys, ⟨arr, v1, v2⟩, u5⟩⟩ := h.val
    · exact ⟨hn, .inl u⟩
    · refine ⟨hn, .inr ⟨bb, cc, u1, u2, u3, ys, ⟨arr, (hg.block bb (Array.getElem?_eq_some_iff.1 v1).1 (fun e => ?_)).trans v1, v2⟩, u5⟩⟩
      obtain ⟨_, ⟨q1, _⟩ | ⟨gq, cap, cur, q4, _, hh, _⟩⟩ := h.row
      · rw [q1] at e; cases e
      · rw [q4] at e
        have e : bb = gq := by simpa [Value.ownBlock] using e
        rw [← e, v1] at hh
        simp only [Option.some.injEq, Obj.cells.injEq] at hh
        exact absurd hh.2.1 (by decide)
  have hset : ∀ (q : Nat) (cc : Array Value) (t : TypeId), wA.heap[q]? = some (Obj.cells cc t (0, 0)) → t ≠ 81 → (wA.setCell ⟨pb, 6, none⟩ pv').heap[q]? = wA.heap[q]? := fun q cc t h1 h2 => by
    refine heap_setCell_other _ ⟨pb, 6, none⟩ q _ (fun e => ?_)
    have e : q = pb := e
    obtain ⟨c2, u2, _⟩ := SA
    rw [e, u2] at h1
    simp only [Option.some.injEq, Obj.cells.injEq] at h1
    exact h2 h1.2.1.symm
  refine ⟨SA, OA, ⟨h.len, OA.setOther _ _ (fun e => by have e : sb = pb := e; omega), h.sh, h.sb1, h.sz1, fun q hq hqs => ?_, h.rlt, h.rnd, h.dis, (h.bel.trans (b1.mono (by omega))).setCell (show sb ≤ pb by omega) _, SA.set 6 _, res_set hRA SA (by decide), ?_, h.sbp⟩⟩
  · exact ((heap_setCell_other _ ⟨pb, 6, none⟩ q _ (fun e => by have e : q = pb := e; omega)).trans (b1.block q (by omega))).trans (h.kp q hq hqs)
  · rw [List.take_add_one, List.map_append]
    have e : ((lks c)[m]?.toList.map fun x => Value.pointer (some ⟨ps.getD x 0, 0, none⟩)) = [.pointer (some ⟨ps.getD ((lks c).getD m 0) 0, 0, none⟩)] := by
      rw [List.getElem?_eq_getElem hm, getD_at (lks c) m hm]; rfl
    rw [e]
    obtain ⟨h1, h2 | ⟨gq, cap, cur, h3, h4, h5, h6⟩⟩ := ho
    · exact ⟨h1, .inl h2⟩
    · exact ⟨h1, .inr ⟨gq, cap, cur, h3, h4, (hset gq cur _ h5 (by decide)).trans h5, h6⟩⟩
theorem Sp.lower {l : List Co} {w w1 wr wr' : World} {sb k pb m : Nat} {ps : List Nat} {rr : Nat → List Nat} {vv pv : Value} {c : Co} (h : Sp l w w1 wr sb k ps rr pb m vv pv c) (hb : Below wr.heap.size wr wr') : Sp l w w1 wr' sb k ps rr pb m vv pv c := by
  have h1 := h.own.lt
  have h2 := h.stem.lt
  refine ⟨h.len, h.own.below hb h1, h.sh, h.sb1, h.sz1, fun q hq hqs => (hb.block q (by omega)).trans (h.kp q hq hqs), h.rlt, h.rnd, h.dis, h.bel.trans (hb.mono (by omega)), h.stem.below hb h2, h.val.below hb, Tr.owns_below h.row hb, h.sbp⟩
/-- The cells that are read, when a part is named. -/
theorem Sp.cells {l : List Co} {w w1 wr : World} {sb k pb m : Nat} {ps : List Nat} {rr : Nat → List Nat} {vv pv : Value} {c : Co} (h : Sp l w w1 wr sb k ps rr pb m vv pv c) (hk : k < l.length) {x : Nat} (hx : x < k) : wr.cell? ⟨sb, k, none⟩ = some (.pointer (some ⟨pb, 0, none⟩)) ∧ wr.cell? ⟨pb, 6, none⟩ = some pv ∧ wr.cell? ⟨sb, x, none⟩ = some (.pointer (some ⟨ps.getD x 0, 0, none⟩)) := by
  refine ⟨?_, h.stem.cell 6, ?_⟩
  · rw [h.own.cell k, ptrs_get hk, if_pos (by omega)]
    have : (ps ++ [pb]).getD k 0 = pb := by rw [← h.len, List.getD_eq_getElem?_getD, List.getElem?_append_right (Nat.le_refl _)]; simp
    rw [this]
  · rw [h.own.cell x, ptrs_get (by omega), if_pos (by omega)]
    have : (ps ++ [pb]).getD x 0 = ps.getD x 0 := by rw [List.getD_eq_getElem?_getD, List.getElem?_append_left (by rw [h.len]; exact hx), ← List.getD_eq_getElem?_getD]
    rw [this]
theorem own_ptrs {l : List Co} {w : World} {sb k pb x : Nat} {ps : List Nat} (h : Own w sb 57 (ptrs l.length (k + 1) (ps ++ [pb]))) (hl : ps.length = k) (hk : k < l.length) (hx : x < k) : w.cell? ⟨sb, k, none⟩ = some (.pointer (some ⟨pb, 0, none⟩)) ∧ w.cell? ⟨sb, x, none⟩ = some (.pointer (some ⟨ps.getD x 0, 0, none⟩)) := by
  constructor
  · rw [h.cell k, ptrs_get hk, if_pos (by omega)]
    have : (ps ++ [pb]).getD k 0 = pb := by rw [← hl, List.getD_eq_getElem?_getD, List.getElem?_append_right (Nat.le_refl _)]; simp
    rw [this]
  · rw [h.cell x, ptrs_get (by omega), if_pos (by omega)]
    have : (ps ++ [pb]).getD x 0 = ps.getD x 0 := by rw [List.getD_eq_getElem?_getD, List.getElem?_append_left (by rw [hl]; exact hx), ← List.getD_eq_getElem?_getD]
    rw [this]
theorem getD_snoc_lt' {ps : List Nat} {p j : Nat} (h : j < ps.length) : (ps ++ [p]).getD j 0 = ps.getD j 0 := by
  rw [List.getD_eq_getElem?_getD, List.getElem?_append_left h, ← List.getD_eq_getElem?_getD]
theorem getD_snoc_eq' (ps : List Nat) (p : Nat) : (ps ++ [p]).getD ps.length 0 = p := by
  rw [List.getD_eq_getElem?_getD, List.getElem?_append_right (Nat.le_refl _)]; simp
/-- All parts are named: the stem is whole. -/
theorem Sp.done {l : List Co} {w w1 wr : World} {sb k pb : Nat} {ps : List Nat} {rr : Nat → List Nat} {vv pv : Value} (hfl : Co.fault l = 0) (hk : k < l.length) (h : Sp l w w1 wr sb k ps rr pb (lks (l.getD k Co.zero)).length vv pv (l.getD k Co.zero)) : ∃ rr', Sl l w wr sb (k + 1) (ps ++ [pb]) rr' := by
  obtain ⟨_, _, _, _, h0⟩ := tre_whole hfl
  have hf := Co.fine_of h0
  have hpb := h.stem.lt
  have hsbp := h.sbp
  -- the row of the stem
  obtain ⟨r, hr, hrb⟩ : ∃ r : List Nat, Pw wr pv ((lks (l.getD k Co.zero)).map fun x => ps.getD x 0) r ∧ r.Nodup ∧ ∀ q ∈ r, pb < q ∧ q < wr.heap.size := by
    obtain ⟨h1, ⟨h2, h3⟩ | ⟨gq, cap, cur, h4, h5, h6, h7, h8, h9, h10⟩⟩ := h.row
    · refine ⟨[], .inl ⟨h2, ?_, rfl⟩, List.nodup_nil, fun q hq => by cases hq⟩
      rw [List.eq_nil_of_length_eq_zero h3]; rfl
    · refine ⟨[gq], .inr ⟨gq, cap, cur.toList, by rw [h4, List.length_map], by rw [List.length_map]; exact h7, rfl, ⟨cur, h6, rfl⟩, fun i hi => ?_⟩, by simp, fun q hq => ?_⟩
      · rw [List.length_map] at hi
        have hx : cur.toList[i]? = ((List.take (lks (l.getD k Co.zero)).length (lks (l.getD k Co.zero))).map fun x => Value.pointer (some ⟨ps.getD x 0, 0, none⟩))[i]? := by
          rw [← h10, List.getElem?_take, if_pos (by omega)]
        rw [hx, List.take_length, List.getElem?_map, List.getElem?_eq_getElem hi, map_at (fun x => ps.getD x 0) _ i hi]
        rfl
      · simp only [List.mem_singleton] at hq
        subst hq
        exact ⟨by omega, (Array.getElem?_eq_some_iff.1 h6).1⟩
  refine ⟨fun j => if j = k then r else rr j, ?_⟩
  have hold : ∀ j, j < k → (fun j => if j = k then r else rr j) j = rr j := fun j hj => if_neg (by omega)
  have hnew : (fun j => if j = k then r else rr j) k = r := if_pos rfl
  generalize hrr : (fun j => if j = k then r else rr j) = rr' at *
  have hK : ∀ {s : Ste} {p : Nat} {R : List Nat}, Sh w1 s p R → sb ∉ R → Sh wr s p R := fun hs hn => hs.keep (fun q cc t u1 u2 => by
    refine h.kp q (by rw [← h.sz1]; exact (Array.getElem?_eq_some_iff.1 u1).1) (fun e => ?_)
    obtain ⟨xs, c2, v2, _⟩ := h.sb1
    rw [e, v2] at u1
    simp only [Option.some.injEq, Obj.cells.injEq] at u1
    rcases u2 with u2 | u2 | u2
    · rw [u2] at u1; exact absurd u1.2.1 (by decide)
    · rw [u2] at u1; exact absurd u1.2.1 (by decide)
    · rw [e] at u2; exact hn u2)
  have hshk : ∀ j, j < k → Sh wr (tre l j) (ps.getD j 0) (rws l rr' j) := fun j hj => by
    rw [rws_congr hf (rr' := rr) _ j (Nat.lt_succ_self _) (by omega) (fun i hi => hold i (by omega))]
    exact hK (h.sh j hj) (fun hq => by
      obtain ⟨i, hi, e⟩ := rws_mem hf rr _ j (Nat.lt_succ_self _) (by omega) sb hq
      have := h.rlt i (by omega) sb e
      omega)
  have hdis : ∀ i j, i < k + 1 → j < k + 1 → i ≠ j → ∀ q ∈ rr' i, q ∉ rr' j := fun i j hi hj hij q hq hq2 => by
    by_cases e1 : i = k
    · rw [e1, hnew] at hq
      rw [hold j (by omega)] at hq2
      have := hrb.2 q hq
      have := h.rlt j (by omega) q hq2
      omega
    · rw [hold i (by omega)] at hq
      by_cases e2 : j = k
      · rw [e2, hnew] at hq2
        have := hrb.2 q hq2
        have := h.rlt i (by omega) q hq
        omega
      · rw [hold j (by omega)] at hq2
        exact h.dis i j (by omega) (by omega) hij q hq hq2
  have hnd : ∀ j, j < k + 1 → (rr' j).Nodup := fun j hj => by
    by_cases e : j = k
    · rw [e, hnew]; exact hrb.1
    · rw [hold j (by omega)]; exact h.rnd j (by omega)
  refine ⟨by rw [List.length_append, h.len]; rfl, h.own, fun j hj => ?_, fun j hj q hq => ?_, hnd, hdis, h.bel⟩
  · by_cases e : j = k
    · subst e
      rw [show (ps ++ [pb]).getD j 0 = pb by have := getD_snoc_eq' ps pb; rw [h.len] at this; exact this]
      have hl3 : ((lks (l.getD j Co.zero)).map (tre l)).length = (lks (l.getD j Co.zero)).length := List.length_map _
      refine .mk (P := (lks (l.getD j Co.zero)).map fun x => ps.getD x 0) (Rs := (lks (l.getD j Co.zero)).map (rws l rr')) (r := r) (by rw [tre_ks hf hk, List.length_map, List.length_map]) (by rw [tre_ks hf hk, List.length_map, List.length_map]) ?_ (fun i hi => ?_) (by rw [rws_eq hf rr' hk, hnew]) ?_
      · rw [tre_hd hf hk]
        exact ⟨_, _, _, vv, pv, h.stem, h.val, hr⟩
      · rw [tre_ks hf hk, hl3] at hi
        have hx := lks_fine hf hk _ (List.getElem_mem hi)
        have := hshk _ hx
        rw [tre_ks hf hk]
        unfold g
        rw [map_at (tre l) _ i hi, map_at (fun x => ps.getD x 0) _ i hi, map_at (rws l rr') _ i hi]
        exact this
      · exact rws_nodup hfl rr' hk (fun i hi => hnd i (by omega)) (fun a b ha hb hab => hdis a b (by omega) (by omega) hab)
    · rw [getD_snoc_lt' (by rw [h.len]; omega)]
      exact hshk j (by omega)
  · by_cases e : j = k
    · rw [e, hnew] at hq
      have := hrb.2 q hq
      omega
    · rw [hold j (by omega)] at hq
      have := h.rlt j (by omega) q hq
      omega
end Ste
end Go.Proofs.YtbaanpgbfncdnaaGreat
