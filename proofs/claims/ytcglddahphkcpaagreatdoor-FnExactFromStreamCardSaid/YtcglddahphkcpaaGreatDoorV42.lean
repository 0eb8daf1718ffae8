/-
  The program's events as they are laid: their row, the steps ahead, and what of memory is kept.
-/
import Derived.Test.YtcglddahphkcpaaGreatDoorV39
import Derived.Test.YtcglddahphkcpaaGreatDoorV41
namespace Go.Proofs.YtcglddahphkcpaaGreatDoor
open Go.RowKit
set_option linter.unusedVariables false
set_option linter.unusedSimpArgs false
namespace Al
/-- A row of values, each in memory of its own, none of it in a bad block. -/
def Sp (w : World) (B : Nat) (v : Value) (ps : List (List M.Cl)) (bad : Nat → Prop) : Prop :=
  ∃ ss : List Value, ss.length = ps.length ∧ w.ownsRow B 24 1 v ps.length ss ∧ (∀ i, i < ps.length → Res w B (ss.getD i (.slice none 0 0)) (ps.getD i [])) ∧ (∀ i j, i < j → j < ps.length → ∀ b, (ss.getD i (.slice none 0 0)).ownBlock = some b → (ss.getD j (.slice none 0 0)).ownBlock ≠ some b) ∧ ∀ i, i < ps.length → ∀ b, (ss.getD i (.slice none 0 0)).ownBlock = some b → ¬ bad b
theorem Sp.sd {w : World} {B : Nat} {v : Value} {ps : List (List M.Cl)} {bad : Nat → Prop} (h : Sp w B v ps bad) : SD w B v ps := by
  obtain ⟨ss, h1, h2, h3, h4, _⟩ := h; exact ⟨ss, h1, h2, h3, h4⟩
theorem Sp.nil (w : World) (B : Nat) (bad : Nat → Prop) : Sp w B (.slice none 0 0) [] bad := ⟨[], rfl, World.ownsRow_nil _ _ _ _, fun i hi => by simp at hi, fun i j _ hj => by simp at hj, fun i hi => by simp at hi⟩
theorem Sp.below {w w' : World} {B : Nat} {v : Value} {ps : List (List M.Cl)} {bad : Nat → Prop} (h : Sp w B v ps bad) (hb : Below w.heap.size w w') : Sp w' B v ps bad := by
  obtain ⟨ss, h1, h2, h3, h4⟩ := h
  exact ⟨ss, h1, ownsRow_below (B := 0) h2 hb, fun i hi => (h3 i hi).below hb, h4⟩
theorem Sp.less {w : World} {B : Nat} {v : Value} {ps : List (List M.Cl)} {bad bad' : Nat → Prop} (h : Sp w B v ps bad') (hb : ∀ g, bad g → bad' g) : Sp w B v ps bad := by
  obtain ⟨ss, h1, h2, h3, h4, h5⟩ := h
  exact ⟨ss, h1, h2, h3, h4, fun i hi b e k => h5 i hi b e (hb b k)⟩
/-- What laying events does. -/
structure Evd (base : Nat) (w w' : World) (ev sv : Value) (ahead : List M.Cl) (bad : Nat → Prop) (L : List (List M.Cl)) (ev' : Value) : Prop where
  row : Sp w' base ev' L bad
  st : w'.ownsRow base 111 5 sv ahead.length (flat ahead)
  os : w'.os = w.os
  tape : w'.tape = w.tape
  output : w'.output = w.output
  size : w.heap.size ≤ w'.heap.size
  block : ∀ k, k < w.heap.size → some k ≠ ev.ownBlock → some k ≠ sv.ownBlock → w'.heap[k]? = w.heap[k]?
  ne : Nw w ev ev'
theorem Evd.start {base : Nat} {w : World} {ev sv : Value} {ahead : List M.Cl} {bad : Nat → Prop} {L : List (List M.Cl)} (h : Sp w base ev L bad) (hs : w.ownsRow base 111 5 sv ahead.length (flat ahead)) : Evd base w w ev sv ahead bad L ev := ⟨h, hs, rfl, rfl, rfl, Nat.le_refl _, fun _ _ _ _ => rfl, .refl _ _⟩
theorem Evd.below {base : Nat} {w w1 w2 : World} {ev sv : Value} {ahead : List M.Cl} {bad : Nat → Prop} {L : List (List M.Cl)} {ev' : Value} (h : Evd base w w1 ev sv ahead bad L ev') (hb : Below w1.heap.size w1 w2) : Evd base w w2 ev sv ahead bad L ev' :=
  ⟨h.row.below hb, row_below h.st hb, hb.os.trans h.os, hb.tape.trans h.tape, hb.output.trans h.output, Nat.le_trans h.size hb.size, fun k hk a b => (hb.block k (Nat.lt_of_lt_of_le hk h.size)).trans (h.block k hk a b), h.ne⟩
theorem Evd.low {base : Nat} {w w' : World} {ev sv : Value} {ahead : List M.Cl} {bad : Nat → Prop} {L L0 : List (List M.Cl)} {ev' : Value} (h : Evd base w w' ev sv ahead bad L ev') (hl : Sp w base ev L0 bad) (hs : w.ownsRow base 111 5 sv ahead.length (flat ahead)) (hb : base ≤ w.heap.size) : Below base w w' :=
  ⟨h.os, h.tape, h.output, h.size, fun k hk => h.block k (by omega) (fun e => by obtain ⟨ss, _, h2, _⟩ := hl; have := ownsRow_base h2 k e.symm; omega) (fun e => by have := ownsRow_base hs k e.symm; omega)⟩
/-- The frame keeps what is of another type. -/
theorem Evd.other {base : Nat} {w w' : World} {ev sv : Value} {ahead : List M.Cl} {bad : Nat → Prop} {L L0 : List (List M.Cl)} {ev' : Value} (h : Evd base w w' ev sv ahead bad L ev') (hl : Sp w base ev L0 bad) (hs : w.ownsRow base 111 5 sv ahead.length (flat ahead)) {c : Nat} {t : TypeId} {xs : List Value} (ho : Own w c t xs) (h1 : 24 ≠ t) (h2 : 111 ≠ t) : Own w' c t xs := by
  obtain ⟨ss, _, hr, _⟩ := hl
  have n1 := other_block hr ho h1
  have n2 := other_block hs ho h2
  have hlt := ho.lt
  obtain ⟨a, a1, a2⟩ := ho
  exact ⟨a, (h.block c hlt (Ne.symm n1) (Ne.symm n2)).trans a1, a2⟩
/-- An event is laid behind the others. -/
theorem Evd.push {base : Nat} {w w1 w2 w4 : World} {o : Obj} {ev sv s ev1 v' : Value} {ahead p : List M.Cl} {bad : Nat → Prop} {L : List (List M.Cl)} (h : Evd base w w1 ev sv ahead bad L ev1) (hb : Below w1.heap.size w1 w2) (hbw : base ≤ w.heap.size) (hbad : ∀ g, bad g → g < w1.heap.size) (hr : Res w2 w1.heap.size s p) {ss : List Value} (hl : ss.length = L.length) (hown : w1.ownsRow base 24 1 ev1 L.length ss) (hres : ∀ i, i < L.length → Res w1 base (ss.getD i (.slice none 0 0)) (L.getD i []))
    (hdis : ∀ i j, i < j → j < L.length → ∀ b, (ss.getD i (.slice none 0 0)).ownBlock = some b → (ss.getD j (.slice none 0 0)).ownBlock ≠ some b) (hap : ∀ i, i < L.length → ∀ b, (ss.getD i (.slice none 0 0)).ownBlock = some b → ¬ bad b)
    (hg : (w2.alloc o).grownBy w4 ev1.ownBlock) (ho : w4.ownsRow base 24 1 v' (L.length + 1) (ss ++ [s])) (hn : v'.ownBlock = ev1.ownBlock ∨ ∀ g, v'.ownBlock = some g → (w2.alloc o).heap.size ≤ g) : Evd base w w4 ev sv ahead bad (L ++ [p]) v' := by
  have hs1 := h.size
  have hs2 := hb.size
  have hs3 : w2.heap.size ≤ (w2.alloc o).heap.size := by simp
  have hown2 := row_below hown hb
  have hown3 : (w2.alloc o).ownsRow base 24 1 ev1 L.length ss := hown2.alloc o
  have b3 : Below w1.heap.size w1 (w2.alloc o) := hb.alloc hs2 o
  have hst3 := row_below h.st b3
  refine ⟨?_, ?_, (hg.os.trans b3.os).trans h.os, (hg.tape.trans b3.tape).trans h.tape, (hg.output.trans b3.output).trans h.output, by have := hg.size; omega, fun k hk a b => ?_, ?_⟩
  · obtain ⟨ss', q1, q2, q3, q4⟩ := Sev.SD.snoc (w2 := w2) (w3 := w4) (o := o) (B := base) (s := ev1) (v' := v') (sp := s) (ps := L) (p := p) (ss := ss) hl hown2 (fun i hi => (hres i hi).below hb) hdis (hr.mono (by omega)) (fun j hj b hb1 hb2 => by have := (hres j hj).lt b hb1; have := hr.base b hb2; omega) hg ho
    have e : ss' = ss ++ [s] := by
      obtain ⟨_, ⟨h2, h3⟩ | ⟨g, cap, cur, h2, h3, h4, h5, h6, h7, h8⟩⟩ := q2
      · simp at h3
      · obtain ⟨_, ⟨k2, k3⟩ | ⟨g', cap', cur', k2, k3, k4, k5, k6, k7, k8⟩⟩ := ho
        · simp at k3
        · rw [h2] at k2
          simp only [Value.slice.injEq, Option.some.injEq, Addr.mk.injEq] at k2
          rw [← k2.1.1, h4] at k4
          simp only [Option.some.injEq, Obj.cells.injEq] at k4
          have el : (L ++ [p]).length = L.length + 1 := by simp
          rw [el] at h8
          rw [← h8, ← k8, k4.1]
    refine ⟨ss', q1, q2, q3, q4, fun i hi b hb1 hb2 => ?_⟩
    rw [e] at hb1
    rw [List.length_append] at hi
    simp only [List.length_cons, List.length_nil] at hi
    by_cases hh : i < L.length
    · rw [List.getD_eq_getElem?_getD, List.getElem?_append_left (by omega), ← List.getD_eq_getElem?_getD] at hb1
      exact hap i hh b hb1 hb2
    · have hi' : i = L.length := by omega
      rw [hi', List.getD_eq_getElem?_getD, List.getElem?_append_right (by omega), hl, Nat.sub_self] at hb1
      have := hr.base b hb1
      have := hbad b hb2
      omega
  · obtain ⟨q1, q2 | ⟨g, cap, cur, e1, q3, q4, q5⟩⟩ := hst3
    · exact ⟨q1, .inl q2⟩
    · have hne : ev1.ownBlock ≠ some g := other_block hown3 (b := g) (t := 111) (ys := cur.toList) ⟨cur, q4, rfl⟩ (by decide)
      exact ⟨q1, .inr ⟨g, cap, cur, e1, q3, (hg.block g (Array.getElem?_eq_some_iff.1 q4).1 (fun e => hne e.symm)).trans q4, q5⟩⟩
  · refine ((hg.block k (by omega) (fun e => ?_)).trans (b3.block k (by omega))).trans (h.block k hk a b)
    rcases h.ne with q | q
    · exact a (by rw [← q]; exact e)
    · have := q k e.symm; omega
  · refine h.ne.trans (w1 := w1) ?_ hs1
    rcases hn with hn | hn
    · exact .inl hn
    · exact .inr (fun g hg => by have := hn g hg; omega)
/-- The steps grow by one; then what lies behind is laid. -/
theorem Evd.child {base : Nat} {w w1 w2 : World} {ev sv ev1 sv1 : Value} {ahead : List M.Cl} {bad : Nat → Prop} {L : List (List M.Cl)} {c : M.Cl} (h : Evd base w w1 ev sv ahead bad L ev1) (hs : w.ownsRow base 111 5 sv ahead.length (flat ahead)) (hbad : ∀ g, bad g → g < w.heap.size) (hsv : ∀ g, sv.ownBlock = some g → bad g)
    (ho1 : w2.ownsRow base 111 5 sv1 (ahead.length + 1) (flat (ahead ++ [c]))) (ho0 : w2.ownsRow base 111 5 sv ahead.length (flat ahead)) (hg : w1.grownBy w2 sv.ownBlock)
    (hcase : (∃ g cap, sv = .slice (some ⟨g, 0, none⟩) ahead.length cap ∧ sv1 = .slice (some ⟨g, 0, none⟩) (ahead.length + 1) cap) ∨ ((∀ g, sv1.ownBlock = some g → w1.heap.size ≤ g) ∧ w1.grownBy w2 none)) :
    Sp w2 base ev1 L (fun g => bad g ∨ sv1.ownBlock = some g) ∧ (∀ g, (bad g ∨ sv1.ownBlock = some g) → g < w2.heap.size) ∧
    (∀ (w3 : World) (ev3 : Value) (L3 : List (List M.Cl)), Evd base w2 w3 ev1 sv1 (ahead ++ [c]) (fun g => bad g ∨ sv1.ownBlock = some g) L3 ev3 → Evd base w w3 ev sv ahead bad L3 ev3) := by
  obtain ⟨ss, hl, hown, hres, hdis, hap⟩ := h.row
  have hs1 := h.size
  have hs2 := hg.size
  have hnev : ∀ g c, w1.heap[g]? = some (.cells c 111 (0, 0)) → ev1.ownBlock ≠ some g := fun g c e => other_block hown (b := g) (t := 111) (ys := c.toList) ⟨c, e, rfl⟩ (by decide)
  have hevs : ∀ g, ev1.ownBlock = some g → sv.ownBlock ≠ some g := fun g hg1 hg2 => by
    obtain ⟨q1, ⟨q2, _⟩ | ⟨g', cap, cur, e1, q3, q4, q5⟩⟩ := h.st
    · rw [q2] at hg2; cases hg2
    · rw [e1] at hg2; cases hg2
      exact hnev _ cur q4 hg1
  have hown2 : w2.ownsRow base 24 1 ev1 L.length ss := by
    obtain ⟨q1, q2 | ⟨g, cap, cur, e1, q3, q4, q5⟩⟩ := hown
    · exact ⟨q1, .inl q2⟩
    · exact ⟨q1, .inr ⟨g, cap, cur, e1, q3, (hg.block g (Array.getElem?_eq_some_iff.1 q4).1 (fun e => hevs g (by rw [e1]; rfl) e.symm)).trans q4, q5⟩⟩
  have hres2 : ∀ i, i < L.length → Res w2 base (ss.getD i (.slice none 0 0)) (L.getD i []) := fun i hi => by
    have hr := hres i hi
    have hne := hap i hi
    obtain ⟨hn, q1 | ⟨b, cap, q1, q2, q3, xs, ⟨a, a1, a2⟩, q5⟩⟩ := hr
    · exact ⟨hn, .inl q1⟩
    · refine ⟨hn, .inr ⟨b, cap, q1, q2, q3, xs, ⟨a, (hg.block b (Array.getElem?_eq_some_iff.1 a1).1 (fun e => hne b (by rw [q1]; rfl) (hsv b e.symm))).trans a1, a2⟩, q5⟩⟩
  have hrl : ∀ i, i < L.length → ∀ b, (ss.getD i (.slice none 0 0)).ownBlock = some b → b < w1.heap.size := fun i hi b e => (hres i hi).lt b e
  refine ⟨⟨ss, hl, hown2, hres2, hdis, fun i hi b hb1 hb2 => ?_⟩, fun g hg1 => ?_, fun w3 ev3 L3 k => ?_⟩
  · rcases hb2 with hb2 | hb2
    · exact hap i hi b hb1 hb2
    · rcases hcase with ⟨g', cap, e1, e2⟩ | ⟨hn, _⟩
      · rw [e2] at hb2; cases hb2
        exact hap i hi g' hb1 (hsv g' (by rw [e1]; rfl))
      · have := hn b hb2; have := hrl i hi b hb1; omega
  · rcases hg1 with hg1 | hg1
    · have := hbad g hg1; omega
    · exact (World.ownsRow.lt ho1 g hg1).2
  · refine ⟨k.row.less fun g hg1 => .inl hg1, ?_, (k.os.trans hg.os).trans h.os, (k.tape.trans hg.tape).trans h.tape, (k.output.trans hg.output).trans h.output, Nat.le_trans hs1 (Nat.le_trans hs2 k.size), fun j hj a1 a2 => ?_, h.ne.trans (k.ne.imp id fun q g hg1 => Nat.le_trans hs2 (q g hg1)) hs1⟩
    · rcases hcase with ⟨g', cap, e1, e2⟩ | ⟨hn, _⟩
      · have h5 := k.st
        rw [e2, flat_append, List.length_append] at h5
        rw [e1]
        exact owns_prefix (m := 1) h5 (by rw [flat_length])
      · have hsl : ∀ g, sv.ownBlock = some g → g < w.heap.size := fun g hg => (World.ownsRow.lt hs g hg).2
        obtain ⟨q1, q2 | ⟨g, cap, cur, e1, q3, q4, q5⟩⟩ := ho0
        · exact ⟨q1, .inl q2⟩
        · have hgl : g < w.heap.size := hsl g (by rw [e1]; rfl)
          refine ⟨q1, .inr ⟨g, cap, cur, e1, q3, (k.block g (Array.getElem?_eq_some_iff.1 q4).1 (fun e => hevs g e.symm (by rw [e1]; rfl)) (fun e => by have := hn g e.symm; omega)).trans q4, q5⟩⟩
    · refine ((k.block j (by omega) (fun e => ?_) (fun e => ?_)).trans (hg.block j (by omega) (fun e => a2 e))).trans (h.block j hj a1 a2)
      · rcases h.ne with q | q
        · exact a1 (by rw [← q]; exact e)
        · have := q j e.symm; omega
      · rcases hcase with ⟨g', cap, e1, e2⟩ | ⟨hn, _⟩
        · rw [e2] at e; cases e
          exact a2 (by rw [e1]; rfl)
        · have := hn j e.symm; omega
/-- The events of the first parts are no more than the cells ahead of the next one. -/
theorem evs_bound (f : Nat) {v : List M.Cl} (hv : M.valueFault v = 0) (ahead : List M.Cl) : ∀ k, k ≤ M.arity v 0 → (allK (evs f) (decide ((v.getD 0 M.zero).kind = 6)) (keysAt v 0) (subs v 0) ahead k).length + 1 ≤ M.iter v k 1
  | 0, _ => Nat.le_refl _
  | k + 1, hk => by
    have i1 := evs_bound f hv ahead k (by omega)
    obtain ⟨_, p2, p3⟩ := part_lt hv (show k < M.arity v 0 by omega)
    have h := evs_len f (part v (M.iter v k 1)) (ahead ++ [stepAt (decide ((v.getD 0 M.zero).kind = 6)) (keysAt v 0) k]) p3
    rw [allK, List.length_append, subs_getD v 0 k (by omega), Nat.zero_add]
    omega
theorem evs_bound_at (f : Nat) {v : List M.Cl} (hv : M.valueFault v = 0) {a : Nat} (ha : a < v.length) (ahead : List M.Cl) (k : Nat) (hk : k ≤ M.arity v a) : (allK (evs f) (decide ((v.getD a M.zero).kind = 6)) (keysAt v a) (subs v a) ahead k).length + 1 ≤ M.iter (part v a) k 1 := by
  have := evs_bound f (part_valid hv ha) ahead k (by rw [part_arity hv ha]; exact hk)
  rwa [part_zero hv ha, (subs_part hv ha).1, (subs_part hv ha).2] at this
theorem evs_part_leaf (f : Nat) {v : List M.Cl} (hv : M.valueFault v = 0) {a : Nat} (ha : a < v.length) (ahead : List M.Cl) (h : (v.getD a M.zero).n = 0) : evs (f + 1) (part v a) ahead = [Sev.laid ahead [part v a]] := evs_leaf (by rw [part_zero hv ha]; exact h)
theorem evs_part_more (f : Nat) {v : List M.Cl} (hv : M.valueFault v = 0) {a : Nat} (ha : a < v.length) (ahead : List M.Cl) (h : ¬ (v.getD a M.zero).n = 0) : evs (f + 1) (part v a) ahead = allK (evs f) (decide ((v.getD a M.zero).kind = 6)) (keysAt v a) (subs v a) ahead (M.arity v a) ++ [Sev.laid (ahead ++ [stepAt (decide ((v.getD a M.zero).kind = 6)) (keysAt v a) (M.arity v a - 1)]) []] := by
  rw [evs_more (by rw [part_zero hv ha]; exact h), part_zero hv ha, (subs_part hv ha).1, (subs_part hv ha).2, part_arity hv ha]
end Al
end Go.Proofs.YtcglddahphkcpaaGreatDoor
