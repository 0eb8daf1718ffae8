/-
  impl.layPath, impl.lay, impl.stepTo.
-/
import Derived.Test.YtfcglmkbfdfaeaaDoorT35
namespace Go.Proofs.YtfcglmkbfdfaeaaDoor
open Go.RowKit
set_option linter.unusedVariables false
set_option linter.unusedSimpArgs false
namespace Al
theorem infoI : (Tryd.prog.info? 3).map (fun i => (i.zero, i.size, i.bytes)) = some (some (.int .i64 0), 1, 8) := by kernel_rfl
theorem row_len {w : World} {B : Nat} {t : TypeId} {s : Value} {n sz : Nat} {xs : List Value} (h : w.ownsRow B t sz s n xs) : ∃ a c, s = .slice a n c := by
  rcases h.2 with ⟨h2, h3⟩ | ⟨g', cap, cur, h2, h3, _⟩
  · exact ⟨none, 0, by rw [h3]; exact h2⟩
  · exact ⟨_, _, h2⟩
/-- What an append reads of a row. -/
theorem rowN_read {w : World} {B : Nat} {t : TypeId} {s : Value} {n sz : Nat} {xs : List Value} (h : w.ownsRow B t sz s n xs) (h0 : n = 0 → xs = []) : (s = .slice none 0 0 ∧ xs = []) ∨ ∃ ad c, s = .slice (some ad) n c ∧ ∀ j u, xs[j]? = some u → w.cell? (ad.add j) = some u := by
  have hl := h.1
  rcases h.2 with ⟨h2, h3⟩ | ⟨g, cap, cur, h2, h3, h4, h5, h6, h7, h8⟩
  · exact .inl ⟨h2, h0 h3⟩
  · refine .inr ⟨⟨g, 0, none⟩, cap, h2, fun j u hu => ?_⟩
    have hj : j < n * sz := by rw [← hl]; exact (List.getElem?_eq_some_iff.1 hu).1
    rw [Go.WideShapes.add_plain, Nat.zero_add, cell_in h4, ← hu, ← h8, List.getElem?_take_of_lt hj]
theorem flat_nil_of {l : List M.Cl} (h : l.length = 0) : flat l = [] := by rw [List.length_eq_zero_iff.1 h]; rfl

set_option maxHeartbeats 1000000 in
theorem layPath_any (sv : Value) (ahead : List M.Cl) (base : Nat) (w : World) (hs : w.ownsRow base 43 5 sv ahead.length (flat ahead)) (hn : ahead.length ≤ 1000) :
    Calls Tryd.prog 71 #[sv] w fun e w' => ∃ s, e = .returned s ∧ w'.ownsRow w.heap.size 43 5 s (ahead.length + 1) (flat (pathC ahead)) ∧ Below w.heap.size w w' := by
  obtain ⟨sa, sc, rfl⟩ := row_len hs
  obtain ⟨i0, hi, hz0, hz1, hz2⟩ := info_parts Tryd.info43
  obtain ⟨W0, hW0⟩ : ∃ W0, W0 = w.alloc (.cells #[.int .i64 5, .int .i64 0, .string { data := #[] }, .string { data := #[] }, .int .i64 ahead.length] 43) := ⟨_, rfl⟩
  have B0 : Below w.heap.size w W0 := by rw [hW0]; exact (Below.refl _ _).alloc (Nat.le_refl _) _
  have O0 := hide (show W0.ownsRow w.heap.size 43 5 (.slice (some ⟨w.heap.size, 0, none⟩) 1 1) 1 (flat [headCl 5 ahead.length]) by rw [hW0]; exact one_own w w.heap.size _ (headCl 5 ahead.length) rfl (Nat.le_refl _))
  have RD := hide (rowN_read (row_below hs B0) (fun h => flat_nil_of h))
  have HFL := hide (flat_length ahead)
  have hone := hide (flat_one ahead)
  have hb63 : 1 + ahead.length ≤ maxLen := by unfold maxLen; omega
  have hby : (1 + ahead.length) * 56 ≤ 140737488355328 := by omega
  have HPC := hide (show flat [headCl 5 ahead.length] ++ flat ahead = flat (pathC ahead) by rw [← flat_append]; rfl)
  have hbas := B0.size
  clear hs
  go_enter Tryd.func71, Tryd.ntmps71
  go_wp2_with (at_builtin; rw [← hW0]; refine wpList_rowN rfl (.tmp 6) (.tmp 7) 24 rfl 43 i0 _ 5 56 Tryd.underlying24 hi hz0 hz1 hz2 rfl (by decide) w.heap.size (.slice (some ⟨w.heap.size, 0, none⟩) 1 1) 1 _ rfl (unhide O0) (.slice sa ahead.length sc) rfl ahead.length (flat ahead) (unhide HFL) (unhide RD) (unhide hone) hb63 hby hbas ?_)
  intro v' w' ho hg _
  rw [← hW0] at hg
  rw [unhide HPC, Nat.add_comm] at ho
  have B1 : Below w.heap.size w w' := B0.grown hg hbas (fun q hq => by cases hq; exact Nat.le_refl _)
  have HO := hide ho
  obtain ⟨a, k, c, rfl⟩ := row_shape ho
  clear ho hg hW0 B0 O0 RD
  go_wp2_with fail
  go_ret
  exact ⟨_, rfl, unhide HO, B1⟩

/-- All but the struct and one row is kept. -/
structure Fk (w w' : World) (PB : Nat) (x : Value) : Prop where
  os : w'.os = w.os
  tape : w'.tape = w.tape
  output : w'.output = w.output
  size : w.heap.size ≤ w'.heap.size
  block : ∀ k, k < w.heap.size → k ≠ PB → some k ≠ x.ownBlock → w'.heap[k]? = w.heap[k]?
theorem Fk.row {w w' : World} {PB : Nat} {x : Value} (h : Fk w w' PB x) {B s n : Nat} {e : TypeId} {v : Value} {xs : List Value} (ho : w.ownsRow B e s v n xs) (h1 : v.ownBlock ≠ some PB) (h2 : Dis v x) : w'.ownsRow B e s v n xs := by
  obtain ⟨q1, q2 | ⟨g, cap, cur, e1, q3, q4, q5⟩⟩ := ho
  · exact ⟨q1, .inl q2⟩
  · exact ⟨q1, .inr ⟨g, cap, cur, e1, q3, (h.block g (Array.getElem?_eq_some_iff.1 q4).1 (fun e => h1 (by rw [e1, e]; rfl)) (fun e => h2 g (by rw [e1]; rfl) e.symm)).trans q4, q5⟩⟩
theorem row_set {w : World} {B s n PB j : Nat} {e t : TypeId} {v u : Value} {xs ys : List Value} (h : w.ownsRow B e s v n xs) (ho : Own w PB t ys) (hne : e ≠ t) : (w.setCell ⟨PB, j, none⟩ u).ownsRow B e s v n xs := by
  have hb := other_block h ho hne
  obtain ⟨q1, q2 | ⟨g, cap, cur, e1, q3, q4, q5⟩⟩ := h
  · exact ⟨q1, .inl q2⟩
  · exact ⟨q1, .inr ⟨g, cap, cur, e1, q3, (heap_setCell_other _ ⟨PB, j, none⟩ g u (fun e => hb (by rw [e1, e]; rfl))).trans q4, q5⟩⟩
theorem Dis.types {w : World} {B s n B' s' n' : Nat} {e e' : TypeId} {v v' : Value} {xs xs' : List Value} (h : w.ownsRow B e s v n xs) (h' : w.ownsRow B' e' s' v' n' xs') (hne : e' ≠ e) : Dis v v' := by
  intro g hg
  obtain ⟨q1, ⟨q2, _⟩ | ⟨g', cap, cur, e1, q3, q4, q5⟩⟩ := h
  · rw [q2] at hg; cases hg
  · rw [e1] at hg; cases hg
    exact other_block h' (b := g') (t := e) (ys := cur.toList) ⟨cur, q4, rfl⟩ hne
/-- A row has grown, and the struct is told of it. -/
theorem Fk.put {w W1 W2 : World} {PB j : Nat} {x x' : Value} (hb : Below w.heap.size w W1) (hg : W1.grownBy W2 x.ownBlock) : Fk w (W2.setCell ⟨PB, j, none⟩ x') PB x := by
  refine ⟨(show W2.os = w.os from hg.os.trans hb.os), (show W2.tape = w.tape from hg.tape.trans hb.tape), (show W2.output = w.output from hg.output.trans hb.output), ?_, fun k hk h1 h2 => ?_⟩
  · have := hb.size; have := hg.size; simp; omega
  · exact (heap_setCell_other _ ⟨PB, j, none⟩ k x' h1).trans ((hg.block k (Nat.lt_of_lt_of_le hk hb.size) h2).trans (hb.block k hk))
theorem own_grown {W1 W2 : World} {PB : Nat} {t : TypeId} {xs : List Value} {x : Value} (ho : Own W1 PB t xs) (hg : W1.grownBy W2 x.ownBlock) (hne : x.ownBlock ≠ some PB) : Own W2 PB t xs := grown_own hg ho hne
theorem Ls.put0 {base : Nat} {w W1 W2 : World} {PB : Nat} {C C' : List M.Cl} {E : List Nat} {cv ev cv' : Value} {N : Nat} (h : Ls base w PB C E cv ev) (hb : Below w.heap.size w W1) (hg : W1.grownBy W2 cv.ownBlock) (ho : W2.ownsRow base 43 5 cv' N (flat C')) (hN : N = C'.length) : Ls base (W2.setCell ⟨PB, 0, none⟩ cv') PB C' E cv' ev ∧ Fk w (W2.setCell ⟨PB, 0, none⟩ cv') PB cv := by
  have hne : cv.ownBlock ≠ some PB := other_block h.cells h.own (by decide)
  have o2 : Own W2 PB 64 [cv, ev] := own_grown (h.own.below hb h.own.lt) hg hne
  have hk := Fk.put (PB := PB) (j := 0) (x' := cv') hb hg
  refine ⟨⟨o2.set 0 cv', by rw [← hN]; exact row_set ho o2 (by decide), hk.row h.ends (other_block h.ends h.own (by decide)) (Dis.types h.ends h.cells (by decide)), h.lo⟩, hk⟩
theorem Ls.put1 {base : Nat} {w W1 W2 : World} {PB : Nat} {C : List M.Cl} {E E' : List Nat} {cv ev ev' : Value} {N : Nat} (h : Ls base w PB C E cv ev) (hb : Below w.heap.size w W1) (hg : W1.grownBy W2 ev.ownBlock) (ho : W2.ownsRow base 3 1 ev' N (natV E')) (hN : N = E'.length) : Ls base (W2.setCell ⟨PB, 1, none⟩ ev') PB C E' cv ev' ∧ Fk w (W2.setCell ⟨PB, 1, none⟩ ev') PB ev := by
  have hne : ev.ownBlock ≠ some PB := other_block h.ends h.own (by decide)
  have o2 : Own W2 PB 64 [cv, ev] := own_grown (h.own.below hb h.own.lt) hg hne
  have hk := Fk.put (PB := PB) (j := 1) (x' := ev') hb hg
  refine ⟨⟨o2.set 1 ev', hk.row h.cells (other_block h.cells h.own (by decide)) (Dis.types h.cells h.ends (by decide)), by rw [← hN]; exact row_set ho o2 (by decide), h.lo⟩, hk⟩
theorem Laid'.one {base : Nat} {w W3 W5 : World} {PB : Nat} {C : List M.Cl} {E : List Nat} {cv ev sv cv' ev' : Value} {ahead : List M.Cl} {N : Nat} (hN : N = C.length + (ahead.length + 1)) (h : Ls base w PB C E cv ev) (hs : w.ownsRow base 43 5 sv ahead.length (flat ahead)) (hd : Dis cv sv) (k1 : Fk w W3 PB cv) (hl3 : Ls base W3 PB (C ++ pathC ahead) E cv' ev) (k2 : Fk W3 W5 PB ev) (hl5 : Ls base W5 PB (C ++ pathC ahead) (E ++ [N]) cv' ev') (n1 : Nw w cv cv') (n2 : Nw w ev ev') : Laid' base w W5 PB C E cv ev sv ahead [ahead] cv' ev' := by
  subst hN
  have hsP : sv.ownBlock ≠ some PB := other_block hs h.own (by decide)
  have hsc : Dis sv cv := fun g a b => hd g b a
  have s3 := k1.row hs hsP hsc
  have s5 := k2.row s3 hsP (Dis.types s3 hl3.ends (by decide))
  refine ⟨by simpa [lays, ends] using hl5, s5, ⟨k2.os.trans k1.os, k2.tape.trans k1.tape, k2.output.trans k1.output, Nat.le_trans k1.size k2.size, fun j hj a1 a2 a3 a4 => ?_⟩, n1, n2⟩
  have := k1.size
  exact (k2.block j (by omega) a1 a3).trans (k1.block j hj a1 a2)

set_option maxRecDepth 100000 in
set_option maxHeartbeats 2000000 in
theorem lay_any (base PB : Nat) (C : List M.Cl) (E : List Nat) (cv ev sv : Value) (ahead : List M.Cl) (w : World) (h : Ls base w PB C E cv ev) (hs : w.ownsRow base 43 5 sv ahead.length (flat ahead)) (hd : Dis cv sv) (hb : base ≤ w.heap.size) (hn : ahead.length ≤ 1000) (hC : C.length ≤ 1000000) (hE : E.length ≤ 1000000) :
    Calls Tryd.prog 55 #[.pointer (some ⟨PB, 0, none⟩), sv] w fun e w' => e = .returned (.tuple #[]) ∧ LaidP base w PB C E cv ev sv ahead [ahead] w' := by
  have hlt := h.own.lt
  obtain ⟨sa, sc, rfl⟩ := row_len hs
  obtain ⟨ca, cc, rfl⟩ := row_len h.cells
  obtain ⟨ea, ec, rfl⟩ := row_len h.ends
  obtain ⟨i0, hi, hz0, hz1, hz2⟩ := info_parts Tryd.info43
  obtain ⟨i1, hi1, hx0, hx1, hx2⟩ := info_parts infoI
  have g0 := h.own.cell 0
  have g1 := h.own.cell 1
  simp only [List.getElem?_cons_zero, List.getElem?_cons_succ] at g0 g1
  have HLP := hide (layPath_any _ ahead base w.drew hs hn)
  have HL := hide h
  have HS := hide hs
  have HD := hide hd
  have KEEP := hide (show ∀ W : World, W.heap[PB]? = w.heap[PB]? → W.cell? ⟨PB, 0, none⟩ = some (.slice ca C.length cc) ∧ W.cell? ⟨PB, 1, none⟩ = some (.slice ea E.length ec) from fun W hW => ⟨(cell_block hW).trans g0, (cell_block hW).trans g1⟩)
  have HFR := hide (show ∀ W : World, W.heap[PB]? = w.heap[PB]? → W.frozen? ⟨PB, 0, none⟩ = false from fun W hW => by
    obtain ⟨c, h1, h2⟩ := h.own
    exact Own.frozen (xs := c.toList) ⟨c, hW.trans h1, rfl⟩ 0)
  obtain ⟨nC, hnC⟩ : ∃ n, n = C.length := ⟨_, rfl⟩
  obtain ⟨nE, hnE⟩ : ∃ n, n = E.length := ⟨_, rfl⟩
  obtain ⟨nA, hnA⟩ : ∃ n, n = ahead.length := ⟨_, rfl⟩
  have HNC := hide hnC
  have HNE := hide hnE
  have HNA := hide hnA
  rw [← hnC] at hC KEEP ⊢
  rw [← hnE] at hE KEEP ⊢
  rw [← hnA] at hn HLP ⊢
  have hCrow := hide (show w.ownsRow base 43 5 (.slice ca nC cc) nC (flat C) by rw [hnC]; exact h.cells)
  have hErow := hide (show w.ownsRow base 3 1 (.slice ea nE ec) nE (natV E) by rw [hnE]; exact h.ends)
  clear h hs hd hnC hnE hnA g0 g1
  go_enter Tryd.func55, Tryd.ntmps55
  go_upto_region 0 with fail
  refine Z.region 10 (fun W => W.heap[PB]? = w.heap[PB]?) (by kernel_rfl) rfl (fun hHeld => ?_)
  refine Z.take (i := 0) (d := 4) (v := .pointer (some ⟨PB, 0, none⟩)) rfl rfl (by kernel_rfl) (by kernel_rfl) (by kernel_rfl) (by kernel_rfl) (fun _ _ _ h => h) (Or.inl ⟨by rfl, ?_⟩) hHeld ?_
  · intro w' hSw; go_simp
  simp only [Act.put, List.setIfInBounds_toArray, List.set_cons_zero, List.set_cons_succ]
  refine Z.take (i := 1) (d := 5) (v := .pointer (some ⟨PB, 0, none⟩)) rfl rfl (by kernel_rfl) (by kernel_rfl) (by kernel_rfl) (by kernel_rfl) (fun _ _ _ h => h) (Or.inl ⟨by rfl, ?_⟩) hHeld ?_
  · intro w' hSw; go_simp
  simp only [Act.put, List.setIfInBounds_toArray, List.set_cons_zero, List.set_cons_succ]
  refine Z.take (i := 2) (d := 6) (v := .pointer (some ⟨PB, 0, none⟩)) rfl rfl (by kernel_rfl) (by kernel_rfl) (by kernel_rfl) (by kernel_rfl) (fun _ _ _ h => h) (Or.inl ⟨by rfl, ?_⟩) hHeld ?_
  · intro w' hSw; go_simp
  simp only [Act.put, List.setIfInBounds_toArray, List.set_cons_zero, List.set_cons_succ]
  refine Z.take (i := 3) (d := 7) (v := .pointer (some ⟨PB, 0, none⟩)) rfl rfl (by kernel_rfl) (by kernel_rfl) (by kernel_rfl) (by kernel_rfl) (fun _ _ _ h => h) (Or.inl ⟨by rfl, ?_⟩) hHeld ?_
  · intro w' hSw; go_simp
  simp only [Act.put, List.setIfInBounds_toArray, List.set_cons_zero, List.set_cons_succ]
  refine Z.take (i := 4) (d := 8) (v := .slice ca nC cc) rfl rfl (by kernel_rfl) (by kernel_rfl) (by kernel_rfl) (by kernel_rfl) (fun _ _ _ h => h) (Or.inl ⟨by rfl, ?_⟩) hHeld ?_
  · intro w' hSw; have g1 := ((unhide KEEP) _ hSw).1; go_simp
  simp only [Act.put, List.setIfInBounds_toArray, List.set_cons_zero, List.set_cons_succ]
  refine Z.take (i := 5) (d := 9) (v := .slice sa nA sc) rfl rfl (by kernel_rfl) (by kernel_rfl) (by kernel_rfl) (by kernel_rfl) (fun _ _ _ h => h) (Or.inl ⟨by rfl, ?_⟩) hHeld ?_
  · intro w' hSw; go_simp
  simp only [Act.put, List.setIfInBounds_toArray, List.set_cons_zero, List.set_cons_succ]
  refine Z.only (i := 6) (d := 10) rfl rfl (by kernel_rfl) (by rfl) (fun K hK => ?_)
  go_simp
  refine (unhide HLP).mono ?_
  rintro e W1 ⟨s10, rfl, ho10, hb10⟩
  have B1 : Below w.heap.size w W1 := (Below.refl _ _).drew.trans (hb10.mono (Nat.le_refl _))
  obtain ⟨xa, xc, hx10⟩ := row_len ho10
  subst hx10
  have HO10 := hide ho10
  go_simp
  refine hK.out (.slice xa (nA + 1) xc) W1 (B1.block _ hlt) ?_
  clear hK K ho10 hb10 HLP
  simp only [Act.put, List.setIfInBounds_toArray, List.set_cons_zero, List.set_cons_succ]
  have HR10 := hide (rowN_read (unhide HO10) (fun h => by omega))
  refine Z.only (i := 7) (d := 11) rfl rfl (by kernel_rfl) (by rfl) (fun K hK => ?_)
  refine wp_rowN _ (.tmp 8) (.tmp 10) 24 rfl 43 i0 _ 5 56 Tryd.underlying24 hi hz0 hz1 hz2 rfl (by decide) base (.slice ca nC cc) nC (flat C) rfl (row_below (unhide hCrow) B1) (.slice xa (nA + 1) xc) rfl (nA + 1) (flat (pathC ahead)) (by rw [flat_length, pathC_length, unhide HNA]) (unhide HR10) (flat_one _) (by unfold maxLen; omega) (by omega) (Nat.le_trans hb B1.size) ?_
  intro cv' W2 ho2 hg2 hn2
  have P0 := hide (Ls.put0 (unhide HL) B1 (by have := hg2; rw [unhide HNC] at this; exact this) (C' := C ++ pathC ahead) (cv' := cv') (N := nC + (nA + 1)) (by rw [flat_append]; exact ho2) (by rw [List.length_append, pathC_length, ← unhide HNC, ← unhide HNA]))
  have N1 : Hid (Nw w (.slice ca nC cc) cv') := hide (hn2.imp id (fun h g hg => Nat.le_trans B1.size (h g hg)))
  have S2 : W2.heap[PB]? = w.heap[PB]? := (hg2.block PB (Nat.lt_of_lt_of_le hlt B1.size) (fun e => other_block (unhide HL).cells (unhide HL).own (by decide) (by rw [← unhide HNC]; exact e.symm))).trans (B1.block _ hlt)
  obtain ⟨ya, yc, hy⟩ := row_len ho2
  subst hy
  refine hK.out (.slice ya (nC + (nA + 1)) yc) W2 S2 ?_
  clear hK K ho2 hg2 hn2 HO10 HR10 B1
  simp only [Act.put, List.setIfInBounds_toArray, List.set_cons_zero, List.set_cons_succ]
  refine Z.ready (rs := [8]) (by kernel_rfl) (by simp) (Z.val_cons (i := 8) (d := 12) (v := .pointer (some ⟨PB, 0, none⟩)) (w' := W2) rfl (by rfl) (fun K hK => ?_) (fun _ => S2) ?_ Z.All.nil)
  · go_simp
    exact hK.out
  simp only [Act.put, List.setIfInBounds_toArray, List.set_cons_zero, List.set_cons_succ]
  refine Z.take (i := 9) (d := 13) (v := .pointer (some ⟨PB, 0, none⟩)) rfl rfl (by kernel_rfl) (by kernel_rfl) (by kernel_rfl) (by kernel_rfl) (fun _ _ _ h => h) (Or.inl ⟨by rfl, ?_⟩) S2 ?_
  · intro w' hSw; go_simp
  simp only [Act.put, List.setIfInBounds_toArray, List.set_cons_zero, List.set_cons_succ]
  have c1 := ((unhide KEEP) W2 S2).1
  have z1 := (unhide HFR) W2 S2
  refine Z.last_at (w' := W2.setCell ⟨PB, 0, none⟩ (.slice ya (nC + (nA + 1)) yc)) rfl (by kernel_rfl) (by rfl) (fun K hK => ?_) ?_
  · go_simp
    exact hK.out
  refine Z.done (by kernel_rfl) ?_ _
  generalize W2.setCell ⟨PB, 0, none⟩ (.slice ya (nC + (nA + 1)) yc) = W3 at *
  clear c1 z1 S2 KEEP HFR hHeld hCrow
  have hL3 := (unhide P0).1
  have hlt3 := hL3.own.lt
  have g0 := hL3.own.cell 0
  have g1 := hL3.own.cell 1
  simp only [List.getElem?_cons_zero, List.getElem?_cons_succ] at g0 g1
  rw [← unhide HNE] at g1
  have KEEP := hide (show ∀ W : World, W.heap[PB]? = W3.heap[PB]? → W.cell? ⟨PB, 0, none⟩ = some (.slice ya (nC + (nA + 1)) yc) ∧ W.cell? ⟨PB, 1, none⟩ = some (.slice ea nE ec) from fun W hW => ⟨(cell_block hW).trans g0, (cell_block hW).trans g1⟩)
  have HFR := hide (show ∀ W : World, W.heap[PB]? = W3.heap[PB]? → W.frozen? ⟨PB, 1, none⟩ = false from fun W hW => by
    obtain ⟨c, h1, h2⟩ := hL3.own
    exact Own.frozen (xs := c.toList) ⟨c, hW.trans h1, rfl⟩ 1)
  have hErow3 := hide (show W3.ownsRow base 3 1 (.slice ea nE ec) nE (natV E) by have := hL3.ends; rwa [← unhide HNE] at this)
  have hb3 : base ≤ W3.heap.size := Nat.le_trans hb (unhide P0).2.size
  clear hL3 g0 g1
  go_upto_region 1 with fail
  refine Z.region 14 (fun W => W.heap[PB]? = W3.heap[PB]?) (by kernel_rfl) rfl (fun hHeld => ?_)
  refine Z.take (i := 0) (d := 14) (v := .pointer (some ⟨PB, 0, none⟩)) rfl rfl (by kernel_rfl) (by kernel_rfl) (by kernel_rfl) (by kernel_rfl) (fun _ _ _ h => h) (Or.inl ⟨by rfl, ?_⟩) hHeld ?_
  · intro w' hSw; go_simp
  simp only [Act.put, List.setIfInBounds_toArray, List.set_cons_zero, List.set_cons_succ]
  refine Z.take (i := 1) (d := 15) (v := .pointer (some ⟨PB, 0, none⟩)) rfl rfl (by kernel_rfl) (by kernel_rfl) (by kernel_rfl) (by kernel_rfl) (fun _ _ _ h => h) (Or.inl ⟨by rfl, ?_⟩) hHeld ?_
  · intro w' hSw; go_simp
  simp only [Act.put, List.setIfInBounds_toArray, List.set_cons_zero, List.set_cons_succ]
  refine Z.take (i := 2) (d := 16) (v := .pointer (some ⟨PB, 0, none⟩)) rfl rfl (by kernel_rfl) (by kernel_rfl) (by kernel_rfl) (by kernel_rfl) (fun _ _ _ h => h) (Or.inl ⟨by rfl, ?_⟩) hHeld ?_
  · intro w' hSw; go_simp
  simp only [Act.put, List.setIfInBounds_toArray, List.set_cons_zero, List.set_cons_succ]
  refine Z.take (i := 3) (d := 17) (v := .pointer (some ⟨PB, 1, none⟩)) rfl rfl (by kernel_rfl) (by kernel_rfl) (by kernel_rfl) (by kernel_rfl) (fun _ _ _ h => h) (Or.inl ⟨by rfl, ?_⟩) hHeld ?_
  · intro w' hSw; go_simp
  simp only [Act.put, List.setIfInBounds_toArray, List.set_cons_zero, List.set_cons_succ]
  refine Z.take (i := 4) (d := 18) (v := .slice ea nE ec) rfl rfl (by kernel_rfl) (by kernel_rfl) (by kernel_rfl) (by kernel_rfl) (fun _ _ _ h => h) (Or.inl ⟨by rfl, ?_⟩) hHeld ?_
  · intro w' hSw; have g1 := ((unhide KEEP) _ hSw).2; go_simp
  simp only [Act.put, List.setIfInBounds_toArray, List.set_cons_zero, List.set_cons_succ]
  refine Z.take (i := 5) (d := 19) (v := .pointer (some ⟨PB, 0, none⟩)) rfl rfl (by kernel_rfl) (by kernel_rfl) (by kernel_rfl) (by kernel_rfl) (fun _ _ _ h => h) (Or.inl ⟨by rfl, ?_⟩) hHeld ?_
  · intro w' hSw; go_simp
  simp only [Act.put, List.setIfInBounds_toArray, List.set_cons_zero, List.set_cons_succ]
  refine Z.take (i := 6) (d := 20) (v := .pointer (some ⟨PB, 0, none⟩)) rfl rfl (by kernel_rfl) (by kernel_rfl) (by kernel_rfl) (by kernel_rfl) (fun _ _ _ h => h) (Or.inl ⟨by rfl, ?_⟩) hHeld ?_
  · intro w' hSw; go_simp
  simp only [Act.put, List.setIfInBounds_toArray, List.set_cons_zero, List.set_cons_succ]
  refine Z.take (i := 7) (d := 21) (v := .pointer (some ⟨PB, 0, none⟩)) rfl rfl (by kernel_rfl) (by kernel_rfl) (by kernel_rfl) (by kernel_rfl) (fun _ _ _ h => h) (Or.inl ⟨by rfl, ?_⟩) hHeld ?_
  · intro w' hSw; go_simp
  simp only [Act.put, List.setIfInBounds_toArray, List.set_cons_zero, List.set_cons_succ]
  refine Z.take (i := 8) (d := 22) (v := .slice ya (nC + (nA + 1)) yc) rfl rfl (by kernel_rfl) (by kernel_rfl) (by kernel_rfl) (by kernel_rfl) (fun _ _ _ h => h) (Or.inl ⟨by rfl, ?_⟩) hHeld ?_
  · intro w' hSw; have g1 := ((unhide KEEP) _ hSw).1; go_simp
  simp only [Act.put, List.setIfInBounds_toArray, List.set_cons_zero, List.set_cons_succ]
  refine Z.take (i := 9) (d := 23) (v := .int .i64 ((nC + (nA + 1) : Nat) : Int)) rfl rfl (by kernel_rfl) (by kernel_rfl) (by kernel_rfl) (by kernel_rfl) (fun _ _ _ h => h) (Or.inl ⟨by rfl, ?_⟩) hHeld ?_
  · intro w' hSw; go_simp
  simp only [Act.put, List.setIfInBounds_toArray, List.set_cons_zero, List.set_cons_succ]
  obtain ⟨W4, hW4⟩ : ∃ W4, W4 = (W3.alloc (.cells #[.int .i64 ((nC : Int) + ((nA : Int) + 1))] 3)).drew := ⟨_, rfl⟩
  have B4 : Below W3.heap.size W3 W4 := by rw [hW4]; exact ((Below.refl _ _).alloc (Nat.le_refl _) _).drew
  have hN4 : ∀ j u, ([Value.int .i64 ((nC : Int) + ((nA : Int) + 1))] : List Value)[j]? = some u → W4.cell? ((⟨W3.heap.size, 0, none⟩ : Addr).add j) = some u := by
    rw [hW4]
    intro j u hu
    rcases j with _ | j
    · cases hu; exact World.cell?_alloc_mark W3 _ _ (0, 0) 0
    · simp at hu
  refine Z.ready (rs := [10]) (by kernel_rfl) (by simp) (Z.val_cons (i := 10) (d := 24) (v := .slice (some ⟨W3.heap.size, 0, none⟩) 1 1) (w' := W4) rfl (by rfl) (fun K hK => ?_) (fun _ => B4.block _ hlt3) ?_ Z.All.nil)
  · go_simp
    rw [← hW4]
    exact hK.out
  simp only [Act.put, List.setIfInBounds_toArray, List.set_cons_zero, List.set_cons_succ]
  clear hW4
  refine Z.only (i := 11) (d := 25) rfl rfl (by kernel_rfl) (by rfl) (fun K hK => ?_)
  refine wp_rowN _ (.tmp 18) (.tmp 24) 62 rfl 3 i1 (.int .i64 0) 1 8 Tryd.underlying62 hi1 hx0 hx1 hx2 rfl (by decide) base (.slice ea nE ec) nE (natV E) rfl (row_below (unhide hErow3) B4) (.slice (some ⟨W3.heap.size, 0, none⟩) 1 1) rfl 1 [.int .i64 ((nC : Int) + ((nA : Int) + 1))] rfl (.inr ⟨_, 1, rfl, hN4⟩) (by intro u hu; rw [List.mem_singleton.1 hu]; rfl) (by unfold maxLen; omega) (by omega) (Nat.le_trans hb3 B4.size) ?_
  intro ev' W5 ho5 hg5 hn5
  have P1 := hide (Ls.put1 (unhide P0).1 B4 (by have := hg5; rw [unhide HNE] at this; exact this) (E' := E ++ [nC + (nA + 1)]) (ev' := ev') (N := nE + 1) (by rw [show natV (E ++ [nC + (nA + 1)]) = natV E ++ [.int .i64 ((nC : Int) + ((nA : Int) + 1))] by simp [natV]]; exact ho5) (by rw [List.length_append, ← unhide HNE]; rfl))
  have N2 : Hid (Nw w (.slice ea nE ec) ev') := hide (hn5.imp id (fun h g hg => by have := h g hg; have := B4.size; have := (unhide P0).2.size; omega))
  have S5 : W5.heap[PB]? = W3.heap[PB]? := (hg5.block PB (Nat.lt_of_lt_of_le hlt3 B4.size) (fun e => other_block (unhide P0).1.ends (unhide P0).1.own (by decide) (by rw [← unhide HNE]; exact e.symm))).trans (B4.block _ hlt3)
  obtain ⟨za, zc, hz⟩ := row_len ho5
  subst hz
  refine hK.out (.slice za (nE + 1) zc) W5 S5 ?_
  clear hK K ho5 hg5 hn5 B4 hN4
  simp only [Act.put, List.setIfInBounds_toArray, List.set_cons_zero, List.set_cons_succ]
  refine Z.ready (rs := [12]) (by kernel_rfl) (by simp) (Z.val_cons (i := 12) (d := 26) (v := .pointer (some ⟨PB, 0, none⟩)) (w' := W5) rfl (by rfl) (fun K hK => ?_) (fun _ => S5) ?_ Z.All.nil)
  · go_simp
    exact hK.out
  simp only [Act.put, List.setIfInBounds_toArray, List.set_cons_zero, List.set_cons_succ]
  refine Z.take (i := 13) (d := 27) (v := .pointer (some ⟨PB, 1, none⟩)) rfl rfl (by kernel_rfl) (by kernel_rfl) (by kernel_rfl) (by kernel_rfl) (fun _ _ _ h => h) (Or.inl ⟨by rfl, ?_⟩) S5 ?_
  · intro w' hSw; go_simp
  simp only [Act.put, List.setIfInBounds_toArray, List.set_cons_zero, List.set_cons_succ]
  have c1 := ((unhide KEEP) W5 S5).2
  have z1 := (unhide HFR) W5 S5
  refine Z.last_at (w' := W5.setCell ⟨PB, 1, none⟩ (.slice za (nE + 1) zc)) rfl (by kernel_rfl) (by rfl) (fun K hK => ?_) ?_
  · go_simp
    exact hK.out
  refine Z.done (by kernel_rfl) ?_ _
  generalize W5.setCell ⟨PB, 1, none⟩ (.slice za (nE + 1) zc) = W6 at *
  clear c1 z1 S5 KEEP HFR hHeld hErow3
  go_wp2_with fail
  go_end0
  have HL' : Ls base w PB C E (.slice ca nC cc) (.slice ea nE ec) := by rw [unhide HNC, unhide HNE]; exact unhide HL
  have HS' : w.ownsRow base 43 5 (.slice sa nA sc) ahead.length (flat ahead) := by rw [unhide HNA]; exact unhide HS
  have HD' : Dis (.slice ca nC cc) (.slice sa nA sc) := by rw [unhide HNC, unhide HNA]; exact unhide HD
  exact ⟨rfl, _, _, Laid'.one (by rw [← unhide HNC, ← unhide HNA]) HL' HS' HD' (by have := (unhide P0).2; rwa [← unhide HNC] at this) (by have := (unhide P0).1; rwa [← unhide HNE] at this) (by have := (unhide P1).2; rwa [← unhide HNE] at this) (unhide P1).1 (unhide N1) (unhide N2)⟩
end Al
end Go.Proofs.YtfcglmkbfdfaeaaDoor
