/-
  The program's list of paths, as it lies in memory: what is laid, where it ends, and what of memory is kept while paths are laid.
-/
import Derived.Test.YtfcglmkbfdfaeaaDoorT34
import Derived.ArgAppend
import Derived.Deep.DeepAppendRoom
import Derived.Maps.AppendAt
namespace Go.Proofs.YtfcglmkbfdfaeaaDoor
open Go.RowKit
set_option linter.unusedVariables false
set_option linter.unusedSimpArgs false
namespace Al
/-- The first of what an owned row holds, as a shorter slice of it. -/
theorem owns_prefix {w : World} {base g cap n m size : Nat} {e : TypeId} {xs ys : List Value} (h : w.ownsRow base e size (.slice (some ⟨g, 0, none⟩) (n + m) cap) (n + m) (xs ++ ys)) (hx : xs.length = n * size) : w.ownsRow base e size (.slice (some ⟨g, 0, none⟩) n cap) n xs := by
  obtain ⟨h1, ⟨h2, _⟩ | ⟨g', cap', cur, e1, h3, h4, h5, h6, h7, h8⟩⟩ := h
  · cases h2
  · cases e1
    refine ⟨hx, .inr ⟨g, cap, cur, rfl, h3, h4, by omega, h6, h7, ?_⟩⟩
    have e2 : cur.toList.take (n * size) = (cur.toList.take ((n + m) * size)).take (n * size) := by
      rw [List.take_take, Nat.min_eq_left (Nat.mul_le_mul_right size (Nat.le_add_right n m))]
    rw [e2, h8, ← hx, List.take_left]
theorem ownsMono {w : World} {B B' : Nat} {e : TypeId} {k : Nat} {v : Value} {n : Nat} {xs : List Value} (h : w.ownsRow B e k v n xs) (hB : B' ≤ B) : w.ownsRow B' e k v n xs := by
  obtain ⟨h1, h2 | ⟨g, cap, cur, q1, q2, q3⟩⟩ := h
  · exact ⟨h1, .inl h2⟩
  · exact ⟨h1, .inr ⟨g, cap, cur, q1, Nat.le_trans hB q2, q3⟩⟩
section
variable {P : Program}
/-- An append to a row of the call's own: the old slice still holds what it held. -/
theorem run_app (w : World) (base : Nat) (t ty e : TypeId) (i : TypeInfo) (z : Value) (size bytes : Nat) (ht : P.underlying t = some (.slice e)) (hi : P.info? e = some i) (hz : i.zero = some z)
    (hsize : i.size = size) (hby : i.bytes = bytes) (hzs : z.cells.size = size) (hsz : 0 < size)
    (v : Value) (n : Nat) (xs : List Value) (hown : w.ownsRow base e size v n xs)
    (a : Addr) (m c : Nat) (news : List Value) (hl : news.length = m * size) (hnews : ∀ j u, news[j]? = some u → w.cell? (a.add j) = some u) (h1 : ∀ u ∈ news, u.oneCell' = true)
    (h63 : n + m ≤ maxLen) (hbytes : (n + m) * bytes ≤ 140737488355328) (hbase : base ≤ w.heap.size) :
    ∃ v' w', (Builtin.append_ #[t, t] ty #[v, .slice (some a) m c]).run P w = .ok v' w' ∧ w'.ownsRow base e size v' (n + m) (xs ++ news) ∧ w'.ownsRow base e size v n xs ∧ w.grownBy w' v.ownBlock ∧
      ((∃ g cap, v = .slice (some ⟨g, 0, none⟩) n cap ∧ v' = .slice (some ⟨g, 0, none⟩) (n + m) cap) ∨ ((∀ g, v'.ownBlock = some g → w.heap.size ≤ g) ∧ w.grownBy w' none)) := by
  have hxl := hown.1
  rcases hown.2 with ⟨rfl, h0⟩ | ⟨g, cap, cur, rfl, q1, q2, q3, q4, q5, q6⟩
  · obtain ⟨v', w', r1, r2, r3, _, r5⟩ := run_append_own_at (P := P) (w := w) base t ty e i z size bytes ht hi hz hsize hby hzs hsz _ n xs hown a m c news hl hnews h1 h63 hbytes hbase
    refine ⟨v', w', r1, r2, ⟨hxl, .inl ⟨rfl, h0⟩⟩, r3, .inr ⟨fun g hg => ?_, r3⟩⟩
    rcases r5 with r5 | r5
    · rw [r5] at hg; cases hg
    · rw [r5] at hg; cases hg; exact Nat.le_refl _
  · by_cases hr : n + m ≤ cap
    · obtain ⟨w', r1, r2, r3⟩ := run_append_own_spare (P := P) (w := w) base t ty e i size ht hi hsize g n cap xs hown a m c news hl hnews h1 hr
      exact ⟨_, w', r1, r2, owns_prefix r2 hxl, r3, .inl ⟨g, cap, rfl, rfl⟩⟩
    · have holds : ∀ j u, xs[j]? = some u → w.cell? ((⟨g, 0, none⟩ : Addr).add j) = some u := fun j u hu => by
        have hj : j < n * size := by rw [← hxl]; exact (List.getElem?_eq_some_iff.1 hu).1
        rw [Go.WideShapes.add_plain, Nat.zero_add, cell_in q2, ← hu, ← q6, List.getElem?_take_of_lt hj]
      obtain ⟨v', w', r1, r2, r3⟩ := run_append_arg_grows (P := P) (w := w) t ty e i z size bytes ht hi hz hsize hby hzs hsz ⟨g, 0, none⟩ n cap xs hxl holds a m c news hl hnews (by omega) h63 hbytes
      refine ⟨v', w', r1, ownsMono r2 hbase, ⟨hxl, .inr ⟨g, cap, cur, rfl, q1, (r3.block g (Array.getElem?_eq_some_iff.1 q2).1 (by simp)).trans q2, q3, q4, q5, q6⟩⟩, ⟨r3.os, r3.tape, r3.output, r3.size, fun k hk _ => r3.block k hk (by simp)⟩, .inr ⟨fun g' hg' => ownsRow_base r2 g' hg', r3⟩⟩
/-- An append of a row that lies somewhere, or of nil, whatever the size of its elements. -/
theorem run_rowN (w : World) (t ty e : TypeId) (i : TypeInfo) (z : Value) (size bytes : Nat) (ht : P.underlying t = some (.slice e)) (hi : P.info? e = some i) (hz : i.zero = some z) (hsize : i.size = size) (hby : i.bytes = bytes) (hzs : z.cells.size = size) (hsz : 0 < size)
    (base : Nat) (v : Value) (n : Nat) (xs : List Value) (hown : w.ownsRow base e size v n xs) (x : Value) (m : Nat) (ys : List Value) (hm : ys.length = m * size)
    (hx : (x = .slice none 0 0 ∧ ys = []) ∨ ∃ ad c, x = .slice (some ad) m c ∧ ∀ j u, ys[j]? = some u → w.cell? (ad.add j) = some u) (h1 : ∀ u ∈ ys, u.oneCell' = true)
    (h63 : n + m ≤ maxLen) (hbytes : (n + m) * bytes ≤ 140737488355328) (hbase : base ≤ w.heap.size) :
    ∃ v' w', (Builtin.append_ #[t, t] ty #[v, x]).run P w = .ok v' w' ∧ w'.ownsRow base e size v' (n + m) (xs ++ ys) ∧ w.grownBy w' v.ownBlock ∧ (v'.ownBlock = v.ownBlock ∨ ∀ g, v'.ownBlock = some g → w.heap.size ≤ g) := by
  rcases hx with ⟨rfl, rfl⟩ | ⟨ad, c, rfl, hc⟩
  · have hm0 : m = 0 := by
      rcases Nat.eq_zero_or_pos m with h | h
      · exact h
      · have := Nat.mul_pos h hsz; simp at hm; omega
    subst hm0
    subst hsize
    exact ⟨v, w, run_append_owned_none (P := P) (w := w) base t ty e i i.size ht hi v n xs hown, by simpa using hown, ⟨rfl, rfl, rfl, Nat.le_refl _, fun _ _ _ => rfl⟩, .inl rfl⟩
  · obtain ⟨v', w', hr, h2, h3, _, h5⟩ := run_append_own_at (P := P) (w := w) base t ty e i z size bytes ht hi hz hsize hby hzs hsz v n xs hown ad m c ys hm hc h1 h63 hbytes hbase
    refine ⟨v', w', hr, h2, h3, h5.imp id fun h g hg => ?_⟩
    rw [h] at hg; cases hg; exact Nat.le_refl _
theorem wp_rowN (w : World) {o : Oper} {a : Act} {K : Act → World → Prop} {Q : Exit → Act → World → Prop} (s x : Operand) (t : TypeId) (ho : o.op = .call { callee := .builtin .append, args := #[s, x], argTypes := #[t, t] })
    (e : TypeId) (i : TypeInfo) (z : Value) (size bytes : Nat) (ht : P.underlying t = some (.slice e)) (hi : P.info? e = some i) (hz : i.zero = some z) (hsize : i.size = size) (hby : i.bytes = bytes) (hzs : z.cells.size = size) (hsz : 0 < size)
    (base : Nat) (v : Value) (n : Nat) (xs : List Value) (hs : a.eval s = v) (hown : w.ownsRow base e size v n xs) (xv : Value) (hxv : a.eval x = xv) (m : Nat) (ys : List Value) (hm : ys.length = m * size)
    (hx : (xv = .slice none 0 0 ∧ ys = []) ∨ ∃ ad c, xv = .slice (some ad) m c ∧ ∀ j u, ys[j]? = some u → w.cell? (ad.add j) = some u) (h1 : ∀ u ∈ ys, u.oneCell' = true)
    (h63 : n + m ≤ maxLen) (hbytes : (n + m) * bytes ≤ 140737488355328) (hbase : base ≤ w.heap.size)
    (h : ∀ v' w', w'.ownsRow base e size v' (n + m) (xs ++ ys) → w.grownBy w' v.ownBlock → (v'.ownBlock = v.ownBlock ∨ ∀ g, v'.ownBlock = some g → w.heap.size ≤ g) → K (a.put o.dst v') w') : Oper.wp P o a w K Q := by
  obtain ⟨v', w', hr, h2, h3, h4⟩ := run_rowN (P := P) w t o.type e i z size bytes ht hi hz hsize hby hzs hsz base v n xs hown xv m ys hm hx h1 h63 hbytes hbase
  unfold Oper.wp execOp
  simp only [ho, resolve, invoke, builtin, Sem.run_bind, Sem.run_pure, Result.andThen_ok, List.map_toArray, List.map_cons, List.map_nil, hs, hxv, hr]
  exact h v' w' h2 h3 h4
theorem wp_app (w : World) {o : Oper} {a : Act} {K : Act → World → Prop} {Q : Exit → Act → World → Prop} (s x : Operand) (t : TypeId) (ho : o.op = .call { callee := .builtin .append, args := #[s, x], argTypes := #[t, t] })
    (e : TypeId) (i : TypeInfo) (z : Value) (size bytes : Nat) (ht : P.underlying t = some (.slice e)) (hi : P.info? e = some i) (hz : i.zero = some z) (hsize : i.size = size) (hby : i.bytes = bytes) (hzs : z.cells.size = size) (hsz : 0 < size)
    (base : Nat) (v : Value) (n : Nat) (xs : List Value) (hs : a.eval s = v) (hown : w.ownsRow base e size v n xs) (ad : Addr) (m c : Nat) (hxv : a.eval x = .slice (some ad) m c) (news : List Value) (hl : news.length = m * size)
    (hnews : ∀ j u, news[j]? = some u → w.cell? (ad.add j) = some u) (h1 : ∀ u ∈ news, u.oneCell' = true)
    (h63 : n + m ≤ maxLen) (hbytes : (n + m) * bytes ≤ 140737488355328) (hbase : base ≤ w.heap.size)
    (h : ∀ v' w', w'.ownsRow base e size v' (n + m) (xs ++ news) → w'.ownsRow base e size v n xs → w.grownBy w' v.ownBlock → ((∃ g cap, v = .slice (some ⟨g, 0, none⟩) n cap ∧ v' = .slice (some ⟨g, 0, none⟩) (n + m) cap) ∨ ((∀ g, v'.ownBlock = some g → w.heap.size ≤ g) ∧ w.grownBy w' none)) → K (a.put o.dst v') w') : Oper.wp P o a w K Q := by
  obtain ⟨v', w', hr, h2, h3, h4, h5⟩ := run_app (P := P) w base t o.type e i z size bytes ht hi hz hsize hby hzs hsz v n xs hown ad m c news hl hnews h1 h63 hbytes hbase
  unfold Oper.wp execOp
  simp only [ho, resolve, invoke, builtin, Sem.run_bind, Sem.run_pure, Result.andThen_ok, List.map_toArray, List.map_cons, List.map_nil, hs, hxv, hr]
  exact h v' w' h2 h3 h4 h5
theorem wpList_rowN {w : World} {ops : Array Oper} {rest : List Oper} {o : Oper} {a : Act} {Q : Exit → Act → World → Prop} (hgd : o.guard = none) (s x : Operand) (t : TypeId) (ho : o.op = .call { callee := .builtin .append, args := #[s, x], argTypes := #[t, t] })
    (e : TypeId) (i : TypeInfo) (z : Value) (size bytes : Nat) (ht : P.underlying t = some (.slice e)) (hi : P.info? e = some i) (hz : i.zero = some z) (hsize : i.size = size) (hby : i.bytes = bytes) (hzs : z.cells.size = size) (hsz : 0 < size)
    (base : Nat) (v : Value) (n : Nat) (xs : List Value) (hs : a.eval s = v) (hown : w.ownsRow base e size v n xs) (xv : Value) (hxv : a.eval x = xv) (m : Nat) (ys : List Value) (hm : ys.length = m * size)
    (hx : (xv = .slice none 0 0 ∧ ys = []) ∨ ∃ ad c, xv = .slice (some ad) m c ∧ ∀ j u, ys[j]? = some u → w.cell? (ad.add j) = some u) (h1 : ∀ u ∈ ys, u.oneCell' = true)
    (h63 : n + m ≤ maxLen) (hbytes : (n + m) * bytes ≤ 140737488355328) (hbase : base ≤ w.heap.size)
    (h : ∀ v' w', w'.ownsRow base e size v' (n + m) (xs ++ ys) → w.grownBy w' v.ownBlock → (v'.ownBlock = v.ownBlock ∨ ∀ g, v'.ownBlock = some g → w.heap.size ≤ g) → wpList P ops Q rest (a.put o.dst v') w') : wpList P ops Q (o :: rest) a w := by
  refine wpList_plain hgd fun K hK => ?_
  exact wp_rowN w s x t ho e i z size bytes ht hi hz hsize hby hzs hsz base v n xs hs hown xv hxv m ys hm hx h1 h63 hbytes hbase fun v' w' h2 h3 h4 => hK _ _ (h v' w' h2 h3 h4)
theorem wpList_app {w : World} {ops : Array Oper} {rest : List Oper} {o : Oper} {a : Act} {Q : Exit → Act → World → Prop} (hgd : o.guard = none) (s x : Operand) (t : TypeId) (ho : o.op = .call { callee := .builtin .append, args := #[s, x], argTypes := #[t, t] })
    (e : TypeId) (i : TypeInfo) (z : Value) (size bytes : Nat) (ht : P.underlying t = some (.slice e)) (hi : P.info? e = some i) (hz : i.zero = some z) (hsize : i.size = size) (hby : i.bytes = bytes) (hzs : z.cells.size = size) (hsz : 0 < size)
    (base : Nat) (v : Value) (n : Nat) (xs : List Value) (hs : a.eval s = v) (hown : w.ownsRow base e size v n xs) (ad : Addr) (m c : Nat) (hxv : a.eval x = .slice (some ad) m c) (news : List Value) (hl : news.length = m * size)
    (hnews : ∀ j u, news[j]? = some u → w.cell? (ad.add j) = some u) (h1 : ∀ u ∈ news, u.oneCell' = true)
    (h63 : n + m ≤ maxLen) (hbytes : (n + m) * bytes ≤ 140737488355328) (hbase : base ≤ w.heap.size)
    (h : ∀ v' w', w'.ownsRow base e size v' (n + m) (xs ++ news) → w'.ownsRow base e size v n xs → w.grownBy w' v.ownBlock → ((∃ g cap, v = .slice (some ⟨g, 0, none⟩) n cap ∧ v' = .slice (some ⟨g, 0, none⟩) (n + m) cap) ∨ ((∀ g, v'.ownBlock = some g → w.heap.size ≤ g) ∧ w.grownBy w' none)) → wpList P ops Q rest (a.put o.dst v') w') : wpList P ops Q (o :: rest) a w := by
  refine wpList_plain hgd fun K hK => ?_
  exact wp_app w s x t ho e i z size bytes ht hi hz hsize hby hzs hsz base v n xs hs hown ad m c hxv news hl hnews h1 h63 hbytes hbase fun v' w' h2 h3 h4 h5 => hK _ _ (h v' w' h2 h3 h4 h5)
end

/-- The cells of paths, one behind the other. -/
def lays (L : List (List M.Cl)) : List M.Cl := L.flatMap pathC
/-- Where they end, from a place on. -/
def ends : Nat → List (List M.Cl) → List Nat
  | _, [] => []
  | n, p :: L => (n + (p.length + 1)) :: ends (n + (p.length + 1)) L
theorem lays_append (L M : List (List M.Cl)) : lays (L ++ M) = lays L ++ lays M := by simp [lays]
theorem lays_cons (p : List M.Cl) (L : List (List M.Cl)) : lays (p :: L) = pathC p ++ lays L := rfl
theorem ends_append : ∀ (L M : List (List M.Cl)) (n : Nat), ends n (L ++ M) = ends n L ++ ends (n + (lays L).length) M
  | [], M, n => by simp [ends, lays]
  | p :: L, M, n => by
    rw [List.cons_append, ends, ends, ends_append L M, lays_cons, List.length_append, pathC_length, List.cons_append, Nat.add_assoc]
theorem ends_length : ∀ (L : List (List M.Cl)) (n : Nat), (ends n L).length = L.length
  | [], n => rfl
  | p :: L, n => by rw [ends, List.length_cons, ends_length L, List.length_cons]
theorem lays_le {L : List (List M.Cl)} {B : Nat} (h : ∀ p ∈ L, p.length ≤ B) : (lays L).length ≤ (B + 1) * L.length := by
  induction L with
  | nil => simp [lays]
  | cons p L ih =>
    have h1 := ih (fun q hq => h q (List.mem_cons_of_mem _ hq))
    have h2 := h p List.mem_cons_self
    rw [lays_cons, List.length_append, pathC_length, List.length_cons, Nat.mul_succ]
    omega
def natV (E : List Nat) : List Value := E.map fun (n : Nat) => Value.int .i64 n
/-- The program's list of paths: its struct, the cells that were laid, where the paths end. -/
structure Ls (base : Nat) (w : World) (PB : Nat) (C : List M.Cl) (E : List Nat) (cv ev : Value) : Prop where
  own : Own w PB 64 [cv, ev]
  cells : w.ownsRow base 43 5 cv C.length (flat C)
  ends : w.ownsRow base 3 1 ev E.length (natV E)
  lo : base ≤ PB
/-- What is kept: all but the struct, and the blocks of the three rows. -/
structure Fr (w w' : World) (PB : Nat) (cv ev sv : Value) : Prop where
  os : w'.os = w.os
  tape : w'.tape = w.tape
  output : w'.output = w.output
  size : w.heap.size ≤ w'.heap.size
  block : ∀ k, k < w.heap.size → k ≠ PB → some k ≠ cv.ownBlock → some k ≠ ev.ownBlock → some k ≠ sv.ownBlock → w'.heap[k]? = w.heap[k]?
/-- A row lies where the old one lies, or in a new block. -/
def Nw (w : World) (x x' : Value) : Prop := x'.ownBlock = x.ownBlock ∨ ∀ g, x'.ownBlock = some g → w.heap.size ≤ g
theorem Nw.refl (w : World) (x : Value) : Nw w x x := .inl rfl
theorem Nw.trans {w w1 : World} {x y z : Value} (h : Nw w x y) (k : Nw w1 y z) (hs : w.heap.size ≤ w1.heap.size) : Nw w x z := by
  rcases k with k | k
  · rcases h with h | h
    · exact .inl (k.trans h)
    · exact .inr (fun g hg => h g (by rw [← k]; exact hg))
  · exact .inr (fun g hg => Nat.le_trans hs (k g hg))
def Dis (x y : Value) : Prop := ∀ g, x.ownBlock = some g → y.ownBlock ≠ some g
theorem Dis.new {w : World} {base n s : Nat} {e : TypeId} {x x' y : Value} {ys : List Value} (h : Dis x y) (hn : Nw w x x') (hy : w.ownsRow base e s y n ys) : Dis x' y := by
  intro g hg hg'
  rcases hn with hn | hn
  · exact h g (by rw [← hn]; exact hg) hg'
  · have := hn g hg
    have := (World.ownsRow.lt hy g hg').2
    omega
/-- What laying paths does. -/
structure Laid' (base : Nat) (w w' : World) (PB : Nat) (C : List M.Cl) (E : List Nat) (cv ev sv : Value) (ahead : List M.Cl) (L : List (List M.Cl)) (cv' ev' : Value) : Prop where
  ls : Ls base w' PB (C ++ lays L) (E ++ ends C.length L) cv' ev'
  st : w'.ownsRow base 43 5 sv ahead.length (flat ahead)
  fr : Fr w w' PB cv ev sv
  nc : Nw w cv cv'
  ne : Nw w ev ev'
def LaidP (base : Nat) (w : World) (PB : Nat) (C : List M.Cl) (E : List Nat) (cv ev sv : Value) (ahead : List M.Cl) (L : List (List M.Cl)) (w' : World) : Prop := ∃ cv' ev', Laid' base w w' PB C E cv ev sv ahead L cv' ev'
theorem Laid'.start {base : Nat} {w : World} {PB : Nat} {C : List M.Cl} {E : List Nat} {cv ev sv : Value} {ahead : List M.Cl} (h : Ls base w PB C E cv ev) (hs : w.ownsRow base 43 5 sv ahead.length (flat ahead)) : Laid' base w w PB C E cv ev sv ahead [] cv ev :=
  ⟨by simpa [lays, ends] using h, hs, ⟨rfl, rfl, rfl, Nat.le_refl _, fun _ _ _ _ _ _ => rfl⟩, .refl _ _, .refl _ _⟩
/-- The frame keeps what lies below the base, and what is of another type. -/
theorem Fr.low {base : Nat} {w w' : World} {PB : Nat} {C : List M.Cl} {E : List Nat} {cv ev sv : Value} {ahead : List M.Cl} (h : Fr w w' PB cv ev sv) (hl : Ls base w PB C E cv ev) (hs : w.ownsRow base 43 5 sv ahead.length (flat ahead)) (hb : base ≤ w.heap.size) : Below base w w' :=
  ⟨h.os, h.tape, h.output, h.size, fun k hk => h.block k (by omega) (by have := hl.lo; omega) (fun e => by have := ownsRow_base hl.cells k e.symm; omega) (fun e => by have := ownsRow_base hl.ends k e.symm; omega) (fun e => by have := ownsRow_base hs k e.symm; omega)⟩
theorem Fr.other {base : Nat} {w w' : World} {PB : Nat} {C : List M.Cl} {E : List Nat} {cv ev sv : Value} {ahead : List M.Cl} (h : Fr w w' PB cv ev sv) (hl : Ls base w PB C E cv ev) (hs : w.ownsRow base 43 5 sv ahead.length (flat ahead)) {c : Nat} {t : TypeId} {xs : List Value} (ho : Own w c t xs) (h1 : t ≠ 64) (h2 : 43 ≠ t) (h3 : 3 ≠ t) : Own w' c t xs := by
  have hlt := ho.lt
  have n1 := other_block hl.cells ho h2
  have n2 := other_block hl.ends ho h3
  have n3 := other_block hs ho h2
  have n4 : c ≠ PB := by
    rintro rfl
    obtain ⟨a, a1, _⟩ := ho
    obtain ⟨b, b1, _⟩ := hl.own
    rw [a1] at b1
    simp only [Option.some.injEq, Obj.cells.injEq] at b1
    exact h1 b1.2.1
  obtain ⟨a, a1, a2⟩ := ho
  exact ⟨a, (h.block c hlt n4 (Ne.symm n1) (Ne.symm n2) (Ne.symm n3)).trans a1, a2⟩
/-- What a call that lays nothing does to the ledger: nothing. -/
theorem Laid'.below {base : Nat} {w w1 w2 : World} {PB : Nat} {C : List M.Cl} {E : List Nat} {cv ev sv : Value} {ahead : List M.Cl} {L : List (List M.Cl)} {cv' ev' : Value} (h : Laid' base w w1 PB C E cv ev sv ahead L cv' ev') (hb : Below w1.heap.size w1 w2) : Laid' base w w2 PB C E cv ev sv ahead L cv' ev' :=
  ⟨⟨h.ls.own.below hb h.ls.own.lt, row_below h.ls.cells hb, row_below h.ls.ends hb, h.ls.lo⟩, row_below h.st hb,
   ⟨hb.os.trans h.fr.os, hb.tape.trans h.fr.tape, hb.output.trans h.fr.output, Nat.le_trans h.fr.size hb.size, fun k hk a b c d => (hb.block k (Nat.lt_of_lt_of_le hk h.fr.size)).trans (h.fr.block k hk a b c d)⟩, h.nc, h.ne⟩
/-- A row that is neither the struct nor one of the rows of the list is kept when the steps grow by one; then what lies behind is laid. -/
theorem Laid'.child {base : Nat} {w w1 w2 : World} {PB : Nat} {C : List M.Cl} {E : List Nat} {cv ev sv : Value} {ahead : List M.Cl} {L : List (List M.Cl)} {cv' ev' sv1 : Value} {c : M.Cl}
    (h : Laid' base w w1 PB C E cv ev sv ahead L cv' ev') (hs : w.ownsRow base 43 5 sv ahead.length (flat ahead)) (hl : Ls base w PB C E cv ev) (hd : Dis cv sv) (hbw : base ≤ w.heap.size)
    (ho1 : w2.ownsRow base 43 5 sv1 (ahead.length + 1) (flat (ahead ++ [c]))) (ho0 : w2.ownsRow base 43 5 sv ahead.length (flat ahead)) (hg : w1.grownBy w2 sv.ownBlock)
    (hcase : (∃ g cap, sv = .slice (some ⟨g, 0, none⟩) ahead.length cap ∧ sv1 = .slice (some ⟨g, 0, none⟩) (ahead.length + 1) cap) ∨ ((∀ g, sv1.ownBlock = some g → w1.heap.size ≤ g) ∧ w1.grownBy w2 none)) :
    Ls base w2 PB (C ++ lays L) (E ++ ends C.length L) cv' ev' ∧ Dis cv' sv1 ∧
    (∀ (w3 : World) (cv3 ev3 : Value) (M' : List (List M.Cl)), Laid' base w2 w3 PB (C ++ lays L) (E ++ ends C.length L) cv' ev' sv1 (ahead ++ [c]) M' cv3 ev3 → Laid' base w w3 PB C E cv ev sv ahead (L ++ M') cv3 ev3) := by
  have hdis : Dis cv' sv := Dis.new hd h.nc hs
  have hcl : ∀ g, cv'.ownBlock = some g → g < w1.heap.size := fun g hg => (World.ownsRow.lt h.ls.cells g hg).2
  have hel : ∀ g, ev'.ownBlock = some g → g < w1.heap.size := fun g hg => (World.ownsRow.lt h.ls.ends g hg).2
  have hsl : ∀ g, sv.ownBlock = some g → g < w.heap.size := fun g hg => (World.ownsRow.lt hs g hg).2
  have hpb : PB < w1.heap.size := h.ls.own.lt
  have hsP : sv.ownBlock ≠ some PB := other_block h.st h.ls.own (by decide)
  have ho2 : Own w2 PB 64 [cv', ev'] := grown_own hg h.ls.own hsP
  have hcells2 : w2.ownsRow base 43 5 cv' (C ++ lays L).length (flat (C ++ lays L)) := by
    obtain ⟨q1, q2 | ⟨g, cap, cur, e1, q3, q4, q5⟩⟩ := h.ls.cells
    · exact ⟨q1, .inl q2⟩
    · exact ⟨q1, .inr ⟨g, cap, cur, e1, q3, (hg.block g (Array.getElem?_eq_some_iff.1 q4).1 (fun e => hdis g (by rw [e1]; rfl) e.symm)).trans q4, q5⟩⟩
  have hends2 : w2.ownsRow base 3 1 ev' (E ++ ends C.length L).length (natV (E ++ ends C.length L)) := by
    obtain ⟨q1, q2 | ⟨g, cap, cur, e1, q3, q4, q5⟩⟩ := h.ls.ends
    · exact ⟨q1, .inl q2⟩
    · have hne : sv.ownBlock ≠ some g := other_block h.st (b := g) (t := 3) (ys := cur.toList) ⟨cur, q4, rfl⟩ (by decide)
      exact ⟨q1, .inr ⟨g, cap, cur, e1, q3, (hg.block g (Array.getElem?_eq_some_iff.1 q4).1 (fun e => hne e.symm)).trans q4, q5⟩⟩
  have hd1 : Dis cv' sv1 := by
    intro g hg1 hg2
    rcases hcase with ⟨g', cap, e1, e2⟩ | ⟨hn, _⟩
    · rw [e2] at hg2; cases hg2
      exact hdis g' hg1 (by rw [e1]; rfl)
    · have := hn g hg2; have := hcl g hg1; omega
  refine ⟨⟨ho2, hcells2, hends2, hl.lo⟩, hd1, fun w3 cv3 ev3 M' k => ?_⟩
  have hLL : C ++ lays (L ++ M') = C ++ lays L ++ lays M' := by rw [lays_append, List.append_assoc]
  have hEE : E ++ ends C.length (L ++ M') = E ++ ends C.length L ++ ends (C ++ lays L).length M' := by rw [ends_append, List.append_assoc, List.length_append]
  have hs12 := hg.size
  refine ⟨by rw [hLL, hEE]; exact k.ls, ?_, ⟨(k.fr.os.trans hg.os).trans h.fr.os, (k.fr.tape.trans hg.tape).trans h.fr.tape, (k.fr.output.trans hg.output).trans h.fr.output, Nat.le_trans h.fr.size (Nat.le_trans hg.size k.fr.size), fun j hj a1 a2 a3 a4 => ?_⟩, h.nc.trans k.nc (Nat.le_trans h.fr.size hg.size), h.ne.trans k.ne (Nat.le_trans h.fr.size hg.size)⟩
  · rcases hcase with ⟨g', cap, e1, e2⟩ | ⟨hn, _⟩
    · have h5 := k.st
      rw [e2, flat_append, List.length_append] at h5
      rw [e1]
      exact owns_prefix (m := 1) h5 (by rw [flat_length])
    · obtain ⟨q1, q2 | ⟨g, cap, cur, e1, q3, q4, q5⟩⟩ := ho0
      · exact ⟨q1, .inl q2⟩
      · have hgl : g < w.heap.size := hsl g (by rw [e1]; rfl)
        have hw1 := h.fr.size
        refine ⟨q1, .inr ⟨g, cap, cur, e1, q3, (k.fr.block g (Array.getElem?_eq_some_iff.1 q4).1 (fun e => hsP (by rw [e1, e]; rfl)) (fun e => hdis g e.symm (by rw [e1]; rfl)) (fun e => ?_) (fun e => by have := hn g e.symm; omega)).trans q4, q5⟩⟩
        exact absurd e.symm (other_block hends2 (b := g) (t := 43) (ys := cur.toList) ⟨cur, q4, rfl⟩ (by decide))
  · have hw1 := h.fr.size
    refine ((k.fr.block j (by omega) a1 (fun e => ?_) (fun e => ?_) (fun e => ?_)).trans (hg.block j (by omega) (fun e => a4 e))).trans (h.fr.block j hj a1 a2 a3 a4)
    · rcases h.nc with q | q
      · exact a2 (by rw [← q]; exact e)
      · have := q j e.symm; omega
    · rcases h.ne with q | q
      · exact a3 (by rw [← q]; exact e)
      · have := q j e.symm; omega
    · rcases hcase with ⟨g', cap, e1, e2⟩ | ⟨hn, _⟩
      · rw [e2] at e; cases e
        exact a4 (by rw [e1]; rfl)
      · have := hn j e.symm; omega
/-- What was made ahead of it lies apart. -/
theorem Laid'.pre {base : Nat} {w w1 w2 : World} {PB : Nat} {C : List M.Cl} {E : List Nat} {cv ev sv : Value} {ahead : List M.Cl} {L : List (List M.Cl)} {cv' ev' : Value} (hb : Below w.heap.size w w1) (h : Laid' base w1 w2 PB C E cv ev sv ahead L cv' ev') : Laid' base w w2 PB C E cv ev sv ahead L cv' ev' :=
  ⟨h.ls, h.st, ⟨h.fr.os.trans hb.os, h.fr.tape.trans hb.tape, h.fr.output.trans hb.output, Nat.le_trans hb.size h.fr.size, fun k hk a1 a2 a3 a4 => (h.fr.block k (Nat.lt_of_lt_of_le hk hb.size) a1 a2 a3 a4).trans (hb.block k hk)⟩,
   h.nc.imp id (fun q g hg => Nat.le_trans hb.size (q g hg)), h.ne.imp id (fun q g hg => Nat.le_trans hb.size (q g hg))⟩
theorem Ls.below {base : Nat} {w w' : World} {PB : Nat} {C : List M.Cl} {E : List Nat} {cv ev : Value} (h : Ls base w PB C E cv ev) (hb : Below w.heap.size w w') : Ls base w' PB C E cv ev := ⟨h.own.below hb h.own.lt, row_below h.cells hb, row_below h.ends hb, h.lo⟩
/-- A cell that was just laid, as an append reads it. -/
theorem one_words (w : World) (c : M.Cl) : ∀ j u, (flat [c])[j]? = some u → (w.alloc (.cells #[.int .i64 c.kind, .int .i64 c.num, .string c.text, .string c.key, .int .i64 c.n] 43)).cell? ((⟨w.heap.size, 0, none⟩ : Addr).add j) = some u := by
  obtain ⟨_, ⟨h, _⟩ | ⟨b', cap, e, _, _, ho⟩⟩ := one_cell w w.heap.size w.heap.size c rfl (Nat.le_refl _)
  · cases h
  · cases e
    exact row_words ho.row
end Al
end Go.Proofs.YtfcglmkbfdfaeaaDoor
