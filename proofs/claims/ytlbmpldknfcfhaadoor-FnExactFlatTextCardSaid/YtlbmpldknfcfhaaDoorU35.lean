/-
  The program's list of paths, as it lies in memory: what is laid, where it ends, and what of memory is kept while paths are laid.
  impl.layPath, impl.lay, impl.stepTo.
  impl.stepTo, the closures that say which paths are wanted, and how much is laid.
  impl.layFrom: the paths of a value and of all in it are laid.
-/
import Derived.Test.YtlbmpldknfcfhaaDoorU34
import Derived.ArgAppend
import Derived.Deep.DeepAppendRoom
import Derived.Maps.AppendAt
namespace Go.Proofs.YtlbmpldknfcfhaaDoor
open Go.RowKit
set_option linter.unusedVariables false
set_option linter.unusedSimpArgs false
namespace Al
/-- The first of what an owned row holds, as a shorter slice of it. -/
theorem owns_prefix {w : World} {base g cap n m size : Nat} {e : TypeId} {xs ys : List Value} (h : w.ownsRow base e size (.slice (some ⟨g, 0, none⟩) (n + m) cap) (n + m) (xs ++ ys)) (hx : xs.length = n * size) : w.ownsRow base e size (.slice (some ⟨g, 0, none⟩) n cap) n xs := by
  obtain ⟨h1, ⟨h2, _⟩ | ⟨g', cap', cur, e1, h3, h4, h5, h6, h7, h8⟩⟩ := h
  · cases h2
  · cases e1
    refine ⟨hx, .inr ⟨g, cap, cur, rfl, h3, h4, by omega, h6, h7, ?_⟩⟩
    have e2 : cur.toList.take (n * size) = (cur.toList.take ((n + m) * size)).take (n * size) := by
      rw [List.take_take, Nat.min_eq_left (Nat.mul_le_mul_right size (Nat.le_add_right n m))]
    rw [e2, h8, ← hx, List.take_left]
theorem ownsMono {w : World} {B B' : Nat} {e : TypeId} {k : Nat} {v : Value} {n : Nat} {xs : List Value} (h : w.ownsRow B e k v n xs) (hB : B' ≤ B) : w.ownsRow B' e k v n xs := by
  obtain ⟨h1, h2 | ⟨g, cap, cur, q1, q2, q3⟩⟩ := h
  · exact ⟨h1, .inl h2⟩
  · exact ⟨h1, .inr ⟨g, cap, cur, q1, Nat.le_trans hB q2, q3⟩⟩
section
variable {P : Program}
/-- An append to a row of the call's own: the old slice still holds what it held. -/
theorem run_app (w : World) (base : Nat) (t ty e : TypeId) (i : TypeInfo) (z : Value) (size bytes : Nat) (ht : P.underlying t = some (.slice e)) (hi : P.info? e = some i) (hz : i.zero = some z)
    (hsize : i.size = size) (hby : i.bytes = bytes) (hzs : z.cells.size = size) (hsz : 0 < size)
    (v : Value) (n : Nat) (xs : List Value) (hown : w.ownsRow base e size v n xs)
    (a : Addr) (m c : Nat) (news : List Value) (hl : news.length = m * size) (hnews : ∀ j u, news[j]? = some u → w.cell? (a.add j) = some u) (h1 : ∀ u ∈ news, u.oneCell' = true)
    (h63 : n + m ≤ maxLen) (hbytes : (n + m) * bytes ≤ 140737488355328) (hbase : base ≤ w.heap.size) :
    ∃ v' w', (Builtin.append_ #[t, t] ty #[v, .slice (some a) m c]).run P w = .ok v' w' ∧ w'.ownsRow base e size v' (n + m) (xs ++ news) ∧ w'.ownsRow base e size v n xs ∧ w.grownBy w' v.ownBlock ∧
      ((∃ g cap, v = .slice (some ⟨g, 0, none⟩) n cap ∧ v' = .slice (some ⟨g, 0, none⟩) (n + m) cap) ∨ ((∀ g, v'.ownBlock = some g → w.heap.size ≤ g) ∧ w.grownBy w' none)) := by
  have hxl := hown.1
  rcases hown.2 with ⟨rfl, h0⟩ | ⟨g, cap, cur, rfl, q1, q2, q3, q4, q5, q6⟩
  · obtain ⟨v', w', r1, r2, r3, _, r5⟩ := run_append_own_at (P := P) (w := w) base t ty e i z size bytes ht hi hz hsize hby hzs hsz _ n xs hown a m c news hl hnews h1 h63 hbytes hbase
    refine ⟨v', w', r1, r2, ⟨hxl, .inl ⟨rfl, h0⟩⟩, r3, .inr ⟨fun g hg => ?_, r3⟩⟩
    rcases r5 with r5 | r5
    · rw [r5] at hg; cases hg
    · rw [r5] at hg; cases hg; exact Nat.le_refl _
  · by_cases hr : n + m ≤ cap
    · obtain ⟨w', r1, r2, r3⟩ := run_append_own_spare (P := P) (w := w) base t ty e i size ht hi hsize g n cap xs hown a m c news hl hnews h1 hr
      exact ⟨_, w', r1, r2, owns_prefix r2 hxl, r3, .inl ⟨g, cap, rfl, rfl⟩⟩
    · have holds : ∀ j u, xs[j]? = some u → w.cell? ((⟨g, 0, none⟩ : Addr).add j) = some u := fun j u hu => by
        have hj : j < n * size := by rw [← hxl]; exact (List.getElem?_eq_some_iff.1 hu).1
        rw [Go.WideShapes.add_plain, Nat.zero_add, cell_in q2, ← hu, ← q6, List.getElem?_take_of_lt hj]
      obtain ⟨v', w', r1, r2, r3⟩ := run_append_arg_grows (P := P) (w := w) t ty e i z size bytes ht hi hz hsize hby hzs hsz ⟨g, 0, none⟩ n cap xs hxl holds a m c news hl hnews (by omega) h63 hbytes
      refine ⟨v', w', r1, ownsMono r2 hbase, ⟨hxl, .inr ⟨g, cap, cur, rfl, q1, (r3.block g (Array.getElem?_eq_some_iff.1 q2).1 (by simp)).trans q2, q3, q4, q5, q6⟩⟩, ⟨r3.os, r3.tape, r3.output, r3.size, fun k hk _ => r3.block k hk (by simp)⟩, .inr ⟨fun g' hg' => ownsRow_base r2 g' hg', r3⟩⟩
/-- An append of a row that lies somewhere, or of nil, whatever the size of its elements. -/
theorem run_rowN (w : World) (t ty e : TypeId) (i : TypeInfo) (z : Value) (size bytes : Nat) (ht : P.underlying t = some (.slice e)) (hi : P.info? e = some i) (hz : i.zero = some z) (hsize : i.size = size) (hby : i.bytes = bytes) (hzs : z.cells.size = size) (hsz : 0 < size)
    (base : Nat) (v : Value) (n : Nat) (xs : List Value) (hown : w.ownsRow base e size v n xs) (x : Value) (m : Nat) (ys : List Value) (hm : ys.length = m * size)
    (hx : (x = .slice none 0 0 ∧ ys = []) ∨ ∃ ad c, x = .slice (some ad) m c ∧ ∀ j u, ys[j]? = some u → w.cell? (ad.add j) = some u) (h1 : ∀ u ∈ ys, u.oneCell' = true)
    (h63 : n + m ≤ maxLen) (hbytes : (n + m) * bytes ≤ 140737488355328) (hbase : base ≤ w.heap.size) :
    ∃ v' w', (Builtin.append_ #[t, t] ty #[v, x]).run P w = .ok v' w' ∧ w'.ownsRow base e size v' (n + m) (xs ++ ys) ∧ w.grownBy w' v.ownBlock ∧ (v'.ownBlock = v.ownBlock ∨ ∀ g, v'.ownBlock = some g → w.heap.size ≤ g) := by
  rcases hx with ⟨rfl, rfl⟩ | ⟨ad, c, rfl, hc⟩
  · have hm0 : m = 0 := by
      rcases Nat.eq_zero_or_pos m with h | h
      · exact h
      · have := Nat.mul_pos h hsz; simp at hm; omega
    subst hm0
    subst hsize
    exact ⟨v, w, run_append_owned_none (P := P) (w := w) base t ty e i i.size ht hi v n xs hown, by simpa using hown, ⟨rfl, rfl, rfl, Nat.le_refl _, fun _ _ _ => rfl⟩, .inl rfl⟩
  · obtain ⟨v', w', hr, h2, h3, _, h5⟩ := run_append_own_at (P := P) (w := w) base t ty e i z size bytes ht hi hz hsize hby hzs hsz v n xs hown ad m c ys hm hc h1 h63 hbytes hbase
    refine ⟨v', w', hr, h2, h3, h5.imp id fun h g hg => ?_⟩
    rw [h] at hg; cases hg; exact Nat.le_refl _
theorem wp_rowN (w : World) {o : Oper} {a : Act} {K : Act → World → Prop} {Q : Exit → Act → World → Prop} (s x : Operand) (t : TypeId) (ho : o.op = .call { callee := .builtin .append, args := #[s, x], argTypes := #[t, t] })
    (e : TypeId) (i : TypeInfo) (z : Value) (size bytes : Nat) (ht : P.underlying t = some (.slice e)) (hi : P.info? e = some i) (hz : i.zero = some z) (hsize : i.size = size) (hby : i.bytes = bytes) (hzs : z.cells.size = size) (hsz : 0 < size)
    (base : Nat) (v : Value) (n : Nat) (xs : List Value) (hs : a.eval s = v) (hown : w.ownsRow base e size v n xs) (xv : Value) (hxv : a.eval x = xv) (m : Nat) (ys : List Value) (hm : ys.length = m * size)
    (hx : (xv = .slice none 0 0 ∧ ys = []) ∨ ∃ ad c, xv = .slice (some ad) m c ∧ ∀ j u, ys[j]? = some u → w.cell? (ad.add j) = some u) (h1 : ∀ u ∈ ys, u.oneCell' = true)
    (h63 : n + m ≤ maxLen) (hbytes : (n + m) * bytes ≤ 140737488355328) (hbase : base ≤ w.heap.size)
    (h : ∀ v' w', w'.ownsRow base e size v' (n + m) (xs ++ ys) → w.grownBy w' v.ownBlock → (v'.ownBlock = v.ownBlock ∨ ∀ g, v'.ownBlock = some g → w.heap.size ≤ g) → K (a.put o.dst v') w') : Oper.wp P o a w K Q := by
  obtain ⟨v', w', hr, h2, h3, h4⟩ := run_rowN (P := P) w t o.type e i z size bytes ht hi hz hsize hby hzs hsz base v n xs hown xv m ys hm hx h1 h63 hbytes hbase
  unfold Oper.wp execOp
  simp only [ho, resolve, invoke, builtin, Sem.run_bind, Sem.run_pure, Result.andThen_ok, List.map_toArray, List.map_cons, List.map_nil, hs, hxv, hr]
  exact h v' w' h2 h3 h4
theorem wp_app (w : World) {o : Oper} {a : Act} {K : Act → World → Prop} {Q : Exit → Act → World → Prop} (s x : Operand) (t : TypeId) (ho : o.op = .call { callee := .builtin .append, args := #[s, x], argTypes := #[t, t] })
    (e : TypeId) (i : TypeInfo) (z : Value) (size bytes : Nat) (ht : P.underlying t = some (.slice e)) (hi : P.info? e = some i) (hz : i.zero = some z) (hsize : i.size = size) (hby : i.bytes = bytes) (hzs : z.cells.size = size) (hsz : 0 < size)
    (base : Nat) (v : Value) (n : Nat) (xs : List Value) (hs : a.eval s = v) (hown : w.ownsRow base e size v n xs) (ad : Addr) (m c : Nat) (hxv : a.eval x = .slice (some ad) m c) (news : List Value) (hl : news.length = m * size)
    (hnews : ∀ j u, news[j]? = some u → w.cell? (ad.add j) = some u) (h1 : ∀ u ∈ news, u.oneCell' = true)
    (h63 : n + m ≤ maxLen) (hbytes : (n + m) * bytes ≤ 140737488355328) (hbase : base ≤ w.heap.size)
    (h : ∀ v' w', w'.ownsRow base e size v' (n + m) (xs ++ news) → w'.ownsRow base e size v n xs → w.grownBy w' v.ownBlock → ((∃ g cap, v = .slice (some ⟨g, 0, none⟩) n cap ∧ v' = .slice (some ⟨g, 0, none⟩) (n + m) cap) ∨ ((∀ g, v'.ownBlock = some g → w.heap.size ≤ g) ∧ w.grownBy w' none)) → K (a.put o.dst v') w') : Oper.wp P o a w K Q := by
  obtain ⟨v', w', hr, h2, h3, h4, h5⟩ := run_app (P := P) w base t o.type e i z size bytes ht hi hz hsize hby hzs hsz v n xs hown ad m c news hl hnews h1 h63 hbytes hbase
  unfold Oper.wp execOp
  simp only [ho, resolve, invoke, builtin, Sem.run_bind, Sem.run_pure, Result.andThen_ok, List.map_toArray, List.map_cons, List.map_nil, hs, hxv, hr]
  exact h v' w' h2 h3 h4 h5
theorem wpList_rowN {w : World} {ops : Array Oper} {rest : List Oper} {o : Oper} {a : Act} {Q : Exit → Act → World → Prop} (hgd : o.guard = none) (s x : Operand) (t : TypeId) (ho : o.op = .call { callee := .builtin .append, args := #[s, x], argTypes := #[t, t] })
    (e : TypeId) (i : TypeInfo) (z : Value) (size bytes : Nat) (ht : P.underlying t = some (.slice e)) (hi : P.info? e = some i) (hz : i.zero = some z) (hsize : i.size = size) (hby : i.bytes = bytes) (hzs : z.cells.size = size) (hsz : 0 < size)
    (base : Nat) (v : Value) (n : Nat) (xs : List Value) (hs : a.eval s = v) (hown : w.ownsRow base e size v n xs) (xv : Value) (hxv : a.eval x = xv) (m : Nat) (ys : List Value) (hm : ys.length = m * size)
    (hx : (xv = .slice none 0 0 ∧ ys = []) ∨ ∃ ad c, xv = .slice (some ad) m c ∧ ∀ j u, ys[j]? = some u → w.cell? (ad.add j) = some u) (h1 : ∀ u ∈ ys, u.oneCell' = true)
    (h63 : n + m ≤ maxLen) (hbytes : (n + m) * bytes ≤ 140737488355328) (hbase : base ≤ w.heap.size)
    (h : ∀ v' w', w'.ownsRow base e size v' (n + m) (xs ++ ys) → w.grownBy w' v.ownBlock → (v'.ownBlock = v.ownBlock ∨ ∀ g, v'.ownBlock = some g → w.heap.size ≤ g) → wpList P ops Q rest (a.put o.dst v') w') : wpList P ops Q (o :: rest) a w := by
  refine wpList_plain hgd fun K hK => ?_
  exact wp_rowN w s x t ho e i z size bytes ht hi hz hsize hby hzs hsz base v n xs hs hown xv hxv m ys hm hx h1 h63 hbytes hbase fun v' w' h2 h3 h4 => hK _ _ (h v' w' h2 h3 h4)
theorem wpList_app {w : World} {ops : Array Oper} {rest : List Oper} {o : Oper} {a : Act} {Q : Exit → Act → World → Prop} (hgd : o.guard = none) (s x : Operand) (t : TypeId) (ho : o.op = .call { callee := .builtin .append, args := #[s, x], argTypes := #[t, t] })
    (e : TypeId) (i : TypeInfo) (z : Value) (size bytes : Nat) (ht : P.underlying t = some (.slice e)) (hi : P.info? e = some i) (hz : i.zero = some z) (hsize : i.size = size) (hby : i.bytes = bytes) (hzs : z.cells.size = size) (hsz : 0 < size)
    (base : Nat) (v : Value) (n : Nat) (xs : List Value) (hs : a.eval s = v) (hown : w.ownsRow base e size v n xs) (ad : Addr) (m c : Nat) (hxv : a.eval x = .slice (some ad) m c) (news : List Value) (hl : news.length = m * size)
    (hnews : ∀ j u, news[j]? = some u → w.cell? (ad.add j) = some u) (h1 : ∀ u ∈ news, u.oneCell' = true)
    (h63 : n + m ≤ maxLen) (hbytes : (n + m) * bytes ≤ 140737488355328) (hbase : base ≤ w.heap.size)
    (h : ∀ v' w', w'.ownsRow base e size v' (n + m) (xs ++ news) → w'.ownsRow base e size v n xs → w.grownBy w' v.ownBlock → ((∃ g cap, v = .slice (some ⟨g, 0, none⟩) n cap ∧ v' = .slice (some ⟨g, 0, none⟩) (n + m) cap) ∨ ((∀ g, v'.ownBlock = some g → w.heap.size ≤ g) ∧ w.grownBy w' none)) → wpList P ops Q rest (a.put o.dst v') w') : wpList P ops Q (o :: rest) a w := by
  refine wpList_plain hgd fun K hK => ?_
  exact wp_app w s x t ho e i z size bytes ht hi hz hsize hby hzs hsz base v n xs hs hown ad m c hxv news hl hnews h1 h63 hbytes hbase fun v' w' h2 h3 h4 h5 => hK _ _ (h v' w' h2 h3 h4 h5)
end

/-- The cells of paths, one behind the other. -/
def lays (L : List (List M.Cl)) : List M.Cl := L.flatMap pathC
/-- Where they end, from a place on. -/
def ends : Nat → List (List M.Cl) → List Nat
  | _, [] => []
  | n, p :: L => (n + (p.length + 1)) :: ends (n + (p.length + 1)) L
theorem lays_append (L M : List (List M.Cl)) : lays (L ++ M) = lays L ++ lays M := by simp [lays]
theorem lays_cons (p : List M.Cl) (L : List (List M.Cl)) : lays (p :: L) = pathC p ++ lays L := rfl
theorem ends_append : ∀ (L M : List (List M.Cl)) (n : Nat), ends n (L ++ M) = ends n L ++ ends (n + (lays L).length) M
  | [], M, n => by simp [ends, lays]
  | p :: L, M, n => by
    rw [List.cons_append, ends, ends, ends_append L M, lays_cons, List.length_append, pathC_length, List.cons_append, Nat.add_assoc]
theorem ends_length : ∀ (L : List (List M.Cl)) (n : Nat), (ends n L).length = L.length
  | [], n => rfl
  | p :: L, n => by rw [ends, List.length_cons, ends_length L, List.length_cons]
theorem lays_le {L : List (List M.Cl)} {B : Nat} (h : ∀ p ∈ L, p.length ≤ B) : (lays L).length ≤ (B + 1) * L.length := by
  induction L with
  | nil => simp [lays]
  | cons p L ih =>
    have h1 := ih (fun q hq => h q (List.mem_cons_of_mem _ hq))
    have h2 := h p List.mem_cons_self
    rw [lays_cons, List.length_append, pathC_length, List.length_cons, Nat.mul_succ]
    omega
def natV (E : List Nat) : List Value := E.map fun (n : Nat) => Value.int .i64 n
/-- The program's list of paths: its struct, the cells that were laid, where the paths end. -/
structure Ls (base : Nat) (w : World) (PB : Nat) (C : List M.Cl) (E : List Nat) (cv ev : Value) : Prop where
  own : Own w PB 95 [cv, ev]
  cells : w.ownsRow base 44 5 cv C.length (flat C)
  ends : w.ownsRow base 3 1 ev E.length (natV E)
  lo : base ≤ PB
/-- What is kept: all but the struct, and the blocks of the three rows. -/
structure Fr (w w' : World) (PB : Nat) (cv ev sv : Value) : Prop where
  os : w'.os = w.os
  tape : w'.tape = w.tape
  output : w'.output = w.output
  size : w.heap.size ≤ w'.heap.size
  block : ∀ k, k < w.heap.size → k ≠ PB → some k ≠ cv.ownBlock → some k ≠ ev.ownBlock → some k ≠ sv.ownBlock → w'.heap[k]? = w.heap[k]?
/-- A row lies where the old one lies, or in a new block. -/
def Nw (w : World) (x x' : Value) : Prop := x'.ownBlock = x.ownBlock ∨ ∀ g, x'.ownBlock = some g → w.heap.size ≤ g
theorem Nw.refl (w : World) (x : Value) : Nw w x x := .inl rfl
theorem Nw.trans {w w1 : World} {x y z : Value} (h : Nw w x y) (k : Nw w1 y z) (hs : w.heap.size ≤ w1.heap.size) : Nw w x z := by
  rcases k with k | k
  · rcases h with h | h
    · exact .inl (k.trans h)
    · exact .inr (fun g hg => h g (by rw [← k]; exact hg))
  · exact .inr (fun g hg => Nat.le_trans hs (k g hg))
def Dis (x y : Value) : Prop := ∀ g, x.ownBlock = some g → y.ownBlock ≠ some g
theorem Dis.new {w : World} {base n s : Nat} {e : TypeId} {x x' y : Value} {ys : List Value} (h : Dis x y) (hn : Nw w x x') (hy : w.ownsRow base e s y n ys) : Dis x' y := by
  intro g hg hg'
  rcases hn with hn | hn
  · exact h g (by rw [← hn]; exact hg) hg'
  · have := hn g hg
    have := (World.ownsRow.lt hy g hg').2
    omega
/-- What laying paths does. -/
structure Laid' (base : Nat) (w w' : World) (PB : Nat) (C : List M.Cl) (E : List Nat) (cv ev sv : Value) (ahead : List M.Cl) (L : List (List M.Cl)) (cv' ev' : Value) : Prop where
  ls : Ls base w' PB (C ++ lays L) (E ++ ends C.length L) cv' ev'
  st : w'.ownsRow base 44 5 sv ahead.length (flat ahead)
  fr : Fr w w' PB cv ev sv
  nc : Nw w cv cv'
  ne : Nw w ev ev'
def LaidP (base : Nat) (w : World) (PB : Nat) (C : List M.Cl) (E : List Nat) (cv ev sv : Value) (ahead : List M.Cl) (L : List (List M.Cl)) (w' : World) : Prop := ∃ cv' ev', Laid' base w w' PB C E cv ev sv ahead L cv' ev'
theorem Laid'.start {base : Nat} {w : World} {PB : Nat} {C : List M.Cl} {E : List Nat} {cv ev sv : Value} {ahead : List M.Cl} (h : Ls base w PB C E cv ev) (hs : w.ownsRow base 44 5 sv ahead.length (flat ahead)) : Laid' base w w PB C E cv ev sv ahead [] cv ev :=
  ⟨by simpa [lays, ends] using h, hs, ⟨rfl, rfl, rfl, Nat.le_refl _, fun _ _ _ _ _ _ => rfl⟩, .refl _ _, .refl _ _⟩
/-- The frame keeps what lies below the base, and what is of another type. -/
theorem Fr.low {base : Nat} {w w' : World} {PB : Nat} {C : List M.Cl} {E : List Nat} {cv ev sv : Value} {ahead : List M.Cl} (h : Fr w w' PB cv ev sv) (hl : Ls base w PB C E cv ev) (hs : w.ownsRow base 44 5 sv ahead.length (flat ahead)) (hb : base ≤ w.heap.size) : Below base w w' :=
  ⟨h.os, h.tape, h.output, h.size, fun k hk => h.block k (by omega) (by have := hl.lo; omega) (fun e => by have := ownsRow_base hl.cells k e.symm; omega) (fun e => by have := ownsRow_base hl.ends k e.symm; omega) (fun e => by have := ownsRow_base hs k e.symm; omega)⟩
theorem Fr.other {base : Nat} {w w' : World} {PB : Nat} {C : List M.Cl} {E : List Nat} {cv ev sv : Value} {ahead : List M.Cl} (h : Fr w w' PB cv ev sv) (hl : Ls base w PB C E cv ev) (hs : w.ownsRow base 44 5 sv ahead.length (flat ahead)) {c : Nat} {t : TypeId} {xs : List Value} (ho : Own w c t xs) (h1 : t ≠ 95) (h2 : 44 ≠ t) (h3 : 3 ≠ t) : Own w' c t xs := by
  have hlt := ho.lt
  have n1 := other_block hl.cells ho h2
  have n2 := other_block hl.ends ho h3
  have n3 := other_block hs ho h2
  have n4 : c ≠ PB := by
    rintro rfl
    obtain ⟨a, a1, _⟩ := ho
    obtain ⟨b, b1, _⟩ := hl.own
    rw [a1] at b1
    simp only [Option.some.injEq, Obj.cells.injEq] at b1
    exact h1 b1.2.1
  obtain ⟨a, a1, a2⟩ := ho
  exact ⟨a, (h.block c hlt n4 (Ne.symm n1) (Ne.symm n2) (Ne.symm n3)).trans a1, a2⟩
/-- What a call that lays nothing does to the ledger: nothing. -/
theorem Laid'.below {base : Nat} {w w1 w2 : World} {PB : Nat} {C : List M.Cl} {E : List Nat} {cv ev sv : Value} {ahead : List M.Cl} {L : List (List M.Cl)} {cv' ev' : Value} (h : Laid' base w w1 PB C E cv ev sv ahead L cv' ev') (hb : Below w1.heap.size w1 w2) : Laid' base w w2 PB C E cv ev sv ahead L cv' ev' :=
  ⟨⟨h.ls.own.below hb h.ls.own.lt, row_below h.ls.cells hb, row_below h.ls.ends hb, h.ls.lo⟩, row_below h.st hb,
   ⟨hb.os.trans h.fr.os, hb.tape.trans h.fr.tape, hb.output.trans h.fr.output, Nat.le_trans h.fr.size hb.size, fun k hk a b c d => (hb.block k (Nat.lt_of_lt_of_le hk h.fr.size)).trans (h.fr.block k hk a b c d)⟩, h.nc, h.ne⟩
/-- A row that is neither the struct nor one of the rows of the list is kept when the steps grow by one; then what lies behind is laid. -/
theorem Laid'.child {base : Nat} {w w1 w2 : World} {PB : Nat} {C : List M.Cl} {E : List Nat} {cv ev sv : Value} {ahead : List M.Cl} {L : List (List M.Cl)} {cv' ev' sv1 : Value} {c : M.Cl}
    (h : Laid' base w w1 PB C E cv ev sv ahead L cv' ev') (hs : w.ownsRow base 44 5 sv ahead.length (flat ahead)) (hl : Ls base w PB C E cv ev) (hd : Dis cv sv) (hbw : base ≤ w.heap.size)
    (ho1 : w2.ownsRow base 44 5 sv1 (ahead.length + 1) (flat (ahead ++ [c]))) (ho0 : w2.ownsRow base 44 5 sv ahead.length (flat ahead)) (hg : w1.grownBy w2 sv.ownBlock)
    (hcase : (∃ g cap, sv = .slice (some ⟨g, 0, none⟩) ahead.length cap ∧ sv1 = .slice (some ⟨g, 0, none⟩) (ahead.length + 1) cap) ∨ ((∀ g, sv1.ownBlock = some g → w1.heap.size ≤ g) ∧ w1.grownBy w2 none)) :
    Ls base w2 PB (C ++ lays L) (E ++ ends C.length L) cv' ev' ∧ Dis cv' sv1 ∧
    (∀ (w3 : World) (cv3 ev3 : Value) (M' : List (List M.Cl)), Laid' base w2 w3 PB (C ++ lays L) (E ++ ends C.length L) cv' ev' sv1 (ahead ++ [c]) M' cv3 ev3 → Laid' base w w3 PB C E cv ev sv ahead (L ++ M') cv3 ev3) := by
  have hdis : Dis cv' sv := Dis.new hd h.nc hs
  have hcl : ∀ g, cv'.ownBlock = some g → g < w1.heap.size := fun g hg => (World.ownsRow.lt h.ls.cells g hg).2
  have hel : ∀ g, ev'.ownBlock = some g → g < w1.heap.size := fun g hg => (World.ownsRow.lt h.ls.ends g hg).2
  have hsl : ∀ g, sv.ownBlock = some g → g < w.heap.size := fun g hg => (World.ownsRow.lt hs g hg).2
  have hpb : PB < w1.heap.size := h.ls.own.lt
  have hsP : sv.ownBlock ≠ some PB := other_block h.st h.ls.own (by decide)
  have ho2 : Own w2 PB 95 [cv', ev'] := grown_own hg h.ls.own hsP
  have hcells2 : w2.ownsRow base 44 5 cv' (C ++ lays L).length (flat (C ++ lays L)) := by
    obtain ⟨q1, q2 | ⟨g, cap, cur, e1, q3, q4, q5⟩⟩ := h.ls.cells
    · exact ⟨q1, .inl q2⟩
    · exact ⟨q1, .inr ⟨g, cap, cur, e1, q3, (hg.block g (Array.getElem?_eq_some_iff.1 q4).1 (fun e => hdis g (by rw [e1]; rfl) e.symm)).trans q4, q5⟩⟩
  have hends2 : w2.ownsRow base 3 1 ev' (E ++ ends C.length L).length (natV (E ++ ends C.length L)) := by
    obtain ⟨q1, q2 | ⟨g, cap, cur, e1, q3, q4, q5⟩⟩ := h.ls.ends
    · exact ⟨q1, .inl q2⟩
    · have hne : sv.ownBlock ≠ some g := other_block h.st (b := g) (t := 3) (ys := cur.toList) ⟨cur, q4, rfl⟩ (by decide)
      exact ⟨q1, .inr ⟨g, cap, cur, e1, q3, (hg.block g (Array.getElem?_eq_some_iff.1 q4).1 (fun e => hne e.symm)).trans q4, q5⟩⟩
  have hd1 : Dis cv' sv1 := by
    intro g hg1 hg2
    rcases hcase with ⟨g', cap, e1, e2⟩ | ⟨hn, _⟩
    · rw [e2] at hg2; cases hg2
      exact hdis g' hg1 (by rw [e1]; rfl)
    · have := hn g hg2; have := hcl g hg1; omega
  refine ⟨⟨ho2, hcells2, hends2, hl.lo⟩, hd1, fun w3 cv3 ev3 M' k => ?_⟩
  have hLL : C ++ lays (L ++ M') = C ++ lays L ++ lays M' := by rw [lays_append, List.append_assoc]
  have hEE : E ++ ends C.length (L ++ M') = E ++ ends C.length L ++ ends (C ++ lays L).length M' := by rw [ends_append, List.append_assoc, List.length_append]
  have hs12 := hg.size
  refine ⟨by rw [hLL, hEE]; exact k.ls, ?_, ⟨(k.fr.os.trans hg.os).trans h.fr.os, (k.fr.tape.trans hg.tape).trans h.fr.tape, (k.fr.output.trans hg.output).trans h.fr.output, Nat.le_trans h.fr.size (Nat.le_trans hg.size k.fr.size), fun j hj a1 a2 a3 a4 => ?_⟩, h.nc.trans k.nc (Nat.le_trans h.fr.size hg.size), h.ne.trans k.ne (Nat.le_trans h.fr.size hg.size)⟩
  · rcases hcase with ⟨g', cap, e1, e2⟩ | ⟨hn, _⟩
    · have h5 := k.st
      rw [e2, flat_append, List.length_append] at h5
      rw [e1]
      exact owns_prefix (m := 1) h5 (by rw [flat_length])
    · obtain ⟨q1, q2 | ⟨g, cap, cur, e1, q3, q4, q5⟩⟩ := ho0
      · exact ⟨q1, .inl q2⟩
      · have hgl : g < w.heap.size := hsl g (by rw [e1]; rfl)
        have hw1 := h.fr.size
        refine ⟨q1, .inr ⟨g, cap, cur, e1, q3, (k.fr.block g (Array.getElem?_eq_some_iff.1 q4).1 (fun e => hsP (by rw [e1, e]; rfl)) (fun e => hdis g e.symm (by rw [e1]; rfl)) (fun e => ?_) (fun e => by have := hn g e.symm; omega)).trans q4, q5⟩⟩
        exact absurd e.symm (other_block hends2 (b := g) (t := 44) (ys := cur.toList) ⟨cur, q4, rfl⟩ (by decide))
  · have hw1 := h.fr.size
    refine ((k.fr.block j (by omega) a1 (fun e => ?_) (fun e => ?_) (fun e => ?_)).trans (hg.block j (by omega) (fun e => a4 e))).trans (h.fr.block j hj a1 a2 a3 a4)
    · rcases h.nc with q | q
      · exact a2 (by rw [← q]; exact e)
      · have := q j e.symm; omega
    · rcases h.ne with q | q
      · exact a3 (by rw [← q]; exact e)
      · have := q j e.symm; omega
    · rcases hcase with ⟨g', cap, e1, e2⟩ | ⟨hn, _⟩
      · rw [e2] at e; cases e
        exact a4 (by rw [e1]; rfl)
      · have := hn j e.symm; omega
/-- What was made ahead of it lies apart. -/
theorem Laid'.pre {base : Nat} {w w1 w2 : World} {PB : Nat} {C : List M.Cl} {E : List Nat} {cv ev sv : Value} {ahead : List M.Cl} {L : List (List M.Cl)} {cv' ev' : Value} (hb : Below w.heap.size w w1) (h : Laid' base w1 w2 PB C E cv ev sv ahead L cv' ev') : Laid' base w w2 PB C E cv ev sv ahead L cv' ev' :=
  ⟨h.ls, h.st, ⟨h.fr.os.trans hb.os, h.fr.tape.trans hb.tape, h.fr.output.trans hb.output, Nat.le_trans hb.size h.fr.size, fun k hk a1 a2 a3 a4 => (h.fr.block k (Nat.lt_of_lt_of_le hk hb.size) a1 a2 a3 a4).trans (hb.block k hk)⟩,
   h.nc.imp id (fun q g hg => Nat.le_trans hb.size (q g hg)), h.ne.imp id (fun q g hg => Nat.le_trans hb.size (q g hg))⟩
theorem Ls.below {base : Nat} {w w' : World} {PB : Nat} {C : List M.Cl} {E : List Nat} {cv ev : Value} (h : Ls base w PB C E cv ev) (hb : Below w.heap.size w w') : Ls base w' PB C E cv ev := ⟨h.own.below hb h.own.lt, row_below h.cells hb, row_below h.ends hb, h.lo⟩
/-- A cell that was just laid, as an append reads it. -/
theorem one_words (w : World) (c : M.Cl) : ∀ j u, (flat [c])[j]? = some u → (w.alloc (.cells #[.int .i64 c.kind, .int .i64 c.num, .string c.text, .string c.key, .int .i64 c.n] 44)).cell? ((⟨w.heap.size, 0, none⟩ : Addr).add j) = some u := by
  obtain ⟨_, ⟨h, _⟩ | ⟨b', cap, e, _, _, ho⟩⟩ := one_cell w w.heap.size w.heap.size c rfl (Nat.le_refl _)
  · cases h
  · cases e
    exact row_words ho.row
end Al
end Go.Proofs.YtlbmpldknfcfhaaDoor

namespace Go.Proofs.YtlbmpldknfcfhaaDoor
open Go.RowKit
set_option linter.unusedVariables false
set_option linter.unusedSimpArgs false
namespace Al
theorem infoI : (Tryd.prog.info? 3).map (fun i => (i.zero, i.size, i.bytes)) = some (some (.int .i64 0), 1, 8) := by kernel_rfl
theorem row_len {w : World} {B : Nat} {t : TypeId} {s : Value} {n sz : Nat} {xs : List Value} (h : w.ownsRow B t sz s n xs) : ∃ a c, s = .slice a n c := by
  rcases h.2 with ⟨h2, h3⟩ | ⟨g', cap, cur, h2, h3, _⟩
  · exact ⟨none, 0, by rw [h3]; exact h2⟩
  · exact ⟨_, _, h2⟩
/-- What an append reads of a row. -/
theorem rowN_read {w : World} {B : Nat} {t : TypeId} {s : Value} {n sz : Nat} {xs : List Value} (h : w.ownsRow B t sz s n xs) (h0 : n = 0 → xs = []) : (s = .slice none 0 0 ∧ xs = []) ∨ ∃ ad c, s = .slice (some ad) n c ∧ ∀ j u, xs[j]? = some u → w.cell? (ad.add j) = some u := by
  have hl := h.1
  rcases h.2 with ⟨h2, h3⟩ | ⟨g, cap, cur, h2, h3, h4, h5, h6, h7, h8⟩
  · exact .inl ⟨h2, h0 h3⟩
  · refine .inr ⟨⟨g, 0, none⟩, cap, h2, fun j u hu => ?_⟩
    have hj : j < n * sz := by rw [← hl]; exact (List.getElem?_eq_some_iff.1 hu).1
    rw [Go.WideShapes.add_plain, Nat.zero_add, cell_in h4, ← hu, ← h8, List.getElem?_take_of_lt hj]
theorem flat_nil_of {l : List M.Cl} (h : l.length = 0) : flat l = [] := by rw [List.length_eq_zero_iff.1 h]; rfl

set_option maxHeartbeats 1000000 in
theorem layPath_any (sv : Value) (ahead : List M.Cl) (base : Nat) (w : World) (hs : w.ownsRow base 44 5 sv ahead.length (flat ahead)) (hn : ahead.length ≤ 1000) :
    Calls Tryd.prog 91 #[sv] w fun e w' => ∃ s, e = .returned s ∧ w'.ownsRow w.heap.size 44 5 s (ahead.length + 1) (flat (pathC ahead)) ∧ Below w.heap.size w w' := by
  obtain ⟨sa, sc, rfl⟩ := row_len hs
  obtain ⟨i0, hi, hz0, hz1, hz2⟩ := info_parts Tryd.info44
  obtain ⟨W0, hW0⟩ : ∃ W0, W0 = w.alloc (.cells #[.int .i64 5, .int .i64 0, .string { data := #[] }, .string { data := #[] }, .int .i64 ahead.length] 44) := ⟨_, rfl⟩
  have B0 : Below w.heap.size w W0 := by rw [hW0]; exact (Below.refl _ _).alloc (Nat.le_refl _) _
  have O0 := hide (show W0.ownsRow w.heap.size 44 5 (.slice (some ⟨w.heap.size, 0, none⟩) 1 1) 1 (flat [headCl 5 ahead.length]) by rw [hW0]; exact one_own w w.heap.size _ (headCl 5 ahead.length) rfl (Nat.le_refl _))
  have RD := hide (rowN_read (row_below hs B0) (fun h => flat_nil_of h))
  have HFL := hide (flat_length ahead)
  have hone := hide (flat_one ahead)
  have hb63 : 1 + ahead.length ≤ maxLen := by unfold maxLen; omega
  have hby : (1 + ahead.length) * 56 ≤ 140737488355328 := by omega
  have HPC := hide (show flat [headCl 5 ahead.length] ++ flat ahead = flat (pathC ahead) by rw [← flat_append]; rfl)
  have hbas := B0.size
  clear hs
  go_enter Tryd.func91, Tryd.ntmps91
  go_wp2_with (at_builtin; rw [← hW0]; refine wpList_rowN rfl (.tmp 6) (.tmp 7) 27 rfl 44 i0 _ 5 56 Tryd.underlying27 hi hz0 hz1 hz2 rfl (by decide) w.heap.size (.slice (some ⟨w.heap.size, 0, none⟩) 1 1) 1 _ rfl (unhide O0) (.slice sa ahead.length sc) rfl ahead.length (flat ahead) (unhide HFL) (unhide RD) (unhide hone) hb63 hby hbas ?_)
  intro v' w' ho hg _
  rw [← hW0] at hg
  rw [unhide HPC, Nat.add_comm] at ho
  have B1 : Below w.heap.size w w' := B0.grown hg hbas (fun q hq => by cases hq; exact Nat.le_refl _)
  have HO := hide ho
  obtain ⟨a, k, c, rfl⟩ := row_shape ho
  clear ho hg hW0 B0 O0 RD
  go_wp2_with fail
  go_ret
  exact ⟨_, rfl, unhide HO, B1⟩

/-- All but the struct and one row is kept. -/
structure Fk (w w' : World) (PB : Nat) (x : Value) : Prop where
  os : w'.os = w.os
  tape : w'.tape = w.tape
  output : w'.output = w.output
  size : w.heap.size ≤ w'.heap.size
  block : ∀ k, k < w.heap.size → k ≠ PB → some k ≠ x.ownBlock → w'.heap[k]? = w.heap[k]?
theorem Fk.row {w w' : World} {PB : Nat} {x : Value} (h : Fk w w' PB x) {B s n : Nat} {e : TypeId} {v : Value} {xs : List Value} (ho : w.ownsRow B e s v n xs) (h1 : v.ownBlock ≠ some PB) (h2 : Dis v x) : w'.ownsRow B e s v n xs := by
  obtain ⟨q1, q2 | ⟨g, cap, cur, e1, q3, q4, q5⟩⟩ := ho
  · exact ⟨q1, .inl q2⟩
  · exact ⟨q1, .inr ⟨g, cap, cur, e1, q3, (h.block g (Array.getElem?_eq_some_iff.1 q4).1 (fun e => h1 (by rw [e1, e]; rfl)) (fun e => h2 g (by rw [e1]; rfl) e.symm)).trans q4, q5⟩⟩
theorem row_set {w : World} {B s n PB j : Nat} {e t : TypeId} {v u : Value} {xs ys : List Value} (h : w.ownsRow B e s v n xs) (ho : Own w PB t ys) (hne : e ≠ t) : (w.setCell ⟨PB, j, none⟩ u).ownsRow B e s v n xs := by
  have hb := other_block h ho hne
  obtain ⟨q1, q2 | ⟨g, cap, cur, e1, q3, q4, q5⟩⟩ := h
  · exact ⟨q1, .inl q2⟩
  · exact ⟨q1, .inr ⟨g, cap, cur, e1, q3, (heap_setCell_other _ ⟨PB, j, none⟩ g u (fun e => hb (by rw [e1, e]; rfl))).trans q4, q5⟩⟩
theorem Dis.types {w : World} {B s n B' s' n' : Nat} {e e' : TypeId} {v v' : Value} {xs xs' : List Value} (h : w.ownsRow B e s v n xs) (h' : w.ownsRow B' e' s' v' n' xs') (hne : e' ≠ e) : Dis v v' := by
  intro g hg
  obtain ⟨q1, ⟨q2, _⟩ | ⟨g', cap, cur, e1, q3, q4, q5⟩⟩ := h
  · rw [q2] at hg; cases hg
  · rw [e1] at hg; cases hg
    exact other_block h' (b := g') (t := e) (ys := cur.toList) ⟨cur, q4, rfl⟩ hne
/-- A row has grown, and the struct is told of it. -/
theorem Fk.put {w W1 W2 : World} {PB j : Nat} {x x' : Value} (hb : Below w.heap.size w W1) (hg : W1.grownBy W2 x.ownBlock) : Fk w (W2.setCell ⟨PB, j, none⟩ x') PB x := by
  refine ⟨(show W2.os = w.os from hg.os.trans hb.os), (show W2.tape = w.tape from hg.tape.trans hb.tape), (show W2.output = w.output from hg.output.trans hb.output), ?_, fun k hk h1 h2 => ?_⟩
  · have := hb.size; have := hg.size; simp; omega
  · exact (heap_setCell_other _ ⟨PB, j, none⟩ k x' h1).trans ((hg.block k (Nat.lt_of_lt_of_le hk hb.size) h2).trans (hb.block k hk))
theorem own_grown {W1 W2 : World} {PB : Nat} {t : TypeId} {xs : List Value} {x : Value} (ho : Own W1 PB t xs) (hg : W1.grownBy W2 x.ownBlock) (hne : x.ownBlock ≠ some PB) : Own W2 PB t xs := grown_own hg ho hne
theorem Ls.put0 {base : Nat} {w W1 W2 : World} {PB : Nat} {C C' : List M.Cl} {E : List Nat} {cv ev cv' : Value} {N : Nat} (h : Ls base w PB C E cv ev) (hb : Below w.heap.size w W1) (hg : W1.grownBy W2 cv.ownBlock) (ho : W2.ownsRow base 44 5 cv' N (flat C')) (hN : N = C'.length) : Ls base (W2.setCell ⟨PB, 0, none⟩ cv') PB C' E cv' ev ∧ Fk w (W2.setCell ⟨PB, 0, none⟩ cv') PB cv := by
  have hne : cv.ownBlock ≠ some PB := other_block h.cells h.own (by decide)
  have o2 : Own W2 PB 95 [cv, ev] := own_grown (h.own.below hb h.own.lt) hg hne
  have hk := Fk.put (PB := PB) (j := 0) (x' := cv') hb hg
  refine ⟨⟨o2.set 0 cv', by rw [← hN]; exact row_set ho o2 (by decide), hk.row h.ends (other_block h.ends h.own (by decide)) (Dis.types h.ends h.cells (by decide)), h.lo⟩, hk⟩
theorem Ls.put1 {base : Nat} {w W1 W2 : World} {PB : Nat} {C : List M.Cl} {E E' : List Nat} {cv ev ev' : Value} {N : Nat} (h : Ls base w PB C E cv ev) (hb : Below w.heap.size w W1) (hg : W1.grownBy W2 ev.ownBlock) (ho : W2.ownsRow base 3 1 ev' N (natV E')) (hN : N = E'.length) : Ls base (W2.setCell ⟨PB, 1, none⟩ ev') PB C E' cv ev' ∧ Fk w (W2.setCell ⟨PB, 1, none⟩ ev') PB ev := by
  have hne : ev.ownBlock ≠ some PB := other_block h.ends h.own (by decide)
  have o2 : Own W2 PB 95 [cv, ev] := own_grown (h.own.below hb h.own.lt) hg hne
  have hk := Fk.put (PB := PB) (j := 1) (x' := ev') hb hg
  refine ⟨⟨o2.set 1 ev', hk.row h.cells (other_block h.cells h.own (by decide)) (Dis.types h.cells h.ends (by decide)), by rw [← hN]; exact row_set ho o2 (by decide), h.lo⟩, hk⟩
theorem Laid'.one {base : Nat} {w W3 W5 : World} {PB : Nat} {C : List M.Cl} {E : List Nat} {cv ev sv cv' ev' : Value} {ahead : List M.Cl} {N : Nat} (hN : N = C.length + (ahead.length + 1)) (h : Ls base w PB C E cv ev) (hs : w.ownsRow base 44 5 sv ahead.length (flat ahead)) (hd : Dis cv sv) (k1 : Fk w W3 PB cv) (hl3 : Ls base W3 PB (C ++ pathC ahead) E cv' ev) (k2 : Fk W3 W5 PB ev) (hl5 : Ls base W5 PB (C ++ pathC ahead) (E ++ [N]) cv' ev') (n1 : Nw w cv cv') (n2 : Nw w ev ev') : Laid' base w W5 PB C E cv ev sv ahead [ahead] cv' ev' := by
  subst hN
  have hsP : sv.ownBlock ≠ some PB := other_block hs h.own (by decide)
  have hsc : Dis sv cv := fun g a b => hd g b a
  have s3 := k1.row hs hsP hsc
  have s5 := k2.row s3 hsP (Dis.types s3 hl3.ends (by decide))
  refine ⟨by simpa [lays, ends] using hl5, s5, ⟨k2.os.trans k1.os, k2.tape.trans k1.tape, k2.output.trans k1.output, Nat.le_trans k1.size k2.size, fun j hj a1 a2 a3 a4 => ?_⟩, n1, n2⟩
  have := k1.size
  exact (k2.block j (by omega) a1 a3).trans (k1.block j hj a1 a2)

set_option maxRecDepth 100000 in
set_option maxHeartbeats 2000000 in
theorem lay_any (base PB : Nat) (C : List M.Cl) (E : List Nat) (cv ev sv : Value) (ahead : List M.Cl) (w : World) (h : Ls base w PB C E cv ev) (hs : w.ownsRow base 44 5 sv ahead.length (flat ahead)) (hd : Dis cv sv) (hb : base ≤ w.heap.size) (hn : ahead.length ≤ 1000) (hC : C.length ≤ 1000000) (hE : E.length ≤ 1000000) :
    Calls Tryd.prog 84 #[.pointer (some ⟨PB, 0, none⟩), sv] w fun e w' => e = .returned (.tuple #[]) ∧ LaidP base w PB C E cv ev sv ahead [ahead] w' := by
  have hlt := h.own.lt
  obtain ⟨sa, sc, rfl⟩ := row_len hs
  obtain ⟨ca, cc, rfl⟩ := row_len h.cells
  obtain ⟨ea, ec, rfl⟩ := row_len h.ends
  obtain ⟨i0, hi, hz0, hz1, hz2⟩ := info_parts Tryd.info44
  obtain ⟨i1, hi1, hx0, hx1, hx2⟩ := info_parts infoI
  have g0 := h.own.cell 0
  have g1 := h.own.cell 1
  simp only [List.getElem?_cons_zero, List.getElem?_cons_succ] at g0 g1
  have HLP := hide (layPath_any _ ahead base w.drew hs hn)
  have HL := hide h
  have HS := hide hs
  have HD := hide hd
  have KEEP := hide (show ∀ W : World, W.heap[PB]? = w.heap[PB]? → W.cell? ⟨PB, 0, none⟩ = some (.slice ca C.length cc) ∧ W.cell? ⟨PB, 1, none⟩ = some (.slice ea E.length ec) from fun W hW => ⟨(cell_block hW).trans g0, (cell_block hW).trans g1⟩)
  have HFR := hide (show ∀ W : World, W.heap[PB]? = w.heap[PB]? → W.frozen? ⟨PB, 0, none⟩ = false from fun W hW => by
    obtain ⟨c, h1, h2⟩ := h.own
    exact Own.frozen (xs := c.toList) ⟨c, hW.trans h1, rfl⟩ 0)
  obtain ⟨nC, hnC⟩ : ∃ n, n = C.length := ⟨_, rfl⟩
  obtain ⟨nE, hnE⟩ : ∃ n, n = E.length := ⟨_, rfl⟩
  obtain ⟨nA, hnA⟩ : ∃ n, n = ahead.length := ⟨_, rfl⟩
  have HNC := hide hnC
  have HNE := hide hnE
  have HNA := hide hnA
  rw [← hnC] at hC KEEP ⊢
  rw [← hnE] at hE KEEP ⊢
  rw [← hnA] at hn HLP ⊢
  have hCrow := hide (show w.ownsRow base 44 5 (.slice ca nC cc) nC (flat C) by rw [hnC]; exact h.cells)
  have hErow := hide (show w.ownsRow base 3 1 (.slice ea nE ec) nE (natV E) by rw [hnE]; exact h.ends)
  clear h hs hd hnC hnE hnA g0 g1
  go_enter Tryd.func84, Tryd.ntmps84
  go_upto_region 0 with fail
  refine Z.region 10 (fun W => W.heap[PB]? = w.heap[PB]?) (by kernel_rfl) rfl (fun hHeld => ?_)
  refine Z.take (i := 0) (d := 4) (v := .pointer (some ⟨PB, 0, none⟩)) rfl rfl (by kernel_rfl) (by kernel_rfl) (by kernel_rfl) (by kernel_rfl) (fun _ _ _ h => h) (Or.inl ⟨by rfl, ?_⟩) hHeld ?_
  · intro w' hSw; go_simp
  simp only [Act.put, List.setIfInBounds_toArray, List.set_cons_zero, List.set_cons_succ]
  refine Z.take (i := 1) (d := 5) (v := .pointer (some ⟨PB, 0, none⟩)) rfl rfl (by kernel_rfl) (by kernel_rfl) (by kernel_rfl) (by kernel_rfl) (fun _ _ _ h => h) (Or.inl ⟨by rfl, ?_⟩) hHeld ?_
  · intro w' hSw; go_simp
  simp only [Act.put, List.setIfInBounds_toArray, List.set_cons_zero, List.set_cons_succ]
  refine Z.take (i := 2) (d := 6) (v := .pointer (some ⟨PB, 0, none⟩)) rfl rfl (by kernel_rfl) (by kernel_rfl) (by kernel_rfl) (by kernel_rfl) (fun _ _ _ h => h) (Or.inl ⟨by rfl, ?_⟩) hHeld ?_
  · intro w' hSw; go_simp
  simp only [Act.put, List.setIfInBounds_toArray, List.set_cons_zero, List.set_cons_succ]
  refine Z.take (i := 3) (d := 7) (v := .pointer (some ⟨PB, 0, none⟩)) rfl rfl (by kernel_rfl) (by kernel_rfl) (by kernel_rfl) (by kernel_rfl) (fun _ _ _ h => h) (Or.inl ⟨by rfl, ?_⟩) hHeld ?_
  · intro w' hSw; go_simp
  simp only [Act.put, List.setIfInBounds_toArray, List.set_cons_zero, List.set_cons_succ]
  refine Z.take (i := 4) (d := 8) (v := .slice ca nC cc) rfl rfl (by kernel_rfl) (by kernel_rfl) (by kernel_rfl) (by kernel_rfl) (fun _ _ _ h => h) (Or.inl ⟨by rfl, ?_⟩) hHeld ?_
  · intro w' hSw; have g1 := ((unhide KEEP) _ hSw).1; go_simp
  simp only [Act.put, List.setIfInBounds_toArray, List.set_cons_zero, List.set_cons_succ]
  refine Z.take (i := 5) (d := 9) (v := .slice sa nA sc) rfl rfl (by kernel_rfl) (by kernel_rfl) (by kernel_rfl) (by kernel_rfl) (fun _ _ _ h => h) (Or.inl ⟨by rfl, ?_⟩) hHeld ?_
  · intro w' hSw; go_simp
  simp only [Act.put, List.setIfInBounds_toArray, List.set_cons_zero, List.set_cons_succ]
  refine Z.only (i := 6) (d := 10) rfl rfl (by kernel_rfl) (by rfl) (fun K hK => ?_)
  go_simp
  refine (unhide HLP).mono ?_
  rintro e W1 ⟨s10, rfl, ho10, hb10⟩
  have B1 : Below w.heap.size w W1 := (Below.refl _ _).drew.trans (hb10.mono (Nat.le_refl _))
  obtain ⟨xa, xc, hx10⟩ := row_len ho10
  subst hx10
  have HO10 := hide ho10
  go_simp
  refine hK.out (.slice xa (nA + 1) xc) W1 (B1.block _ hlt) ?_
  clear hK K ho10 hb10 HLP
  simp only [Act.put, List.setIfInBounds_toArray, List.set_cons_zero, List.set_cons_succ]
  have HR10 := hide (rowN_read (unhide HO10) (fun h => by omega))
  refine Z.only (i := 7) (d := 11) rfl rfl (by kernel_rfl) (by rfl) (fun K hK => ?_)
  refine wp_rowN _ (.tmp 8) (.tmp 10) 27 rfl 44 i0 _ 5 56 Tryd.underlying27 hi hz0 hz1 hz2 rfl (by decide) base (.slice ca nC cc) nC (flat C) rfl (row_below (unhide hCrow) B1) (.slice xa (nA + 1) xc) rfl (nA + 1) (flat (pathC ahead)) (by rw [flat_length, pathC_length, unhide HNA]) (unhide HR10) (flat_one _) (by unfold maxLen; omega) (by omega) (Nat.le_trans hb B1.size) ?_
  intro cv' W2 ho2 hg2 hn2
  have P0 := hide (Ls.put0 (unhide HL) B1 (by have := hg2; rw [unhide HNC] at this; exact this) (C' := C ++ pathC ahead) (cv' := cv') (N := nC + (nA + 1)) (by rw [flat_append]; exact ho2) (by rw [List.length_append, pathC_length, ← unhide HNC, ← unhide HNA]))
  have N1 : Hid (Nw w (.slice ca nC cc) cv') := hide (hn2.imp id (fun h g hg => Nat.le_trans B1.size (h g hg)))
  have S2 : W2.heap[PB]? = w.heap[PB]? := (hg2.block PB (Nat.lt_of_lt_of_le hlt B1.size) (fun e => other_block (unhide HL).cells (unhide HL).own (by decide) (by rw [← unhide HNC]; exact e.symm))).trans (B1.block _ hlt)
  obtain ⟨ya, yc, hy⟩ := row_len ho2
  subst hy
  refine hK.out (.slice ya (nC + (nA + 1)) yc) W2 S2 ?_
  clear hK K ho2 hg2 hn2 HO10 HR10 B1
  simp only [Act.put, List.setIfInBounds_toArray, List.set_cons_zero, List.set_cons_succ]
  refine Z.ready (rs := [8]) (by kernel_rfl) (by simp) (Z.val_cons (i := 8) (d := 12) (v := .pointer (some ⟨PB, 0, none⟩)) (w' := W2) rfl (by rfl) (fun K hK => ?_) (fun _ => S2) ?_ Z.All.nil)
  · go_simp
    exact hK.out
  simp only [Act.put, List.setIfInBounds_toArray, List.set_cons_zero, List.set_cons_succ]
  refine Z.take (i := 9) (d := 13) (v := .pointer (some ⟨PB, 0, none⟩)) rfl rfl (by kernel_rfl) (by kernel_rfl) (by kernel_rfl) (by kernel_rfl) (fun _ _ _ h => h) (Or.inl ⟨by rfl, ?_⟩) S2 ?_
  · intro w' hSw; go_simp
  simp only [Act.put, List.setIfInBounds_toArray, List.set_cons_zero, List.set_cons_succ]
  have c1 := ((unhide KEEP) W2 S2).1
  have z1 := (unhide HFR) W2 S2
  refine Z.last_at (w' := W2.setCell ⟨PB, 0, none⟩ (.slice ya (nC + (nA + 1)) yc)) rfl (by kernel_rfl) (by rfl) (fun K hK => ?_) ?_
  · go_simp
    exact hK.out
  refine Z.done (by kernel_rfl) ?_ _
  generalize W2.setCell ⟨PB, 0, none⟩ (.slice ya (nC + (nA + 1)) yc) = W3 at *
  clear c1 z1 S2 KEEP HFR hHeld hCrow
  have hL3 := (unhide P0).1
  have hlt3 := hL3.own.lt
  have g0 := hL3.own.cell 0
  have g1 := hL3.own.cell 1
  simp only [List.getElem?_cons_zero, List.getElem?_cons_succ] at g0 g1
  rw [← unhide HNE] at g1
  have KEEP := hide (show ∀ W : World, W.heap[PB]? = W3.heap[PB]? → W.cell? ⟨PB, 0, none⟩ = some (.slice ya (nC + (nA + 1)) yc) ∧ W.cell? ⟨PB, 1, none⟩ = some (.slice ea nE ec) from fun W hW => ⟨(cell_block hW).trans g0, (cell_block hW).trans g1⟩)
  have HFR := hide (show ∀ W : World, W.heap[PB]? = W3.heap[PB]? → W.frozen? ⟨PB, 1, none⟩ = false from fun W hW => by
    obtain ⟨c, h1, h2⟩ := hL3.own
    exact Own.frozen (xs := c.toList) ⟨c, hW.trans h1, rfl⟩ 1)
  have hErow3 := hide (show W3.ownsRow base 3 1 (.slice ea nE ec) nE (natV E) by have := hL3.ends; rwa [← unhide HNE] at this)
  have hb3 : base ≤ W3.heap.size := Nat.le_trans hb (unhide P0).2.size
  clear hL3 g0 g1
  go_upto_region 1 with fail
  refine Z.region 14 (fun W => W.heap[PB]? = W3.heap[PB]?) (by kernel_rfl) rfl (fun hHeld => ?_)
  refine Z.take (i := 0) (d := 14) (v := .pointer (some ⟨PB, 0, none⟩)) rfl rfl (by kernel_rfl) (by kernel_rfl) (by kernel_rfl) (by kernel_rfl) (fun _ _ _ h => h) (Or.inl ⟨by rfl, ?_⟩) hHeld ?_
  · intro w' hSw; go_simp
  simp only [Act.put, List.setIfInBounds_toArray, List.set_cons_zero, List.set_cons_succ]
  refine Z.take (i := 1) (d := 15) (v := .pointer (some ⟨PB, 0, none⟩)) rfl rfl (by kernel_rfl) (by kernel_rfl) (by kernel_rfl) (by kernel_rfl) (fun _ _ _ h => h) (Or.inl ⟨by rfl, ?_⟩) hHeld ?_
  · intro w' hSw; go_simp
  simp only [Act.put, List.setIfInBounds_toArray, List.set_cons_zero, List.set_cons_succ]
  refine Z.take (i := 2) (d := 16) (v := .pointer (some ⟨PB, 0, none⟩)) rfl rfl (by kernel_rfl) (by kernel_rfl) (by kernel_rfl) (by kernel_rfl) (fun _ _ _ h => h) (Or.inl ⟨by rfl, ?_⟩) hHeld ?_
  · intro w' hSw; go_simp
  simp only [Act.put, List.setIfInBounds_toArray, List.set_cons_zero, List.set_cons_succ]
  refine Z.take (i := 3) (d := 17) (v := .pointer (some ⟨PB, 1, none⟩)) rfl rfl (by kernel_rfl) (by kernel_rfl) (by kernel_rfl) (by kernel_rfl) (fun _ _ _ h => h) (Or.inl ⟨by rfl, ?_⟩) hHeld ?_
  · intro w' hSw; go_simp
  simp only [Act.put, List.setIfInBounds_toArray, List.set_cons_zero, List.set_cons_succ]
  refine Z.take (i := 4) (d := 18) (v := .slice ea nE ec) rfl rfl (by kernel_rfl) (by kernel_rfl) (by kernel_rfl) (by kernel_rfl) (fun _ _ _ h => h) (Or.inl ⟨by rfl, ?_⟩) hHeld ?_
  · intro w' hSw; have g1 := ((unhide KEEP) _ hSw).2; go_simp
  simp only [Act.put, List.setIfInBounds_toArray, List.set_cons_zero, List.set_cons_succ]
  refine Z.take (i := 5) (d := 19) (v := .pointer (some ⟨PB, 0, none⟩)) rfl rfl (by kernel_rfl) (by kernel_rfl) (by kernel_rfl) (by kernel_rfl) (fun _ _ _ h => h) (Or.inl ⟨by rfl, ?_⟩) hHeld ?_
  · intro w' hSw; go_simp
  simp only [Act.put, List.setIfInBounds_toArray, List.set_cons_zero, List.set_cons_succ]
  refine Z.take (i := 6) (d := 20) (v := .pointer (some ⟨PB, 0, none⟩)) rfl rfl (by kernel_rfl) (by kernel_rfl) (by kernel_rfl) (by kernel_rfl) (fun _ _ _ h => h) (Or.inl ⟨by rfl, ?_⟩) hHeld ?_
  · intro w' hSw; go_simp
  simp only [Act.put, List.setIfInBounds_toArray, List.set_cons_zero, List.set_cons_succ]
  refine Z.take (i := 7) (d := 21) (v := .pointer (some ⟨PB, 0, none⟩)) rfl rfl (by kernel_rfl) (by kernel_rfl) (by kernel_rfl) (by kernel_rfl) (fun _ _ _ h => h) (Or.inl ⟨by rfl, ?_⟩) hHeld ?_
  · intro w' hSw; go_simp
  simp only [Act.put, List.setIfInBounds_toArray, List.set_cons_zero, List.set_cons_succ]
  refine Z.take (i := 8) (d := 22) (v := .slice ya (nC + (nA + 1)) yc) rfl rfl (by kernel_rfl) (by kernel_rfl) (by kernel_rfl) (by kernel_rfl) (fun _ _ _ h => h) (Or.inl ⟨by rfl, ?_⟩) hHeld ?_
  · intro w' hSw; have g1 := ((unhide KEEP) _ hSw).1; go_simp
  simp only [Act.put, List.setIfInBounds_toArray, List.set_cons_zero, List.set_cons_succ]
  refine Z.take (i := 9) (d := 23) (v := .int .i64 ((nC + (nA + 1) : Nat) : Int)) rfl rfl (by kernel_rfl) (by kernel_rfl) (by kernel_rfl) (by kernel_rfl) (fun _ _ _ h => h) (Or.inl ⟨by rfl, ?_⟩) hHeld ?_
  · intro w' hSw; go_simp
  simp only [Act.put, List.setIfInBounds_toArray, List.set_cons_zero, List.set_cons_succ]
  obtain ⟨W4, hW4⟩ : ∃ W4, W4 = (W3.alloc (.cells #[.int .i64 ((nC : Int) + ((nA : Int) + 1))] 3)).drew := ⟨_, rfl⟩
  have B4 : Below W3.heap.size W3 W4 := by rw [hW4]; exact ((Below.refl _ _).alloc (Nat.le_refl _) _).drew
  have hN4 : ∀ j u, ([Value.int .i64 ((nC : Int) + ((nA : Int) + 1))] : List Value)[j]? = some u → W4.cell? ((⟨W3.heap.size, 0, none⟩ : Addr).add j) = some u := by
    rw [hW4]
    intro j u hu
    rcases j with _ | j
    · cases hu; exact World.cell?_alloc_mark W3 _ _ (0, 0) 0
    · simp at hu
  refine Z.ready (rs := [10]) (by kernel_rfl) (by simp) (Z.val_cons (i := 10) (d := 24) (v := .slice (some ⟨W3.heap.size, 0, none⟩) 1 1) (w' := W4) rfl (by rfl) (fun K hK => ?_) (fun _ => B4.block _ hlt3) ?_ Z.All.nil)
  · go_simp
    rw [← hW4]
    exact hK.out
  simp only [Act.put, List.setIfInBounds_toArray, List.set_cons_zero, List.set_cons_succ]
  clear hW4
  refine Z.only (i := 11) (d := 25) rfl rfl (by kernel_rfl) (by rfl) (fun K hK => ?_)
  refine wp_rowN _ (.tmp 18) (.tmp 24) 93 rfl 3 i1 (.int .i64 0) 1 8 Tryd.underlying93 hi1 hx0 hx1 hx2 rfl (by decide) base (.slice ea nE ec) nE (natV E) rfl (row_below (unhide hErow3) B4) (.slice (some ⟨W3.heap.size, 0, none⟩) 1 1) rfl 1 [.int .i64 ((nC : Int) + ((nA : Int) + 1))] rfl (.inr ⟨_, 1, rfl, hN4⟩) (by intro u hu; rw [List.mem_singleton.1 hu]; rfl) (by unfold maxLen; omega) (by omega) (Nat.le_trans hb3 B4.size) ?_
  intro ev' W5 ho5 hg5 hn5
  have P1 := hide (Ls.put1 (unhide P0).1 B4 (by have := hg5; rw [unhide HNE] at this; exact this) (E' := E ++ [nC + (nA + 1)]) (ev' := ev') (N := nE + 1) (by rw [show natV (E ++ [nC + (nA + 1)]) = natV E ++ [.int .i64 ((nC : Int) + ((nA : Int) + 1))] by simp [natV]]; exact ho5) (by rw [List.length_append, ← unhide HNE]; rfl))
  have N2 : Hid (Nw w (.slice ea nE ec) ev') := hide (hn5.imp id (fun h g hg => by have := h g hg; have := B4.size; have := (unhide P0).2.size; omega))
  have S5 : W5.heap[PB]? = W3.heap[PB]? := (hg5.block PB (Nat.lt_of_lt_of_le hlt3 B4.size) (fun e => other_block (unhide P0).1.ends (unhide P0).1.own (by decide) (by rw [← unhide HNE]; exact e.symm))).trans (B4.block _ hlt3)
  obtain ⟨za, zc, hz⟩ := row_len ho5
  subst hz
  refine hK.out (.slice za (nE + 1) zc) W5 S5 ?_
  clear hK K ho5 hg5 hn5 B4 hN4
  simp only [Act.put, List.setIfInBounds_toArray, List.set_cons_zero, List.set_cons_succ]
  refine Z.ready (rs := [12]) (by kernel_rfl) (by simp) (Z.val_cons (i := 12) (d := 26) (v := .pointer (some ⟨PB, 0, none⟩)) (w' := W5) rfl (by rfl) (fun K hK => ?_) (fun _ => S5) ?_ Z.All.nil)
  · go_simp
    exact hK.out
  simp only [Act.put, List.setIfInBounds_toArray, List.set_cons_zero, List.set_cons_succ]
  refine Z.take (i := 13) (d := 27) (v := .pointer (some ⟨PB, 1, none⟩)) rfl rfl (by kernel_rfl) (by kernel_rfl) (by kernel_rfl) (by kernel_rfl) (fun _ _ _ h => h) (Or.inl ⟨by rfl, ?_⟩) S5 ?_
  · intro w' hSw; go_simp
  simp only [Act.put, List.setIfInBounds_toArray, List.set_cons_zero, List.set_cons_succ]
  have c1 := ((unhide KEEP) W5 S5).2
  have z1 := (unhide HFR) W5 S5
  refine Z.last_at (w' := W5.setCell ⟨PB, 1, none⟩ (.slice za (nE + 1) zc)) rfl (by kernel_rfl) (by rfl) (fun K hK => ?_) ?_
  · go_simp
    exact hK.out
  refine Z.done (by kernel_rfl) ?_ _
  generalize W5.setCell ⟨PB, 1, none⟩ (.slice za (nE + 1) zc) = W6 at *
  clear c1 z1 S5 KEEP HFR hHeld hErow3
  go_wp2_with fail
  go_end0
  have HL' : Ls base w PB C E (.slice ca nC cc) (.slice ea nE ec) := by rw [unhide HNC, unhide HNE]; exact unhide HL
  have HS' : w.ownsRow base 44 5 (.slice sa nA sc) ahead.length (flat ahead) := by rw [unhide HNA]; exact unhide HS
  have HD' : Dis (.slice ca nC cc) (.slice sa nA sc) := by rw [unhide HNC, unhide HNA]; exact unhide HD
  exact ⟨rfl, _, _, Laid'.one (by rw [← unhide HNC, ← unhide HNA]) HL' HS' HD' (by have := (unhide P0).2; rwa [← unhide HNC] at this) (by have := (unhide P0).1; rwa [← unhide HNE] at this) (by have := (unhide P1).2; rwa [← unhide HNE] at this) (unhide P1).1 (unhide N1) (unhide N2)⟩
end Al
end Go.Proofs.YtlbmpldknfcfhaaDoor

namespace Go.Proofs.YtlbmpldknfcfhaaDoor
open Go.RowKit
set_option linter.unusedVariables false
set_option linter.unusedSimpArgs false
namespace Al
set_option maxHeartbeats 1000000 in
theorem keyStep_any (s : ByteArray) (w : World) : Calls Tryd.prog 92 #[.string s] w fun e w' => e = .returned (.agg #[.int .i64 4, .int .i64 0, .string s, .string { data := #[] }, .int .i64 0]) ∧ Below w.heap.size w w' := by
  go_enter Tryd.func92, Tryd.ntmps92
  go_wp2_with fail
  refine bodyPost_ret (v := .agg #[.int .i64 4, .int .i64 0, .string s, .string { data := #[] }, .int .i64 0]) (by simp [results, Tryd.results92, go_sem]) rfl ⟨rfl, (Below.refl _ _).alloc (Nat.le_refl _) _⟩
set_option maxHeartbeats 1000000 in
theorem placeStep_any (n : Int) (w : World) : Calls Tryd.prog 93 #[.int .i64 n] w fun e w' => e = .returned (.agg #[.int .i64 3, .int .i64 n, .string { data := #[] }, .string { data := #[] }, .int .i64 0]) ∧ Below w.heap.size w w' := by
  go_enter Tryd.func93, Tryd.ntmps93
  go_wp2_with fail
  refine bodyPost_ret (v := .agg #[.int .i64 3, .int .i64 n, .string { data := #[] }, .string { data := #[] }, .int .i64 0]) (by simp [results, Tryd.results93, go_sem]) rfl ⟨rfl, (Below.refl _ _).alloc (Nat.le_refl _) _⟩
theorem below_set5 {w W : World} (B : Below w.heap.size w W) (x0 x1 x2 x3 x4 : Value) : Below w.heap.size w (((((W.setCell ⟨w.heap.size, 0, none⟩ x0).setCell ⟨w.heap.size, 1, none⟩ x1).setCell ⟨w.heap.size, 2, none⟩ x2).setCell ⟨w.heap.size, 3, none⟩ x3).setCell ⟨w.heap.size, 4, none⟩ x4) :=
  ((((B.setCell (Nat.le_refl _) _).setCell (Nat.le_refl _) _).setCell (Nat.le_refl _) _).setCell (Nat.le_refl _) _).setCell (Nat.le_refl _) _

set_option maxRecDepth 100000 in
set_option maxHeartbeats 2000000 in
theorem stepTo_any (v : List M.Cl) (b off cap a k p : Nat) (w : World) (ha : a < v.length) (hp : p < v.length) (hrow : Row w b off v) (hb : b < w.heap.size) (hcap : v.length ≤ cap) (hn : v.length ≤ 200) (ks : List ByteArray) (hks : (v.getD p M.zero).key = ks.getD k ByteArray.empty) :
    Calls Tryd.prog 85 #[.slice (some ⟨b, off, none⟩) v.length cap, .int .i64 (a : Int), .int .i64 (k : Int), .int .i64 (p : Int)] w fun e w' => e = .returned (.agg #[.int .i64 (stepAt (decide ((v.getD a M.zero).kind = 6)) ks k).kind, .int .i64 (stepAt (decide ((v.getD a M.zero).kind = 6)) ks k).num, .string (stepAt (decide ((v.getD a M.zero).kind = 6)) ks k).text, .string (stepAt (decide ((v.getD a M.zero).kind = 6)) ks k).key, .int .i64 (stepAt (decide ((v.getD a M.zero).kind = 6)) ks k).n]) ∧ Below w.heap.size w w' := by
  have B0 : ∀ y, Below w.heap.size w (w.alloc y) := fun y => (Below.refl _ _).alloc (Nat.le_refl _) y
  have HB0 := hide B0
  have f0 : ∀ y, (w.alloc y).cell? ⟨b, off + a * 5, none⟩ = some (.int .i64 (v.getD a M.zero).kind) := fun y => ((B0 y).cell hb).trans (hrow a ha).1
  have f3 : ∀ y, (w.alloc y).cell? ⟨b, off + p * 5 + 3, none⟩ = some (.string (ks.getD k ByteArray.empty)) := fun y => by rw [← hks]; exact ((B0 y).cell hb).trans (hrow p hp).2.2.2.1
  have aI : (a : Int) < (v.length : Int) := by omega
  have pI : (p : Int) < (v.length : Int) := by omega
  have a0 : (0 : Int) ≤ (a : Int) := by omega
  have p0 : (0 : Int) ≤ (p : Int) := by omega
  have E6 := hide (fun h : (v.getD a M.zero).kind = 6 => (show stepAt (decide ((v.getD a M.zero).kind = 6)) ks k = ⟨4, 0, ks.getD k ByteArray.empty, ByteArray.empty, 0⟩ by rw [h]; rfl))
  have E5 := hide (fun h : (v.getD a M.zero).kind ≠ 6 => (show stepAt (decide ((v.getD a M.zero).kind = 6)) ks k = ⟨3, (k : Int), ByteArray.empty, ByteArray.empty, 0⟩ by rw [decide_eq_false h]; rfl))
  generalize ks.getD k ByteArray.empty = key at *
  generalize stepAt (decide ((v.getD a M.zero).kind = 6)) ks k = st at *
  clear hrow hks B0
  by_cases h6 : (v.getD a M.zero).kind = 6
  · have E := hide ((unhide E6) h6)
    have HK := hide (fun W => keyStep_any key W)
    rw [h6] at f0
    clear E5 E6 h6
    go_enter Tryd.func85, Tryd.ntmps85
    go_wp2_with fail
    refine ((unhide HK) _).mono ?_
    rintro e w1 ⟨rfl, hb1⟩
    have hR : Own w1 w.heap.size 44 [.int .i64 0, .int .i64 0, .string { data := #[] }, .string { data := #[] }, .int .i64 0] := Own.below ⟨_, heap_alloc_new _ _, rfl⟩ hb1 (by simp)
    have B1 : Below w.heap.size w w1 := ((unhide HB0) _).trans (hb1.mono (by simp))
    have r0 := hR.cell 0
    have r1 := hR.cell 1
    have r2 := hR.cell 2
    have r3 := hR.cell 3
    have r4 := hR.cell 4
    have z0 := hR.frozen 0
    have z1 := hR.frozen 1
    have z2 := hR.frozen 2
    have z3 := hR.frozen 3
    have z4 := hR.frozen 4
    simp only [List.getElem?_cons_zero, List.getElem?_cons_succ] at r0 r1 r2 r3 r4
    clear hb1 hR HK
    go_wp2_with fail
    refine bodyPost_ret (v := .agg #[.int .i64 4, .int .i64 0, .string key, .string { data := #[] }, .int .i64 0]) (by simp [results, Tryd.results85, go_sem, r0, r1, r2, r3, r4]) rfl ⟨by rw [unhide E]; rfl, below_set5 B1 _ _ _ _ _⟩
  · have E := hide ((unhide E5) h6)
    have HK := hide (fun W => placeStep_any (k : Int) W)
    have h6' : ((v.getD a M.zero).kind == 6) = false := beq_eq_false_iff_ne.2 h6
    generalize (v.getD a M.zero).kind = kd at *
    clear E5 E6 h6
    go_enter Tryd.func85, Tryd.ntmps85
    go_wp2_with fail
    refine ((unhide HK) _).mono ?_
    rintro e w1 ⟨rfl, hb1⟩
    have hR : Own w1 w.heap.size 44 [.int .i64 0, .int .i64 0, .string { data := #[] }, .string { data := #[] }, .int .i64 0] := Own.below ⟨_, heap_alloc_new _ _, rfl⟩ hb1 (by simp)
    have B1 : Below w.heap.size w w1 := ((unhide HB0) _).trans (hb1.mono (by simp))
    have r0 := hR.cell 0
    have r1 := hR.cell 1
    have r2 := hR.cell 2
    have r3 := hR.cell 3
    have r4 := hR.cell 4
    have z0 := hR.frozen 0
    have z1 := hR.frozen 1
    have z2 := hR.frozen 2
    have z3 := hR.frozen 3
    have z4 := hR.frozen 4
    simp only [List.getElem?_cons_zero, List.getElem?_cons_succ] at r0 r1 r2 r3 r4
    clear hb1 hR HK
    go_wp2_with fail
    refine bodyPost_ret (v := .agg #[.int .i64 3, .int .i64 (k : Int), .string { data := #[] }, .string { data := #[] }, .int .i64 0]) (by simp [results, Tryd.results85, go_sem, r0, r1, r2, r3, r4]) rfl ⟨by rw [unhide E]; rfl, below_set5 B1 _ _ _ _ _⟩

/-- How much is laid on the way. -/
theorem allK_iter (leaves : Bool) (f : Nat) {v : List M.Cl} (hv : M.valueFault v = 0) (ahead : List M.Cl) : ∀ k, k ≤ M.arity v 0 → (allK (all leaves f) (decide ((v.getD 0 M.zero).kind = 6)) (keysAt v 0) (subs v 0) ahead k).length + 1 ≤ M.iter v k 1 := by
  intro k
  induction k with
  | zero => intro _; exact Nat.le_refl _
  | succ k ih =>
    intro hk
    have i1 := ih (by omega)
    obtain ⟨_, p2, p3⟩ := part_lt hv (show k < M.arity v 0 by omega)
    have h := all_len leaves f (part v (M.iter v k 1)) (ahead ++ [stepAt (decide ((v.getD 0 M.zero).kind = 6)) (keysAt v 0) k]) p3
    rw [allK, List.length_append, subs_getD v 0 k (by omega), Nat.zero_add]
    omega
theorem all_plen {leaves : Bool} {f : Nat} {v ahead p : List M.Cl} (hv : M.valueFault v = 0) (h : p ∈ all leaves f v ahead) : p.length + 1 ≤ ahead.length + v.length := by
  obtain ⟨q, e, _, hq, _⟩ := (all_leads leaves f v ahead p hv h).ex
  rw [e, List.length_append]
  omega
theorem bound (leaves : Bool) (f : Nat) {v : List M.Cl} (hv : M.valueFault v = 0) (ahead : List M.Cl) (hsz : ahead.length + v.length ≤ 300) (k : Nat) (hk : k ≤ M.arity v 0) :
    (own leaves (v.getD 0 M.zero).n ahead ++ allK (all leaves f) (decide ((v.getD 0 M.zero).kind = 6)) (keysAt v 0) (subs v 0) ahead k).length ≤ M.iter v k 1 ∧
    (lays (own leaves (v.getD 0 M.zero).n ahead ++ allK (all leaves f) (decide ((v.getD 0 M.zero).kind = 6)) (keysAt v 0) (subs v 0) ahead k)).length ≤ 301 * M.iter v k 1 := by
  have h1 := allK_iter leaves f hv ahead k hk
  have h2 := own_len leaves (v.getD 0 M.zero).n ahead
  have hL : (own leaves (v.getD 0 M.zero).n ahead ++ allK (all leaves f) (decide ((v.getD 0 M.zero).kind = 6)) (keysAt v 0) (subs v 0) ahead k).length ≤ M.iter v k 1 := by rw [List.length_append]; omega
  refine ⟨hL, Nat.le_trans (lays_le (B := 300) fun p hp => ?_) (Nat.mul_le_mul_left 301 hL)⟩
  rcases List.mem_append.1 hp with hp | hp
  · have e : p = ahead := by
      unfold own at hp
      split at hp
      · simpa using hp
      · simp at hp
    rw [e]; have := (M.fault_zero hv).1; omega
  · obtain ⟨j, hj, hm⟩ := mem_allK hp
    have hj' : j < M.arity v 0 := by omega
    obtain ⟨p1, p2, p3⟩ := part_lt hv hj'
    have hi := iter_le hv (show j + 1 ≤ M.arity v 0 by omega)
    have hi0 := (iter_le hv (Nat.le_of_lt hj')).1
    rw [subs_getD v 0 j hj', Nat.zero_add] at hm
    have := all_plen p3 hm
    rw [List.length_append, List.length_cons, List.length_nil] at this
    omega
/-- What is known of a place within a value. -/
structure At (v : List M.Cl) (a : Nat) (k : Nat) : Prop where
  lt : M.iter v k (a + 1) < v.length
  sub : (subs v a).getD k [] = part v (M.iter v k (a + 1))
  val : M.valueFault (part v (M.iter v k (a + 1))) = 0
  key : (keysAt v a).getD k ByteArray.empty = (v.getD (M.iter v k (a + 1)) M.zero).key
  len : M.iter (part v a) k 1 + (part v (M.iter v k (a + 1))).length = M.iter (part v a) (k + 1) 1
  up : M.iter (part v a) (k + 1) 1 ≤ (part v a).length
  lo : k + 1 ≤ M.iter (part v a) k 1
theorem at_place {v : List M.Cl} (hv : M.valueFault v = 0) {a : Nat} (ha : a < v.length) {k : Nat} (hk : k < M.arity v a) : At v a k := by
  have hpv := part_valid hv ha
  have hk' : k < M.arity (part v a) 0 := by rw [part_arity hv ha]; exact hk
  obtain ⟨p1, p2, p3⟩ := part_lt hpv hk'
  have hi := iter_le hpv (Nat.le_of_lt hk')
  have hu := iter_le hpv (show k + 1 ≤ M.arity (part v a) 0 by omega)
  have hit := part_iter hv ha k (by omega)
  have hpl := part_len hv ha
  have hpp := part_part hv ha (M.iter (part v a) k 1) (by omega) (by omega)
  rw [show a + M.iter (part v a) k 1 = M.iter v k (a + 1) by omega] at hpp
  have he := end_gt hv ha
  exact ⟨by omega, subs_getD v a k hk, by rw [← hpp]; exact p3, keysAt_getD v a k hk, by rw [← hpp]; exact p2, hu.2, hi.1⟩
theorem bound_at (leaves : Bool) (f : Nat) {v : List M.Cl} (hv : M.valueFault v = 0) {a : Nat} (ha : a < v.length) (ahead : List M.Cl) (hsz : ahead.length + (part v a).length ≤ 300) (k : Nat) (hk : k ≤ M.arity v a) :
    (own leaves (v.getD a M.zero).n ahead ++ allK (all leaves f) (decide ((v.getD a M.zero).kind = 6)) (keysAt v a) (subs v a) ahead k).length ≤ M.iter (part v a) k 1 ∧
    (lays (own leaves (v.getD a M.zero).n ahead ++ allK (all leaves f) (decide ((v.getD a M.zero).kind = 6)) (keysAt v a) (subs v a) ahead k)).length ≤ 301 * M.iter (part v a) k 1 := by
  have := bound leaves f (part_valid hv ha) ahead hsz k (by rw [part_arity hv ha]; exact hk)
  rwa [part_zero hv ha, (subs_part hv ha).1, (subs_part hv ha).2] at this

theorem wantL (c : M.Cl) (w : World) : Calls Tryd.prog 48 #[.agg #[.int .i64 c.kind, .int .i64 c.num, .string c.text, .string c.key, .int .i64 c.n]] w fun e w' => e = .returned (.bool (c.n == 0)) ∧ Below w.heap.size w w' := by
  go_enter Tryd.func48, Tryd.ntmps48
  go_wp2_with fail
  go_ret
  exact ⟨rfl, (Below.refl _ _).alloc (Nat.le_refl _) _⟩
/-- What layFrom says. -/
def LaySays (leaves : Bool) (fv : Value) (f : Nat) : Prop := ∀ (v : List M.Cl) (b off cap a : Nat) (ahead : List M.Cl) (sv : Value) (base PB : Nat) (C : List M.Cl) (E : List Nat) (cv ev : Value) (w : World), M.valueFault v = 0 → a < v.length → (part v a).length ≤ f → Row w b off v → b < base → base ≤ w.heap.size → v.length ≤ cap →
  Ls base w PB C E cv ev → w.ownsRow base 44 5 sv ahead.length (flat ahead) → Dis cv sv → ahead.length + (part v a).length ≤ 300 → C.length + 301 * (part v a).length ≤ 100000 → E.length + (part v a).length ≤ 1000 →
  Calls Tryd.prog 69 #[.pointer (some ⟨PB, 0, none⟩), .slice (some ⟨b, off, none⟩) v.length cap, .int .i64 (a : Int), sv, fv] w fun e w' => e = .returned (.tuple #[]) ∧ LaidP base w PB C E cv ev sv ahead (all leaves f (part v a) ahead) w'
end Al
end Go.Proofs.YtlbmpldknfcfhaaDoor

namespace Go.Proofs.YtlbmpldknfcfhaaDoor
open Go.RowKit
set_option linter.unusedVariables false
set_option linter.unusedSimpArgs false
namespace Al

set_option maxRecDepth 100000 in
set_option maxHeartbeats 4000000 in
theorem from_leaf (f : Nat) (ih : Hid (LaySays true (.func (.func 48) #[] #[]) f)) (v : List M.Cl) (b off cap a : Nat) (ahead : List M.Cl) (sv : Value) (base PB : Nat) (C : List M.Cl) (E : List Nat) (cv ev : Value) (w : World) (hv : M.valueFault v = 0) (ha : a < v.length) (hf : (part v a).length ≤ f + 1) (hrow : Row w b off v) (hb : b < base) (hbw : base ≤ w.heap.size) (hcap : v.length ≤ cap)
    (h : Ls base w PB C E cv ev) (hs : w.ownsRow base 44 5 sv ahead.length (flat ahead)) (hd : Dis cv sv) (hsz : ahead.length + (part v a).length ≤ 300) (hC : C.length + 301 * (part v a).length ≤ 100000) (hE : E.length + (part v a).length ≤ 1000) (h0 : (v.getD a M.zero).n = 0) :
    Calls Tryd.prog 69 #[.pointer (some ⟨PB, 0, none⟩), .slice (some ⟨b, off, none⟩) v.length cap, .int .i64 (a : Int), sv, .func (.func 48) #[] #[]] w fun e w' => e = .returned (.tuple #[]) ∧ LaidP base w PB C E cv ev sv ahead (all true (f + 1) (part v a) ahead) w' := by
  have hvl := (M.fault_zero hv).2.1
  have HB := hide (fun k hk => bound_at true f hv ha ahead hsz k hk)
  have HAT := hide (fun k hk => at_place hv ha (k := k) hk)
  have HE := hide (all_part true f hv ha ahead)
  have HRW := hide (fun W (h : Below base w W) => (show Row W b off v from hrow.below h hb))
  have hbl : b < w.heap.size := Nat.lt_of_lt_of_le hb hbw
  have HCP := hide (fun W (h : Below base w W) (hl : base ≤ W.heap.size) => childPlaces_any v b off cap a W hv ha (hrow.below h hb) (by omega) hcap)
  have hA : M.arity v a ≤ 200 := (M.places_in hv a ha).2.2.2
  have HV := hide hv
  have HL := hide h
  have HS := hide hs
  have HD := hide hd
  obtain ⟨i0, hi, hz0, hz1, hz2⟩ := info_parts Tryd.info44
  obtain ⟨f0, f1, f2, f3, f4⟩ := hrow a ha
  have aI : (a : Int) < (v.length : Int) := by omega
  have a0 : (0 : Int) ≤ (a : Int) := by omega
  have HW := hide (wantL (v.getD a M.zero) w)
  obtain ⟨O, hO⟩ : ∃ O, O = own true (v.getD a M.zero).n ahead := ⟨_, rfl⟩
  rw [← hO] at HB HE
  have HOWN : Hid (O = [ahead]) := hide (by rw [hO]; exact if_pos (.inr h0))
  rw [show ((v.getD a M.zero).n == 0) = true from beq_iff_eq.2 h0] at HW
  clear h0
  clear hO
  clear hv hrow h hs hd
  generalize hcell : v.getD a M.zero = c at *
  have HCL := hide hcell
  clear hcell
  go_enter Tryd.func69, Tryd.ntmps69
  go_wp2_with fail
  refine (unhide HW).mono ?_
  rintro e w1 ⟨rfl, hb1⟩
  have L1 := hide ((Laid'.start (unhide HL) (unhide HS)).below hb1)
  clear f0 f1 f2 f3 f4 HW
  have L1s := hide (show Ls base w1 PB C E cv ev from (unhide HL).below hb1)
  have HLAY := hide (lay_any base PB C E cv ev sv ahead w1 (unhide L1s) (row_below (unhide HS) hb1) (unhide HD) (Nat.le_trans hbw hb1.size) (by omega) (by omega) (by omega))
  have HB1 := hide hb1
  clear hb1 L1s
  go_wp2_with fail
  refine (unhide HLAY).mono ?_
  rintro e w2 ⟨rfl, cvx, evx, hlx⟩
  have L2 : Hid (LaidP base w PB C E cv ev sv ahead O w2) := hide ⟨cvx, evx, by rw [unhide HOWN]; exact Laid'.pre (unhide HB1) hlx⟩
  clear HLAY hlx
  obtain ⟨m, hm⟩ : ∃ m, m = M.arity v a := ⟨_, rfl⟩
  rw [← hm] at HB HAT HE HCP hA
  have HM := hide hm
  clear hm
  generalize hob : decide (c.kind = 6) = ob at *
  have HOB := hide hob
  clear hob
  obtain ⟨cv2, ev2, L2⟩ := L2.out
  have B2 := hide (L2.fr.low (unhide HL) (unhide HS) hbw)
  have hbw2 := Nat.le_trans hbw L2.fr.size
  have L2 := hide L2
  go_wp2_with fail
  refine ((unhide HCP) w2 (unhide B2) hbw2).mono ?_
  rintro e w3 ⟨sa, rfl, hra, hb3⟩
  have L3 := hide ((unhide L2).below hb3)
  clear HCP L2 B2 hb3
  obtain ⟨_, ⟨rfl, hnil⟩ | ⟨ba, ca, rfl, _, hca, hoa⟩⟩ := hra
  · have hm0 : m = 0 := by have := congrArg List.length hnil; rwa [firstPl_length] at this
    subst hm0
    have fin := hide (show LaidP base w PB C E cv ev sv ahead (all true (f + 1) (part v a) ahead) w3 from ⟨_, _, by rw [unhide HE]; rw [show allK (all true f) ob (keysAt v a) (subs v a) ahead 0 = [] from rfl, List.append_nil]; exact unhide L3⟩)
    go_wp2_with fail
    refine wp_loop_rounds 1 ?_
    rw [rounds_succ]
    go_wp2_with fail
    go_end0
    exact ⟨rfl, unhide fin⟩
  · rw [firstPl_length] at hca ⊢
    have HOA := hide hoa
    clear hoa
    go_wp2_with fail
    go_loopg [25] m (fun gh s25 wr => ∃ (k : Nat) (cvk evk : Value), Hid (gh = m - k) ∧ s25 = .int .i64 (k : Int) ∧ k ≤ m ∧ Hid (Laid' base w wr PB C E cv ev sv ahead (O ++ allK (all true f) ob (keysAt v a) (subs v a) ahead k) cvk evk) ∧ Hid (OwnI wr ba (firstPl v a m)))
    case atStart => exact ⟨0, cv2, ev2, rfl, rfl, by omega, by rw [show allK (all true f) ob (keysAt v a) (subs v a) ahead 0 = [] from rfl, List.append_nil]; exact unhide L3, unhide HOA⟩
    case round =>
      clear L3 HOA
      obtain ⟨k, cvk, evk, hg, rfl, hk, hLk, hOI⟩ := hrel
      by_cases hlt : k < m
      · have hat := (unhide HAT) k hlt
        have fa := hOI.out.cell (i := k) (by rw [firstPl_length]; exact hlt)
        rw [firstPl_getD v a m k hlt] at fa
        have hup := hat.up
        have hlen := hat.len
        have hilo := hat.lo
        have hbk := (unhide HB) k (by omega)
        have hplt := hat.lt
        have hpval := hat.val
        have hkey := hat.key
        have hsub := hat.sub
        generalize M.iter v k (a + 1) = p at *
        generalize M.iter (part v a) k 1 = ik at *
        generalize M.iter (part v a) (k + 1) 1 = ik1 at *
        have hbel := hLk.out.fr.low (unhide HL) (unhide HS) hbw
        have hbw3 := Nat.le_trans hbw hLk.out.fr.size
        have HST := hide (fun W (hW : Below wr.heap.size wr W) => stepTo_any v b off cap a k p W ha hplt ((unhide HRW) W (hbel.trans (hW.mono hbw3))) (by have := hW.size; omega) hcap hvl (keysAt v a) hkey.symm)
        rw [unhide HCL, unhide HOB] at HST
        have HALLK := hide (show O ++ allK (all true f) ob (keysAt v a) (subs v a) ahead (k + 1) = (O ++ allK (all true f) ob (keysAt v a) (subs v a) ahead k) ++ all true f (part v p) (ahead ++ [stepAt ob (keysAt v a) k]) by rw [allK, hsub, List.append_assoc])
        obtain ⟨L, hL⟩ : ∃ L, L = O ++ allK (all true f) ob (keysAt v a) (subs v a) ahead k := ⟨_, rfl⟩
        rw [← hL] at hLk hbk HALLK
        clear hL hat hsub hkey
        obtain ⟨st, hst⟩ : ∃ st, st = stepAt ob (keysAt v a) k := ⟨_, rfl⟩
        rw [← hst] at HST HALLK
        clear hst
        have hk0 : (0 : Int) ≤ (k : Int) := by omega
        have hltI : (k : Int) < (m : Int) := by omega
        have HLT := hide hlt
        have HPV := hide hpval
        clear hlt hpval
        go_wp2_with fail
        refine ((unhide HST) wr (Below.refl _ _)).mono ?_
        rintro e4 w4 ⟨rfl, hb4⟩
        obtain ⟨W5, hW5⟩ : ∃ W5, W5 = w4.alloc (.cells #[.int .i64 st.kind, .int .i64 st.num, .string st.text, .string st.key, .int .i64 st.n] 44) := ⟨_, rfl⟩
        have B5 : Below wr.heap.size wr W5 := by rw [hW5]; exact hb4.alloc hb4.size _
        have B45 : Below w4.heap.size w4 W5 := by rw [hW5]; exact (Below.refl _ _).alloc (Nat.le_refl _) _
        have HN5 := hide (show ∀ j u, (flat [st])[j]? = some u → W5.cell? ((⟨w4.heap.size, 0, none⟩ : Addr).add j) = some u by rw [hW5]; exact one_words w4 st)
        have L5 := hide (hLk.out.below B5)
        have OI5 := hide (hOI.out.below B5 hOI.out.lt)
        have hb5 : base ≤ W5.heap.size := Nat.le_trans hbw3 B5.size
        have hfl := hide (flat_one [st])
        clear HST hb4 fa hLk hOI hbel B45
        have hb63 : ahead.length + 1 ≤ maxLen := by unfold maxLen; omega
        have hby : (ahead.length + 1) * 56 ≤ 140737488355328 := by omega
        go_wp2_with (at_builtin; rw [← hW5]; refine wpList_app rfl (.tmp 33) (.tmp 39) 27 rfl 44 i0 _ 5 56 Tryd.underlying27 hi hz0 hz1 hz2 rfl (by decide) base sv ahead.length (flat ahead) rfl (unhide L5).st ⟨w4.heap.size, 0, none⟩ 1 1 rfl (flat [st]) (by rfl) (unhide HN5) (unhide hfl) hb63 hby hb5 ?_)
        intro sv1 W6 ho6 hk6 hg6 hcs6
        rw [← flat_append] at ho6
        rw [← hW5] at hg6 hcs6
        have hcs6 := hcs6.imp id (fun h => (show (∀ g, sv1.ownBlock = some g → W5.heap.size ≤ g) ∧ W5.grownBy W6 none from ⟨fun g hg => by have := h.1 g hg; rw [hW5]; simpa using this, h.2⟩))
        obtain ⟨ls6, ds6, ch6⟩ := Laid'.child (unhide L5) (unhide HS) (unhide HL) (unhide HD) hbw ho6 hk6 hg6 hcs6
        have hlw := (unhide HS).1
        have B06 : Below base w W6 := ((unhide L5).fr.low (unhide HL) (unhide HS) hbw).grown hg6 hb5 (ownsRow_base (unhide HS))
        have hb6 : base ≤ W6.heap.size := Nat.le_trans hb5 hg6.size
        have HIH := hide (ih.out v b off cap p (ahead ++ [st]) sv1 base PB _ _ cvk evk W6 (unhide HV) hplt (by omega) ((unhide HRW) W6 B06) hb hb6 hcap ls6 (by rw [List.length_append]; exact ho6) ds6 (by rw [List.length_append, List.length_cons, List.length_nil]; omega) (by rw [List.length_append]; omega) (by rw [List.length_append, ends_length]; omega))
        have OI6 : OwnI W6 ba (firstPl v a m) := by
          obtain ⟨ys, y1, y2⟩ := unhide OI5
          exact ⟨ys, grown_own hg6 y1 (other_block (unhide L5).st y1 (by decide)), y2⟩
        have OI7 := hide (fun w7 (hf7 : Fr W6 w7 PB cvk evk sv1) => (show OwnI w7 ba (firstPl v a m) by
          obtain ⟨ys, y1, y2⟩ := OI6
          exact ⟨ys, hf7.other ls6 (ahead := ahead ++ [st]) (by rw [List.length_append]; exact ho6) y1 (by decide) (by decide) (by decide), y2⟩))
        have CH := hide ch6
        clear ls6 ds6 ch6 ho6 hk6 hg6 hcs6 L5 OI5 HN5 hfl hW5 B5 OI6 B06 hb63 hby
        go_wp2_with fail
        refine (unhide HIH).mono ?_
        rintro e7 w7 ⟨rfl, cv7, ev7, hl7⟩
        have L7 := hide ((unhide CH) w7 cv7 ev7 _ hl7)
        rw [← unhide HALLK] at L7
        have O7 := hide ((unhide OI7) w7 hl7.fr)
        clear HIH CH OI7 hl7 HALLK
        go_wp2_with fail
        go_roundg (m - (k + 1))
        case rel => exact ⟨k + 1, cv7, ev7, rfl, by go_num, by have := unhide HLT; omega, unhide L7, unhide O7⟩
        case measure => have := hg.out; have := unhide HLT; omega
      · have hke : k = m := by omega
        have fin := hide (show LaidP base w PB C E cv ev sv ahead (all true (f + 1) (part v a) ahead) wr from ⟨_, _, by rw [unhide HE, ← hke]; exact hLk.out⟩)
        clear hke hLk
        go_wp2_with fail
        go_end0
        exact ⟨rfl, unhide fin⟩

set_option maxRecDepth 100000 in
set_option maxHeartbeats 4000000 in
theorem from_not (f : Nat) (ih : Hid (LaySays true (.func (.func 48) #[] #[]) f)) (v : List M.Cl) (b off cap a : Nat) (ahead : List M.Cl) (sv : Value) (base PB : Nat) (C : List M.Cl) (E : List Nat) (cv ev : Value) (w : World) (hv : M.valueFault v = 0) (ha : a < v.length) (hf : (part v a).length ≤ f + 1) (hrow : Row w b off v) (hb : b < base) (hbw : base ≤ w.heap.size) (hcap : v.length ≤ cap)
    (h : Ls base w PB C E cv ev) (hs : w.ownsRow base 44 5 sv ahead.length (flat ahead)) (hd : Dis cv sv) (hsz : ahead.length + (part v a).length ≤ 300) (hC : C.length + 301 * (part v a).length ≤ 100000) (hE : E.length + (part v a).length ≤ 1000) (h0 : (v.getD a M.zero).n ≠ 0) :
    Calls Tryd.prog 69 #[.pointer (some ⟨PB, 0, none⟩), .slice (some ⟨b, off, none⟩) v.length cap, .int .i64 (a : Int), sv, .func (.func 48) #[] #[]] w fun e w' => e = .returned (.tuple #[]) ∧ LaidP base w PB C E cv ev sv ahead (all true (f + 1) (part v a) ahead) w' := by
  have hvl := (M.fault_zero hv).2.1
  have HB := hide (fun k hk => bound_at true f hv ha ahead hsz k hk)
  have HAT := hide (fun k hk => at_place hv ha (k := k) hk)
  have HE := hide (all_part true f hv ha ahead)
  have HRW := hide (fun W (h : Below base w W) => (show Row W b off v from hrow.below h hb))
  have hbl : b < w.heap.size := Nat.lt_of_lt_of_le hb hbw
  have HCP := hide (fun W (h : Below base w W) (hl : base ≤ W.heap.size) => childPlaces_any v b off cap a W hv ha (hrow.below h hb) (by omega) hcap)
  have hA : M.arity v a ≤ 200 := (M.places_in hv a ha).2.2.2
  have HV := hide hv
  have HL := hide h
  have HS := hide hs
  have HD := hide hd
  obtain ⟨i0, hi, hz0, hz1, hz2⟩ := info_parts Tryd.info44
  obtain ⟨f0, f1, f2, f3, f4⟩ := hrow a ha
  have aI : (a : Int) < (v.length : Int) := by omega
  have a0 : (0 : Int) ≤ (a : Int) := by omega
  have HW := hide (wantL (v.getD a M.zero) w)
  obtain ⟨O, hO⟩ : ∃ O, O = own true (v.getD a M.zero).n ahead := ⟨_, rfl⟩
  rw [← hO] at HB HE
  have HOWN : Hid (O = []) := hide (by rw [hO]; exact if_neg (fun h => h.elim (fun h => by cases h) h0))
  rw [show ((v.getD a M.zero).n == 0) = false from beq_eq_false_iff_ne.2 h0] at HW
  clear h0
  clear hO
  clear hv hrow h hs hd
  generalize hcell : v.getD a M.zero = c at *
  have HCL := hide hcell
  clear hcell
  go_enter Tryd.func69, Tryd.ntmps69
  go_wp2_with fail
  refine (unhide HW).mono ?_
  rintro e w1 ⟨rfl, hb1⟩
  have L1 := hide ((Laid'.start (unhide HL) (unhide HS)).below hb1)
  clear f0 f1 f2 f3 f4 HW
  obtain ⟨w2, hw2⟩ : ∃ w2, w2 = w1 := ⟨_, rfl⟩
  have L2 : Hid (LaidP base w PB C E cv ev sv ahead O w2) := hide ⟨cv, ev, by rw [unhide HOWN, hw2]; exact unhide L1⟩
  clear hb1
  subst hw2
  obtain ⟨m, hm⟩ : ∃ m, m = M.arity v a := ⟨_, rfl⟩
  rw [← hm] at HB HAT HE HCP hA
  have HM := hide hm
  clear hm
  generalize hob : decide (c.kind = 6) = ob at *
  have HOB := hide hob
  clear hob
  obtain ⟨cv2, ev2, L2⟩ := L2.out
  have B2 := hide (L2.fr.low (unhide HL) (unhide HS) hbw)
  have hbw2 := Nat.le_trans hbw L2.fr.size
  have L2 := hide L2
  go_wp2_with fail
  refine ((unhide HCP) w2 (unhide B2) hbw2).mono ?_
  rintro e w3 ⟨sa, rfl, hra, hb3⟩
  have L3 := hide ((unhide L2).below hb3)
  clear HCP L2 B2 hb3
  obtain ⟨_, ⟨rfl, hnil⟩ | ⟨ba, ca, rfl, _, hca, hoa⟩⟩ := hra
  · have hm0 : m = 0 := by have := congrArg List.length hnil; rwa [firstPl_length] at this
    subst hm0
    have fin := hide (show LaidP base w PB C E cv ev sv ahead (all true (f + 1) (part v a) ahead) w3 from ⟨_, _, by rw [unhide HE]; rw [show allK (all true f) ob (keysAt v a) (subs v a) ahead 0 = [] from rfl, List.append_nil]; exact unhide L3⟩)
    go_wp2_with fail
    refine wp_loop_rounds 1 ?_
    rw [rounds_succ]
    go_wp2_with fail
    go_end0
    exact ⟨rfl, unhide fin⟩
  · rw [firstPl_length] at hca ⊢
    have HOA := hide hoa
    clear hoa
    go_wp2_with fail
    go_loopg [25] m (fun gh s25 wr => ∃ (k : Nat) (cvk evk : Value), Hid (gh = m - k) ∧ s25 = .int .i64 (k : Int) ∧ k ≤ m ∧ Hid (Laid' base w wr PB C E cv ev sv ahead (O ++ allK (all true f) ob (keysAt v a) (subs v a) ahead k) cvk evk) ∧ Hid (OwnI wr ba (firstPl v a m)))
    case atStart => exact ⟨0, cv2, ev2, rfl, rfl, by omega, by rw [show allK (all true f) ob (keysAt v a) (subs v a) ahead 0 = [] from rfl, List.append_nil]; exact unhide L3, unhide HOA⟩
    case round =>
      clear L3 HOA
      obtain ⟨k, cvk, evk, hg, rfl, hk, hLk, hOI⟩ := hrel
      by_cases hlt : k < m
      · have hat := (unhide HAT) k hlt
        have fa := hOI.out.cell (i := k) (by rw [firstPl_length]; exact hlt)
        rw [firstPl_getD v a m k hlt] at fa
        have hup := hat.up
        have hlen := hat.len
        have hilo := hat.lo
        have hbk := (unhide HB) k (by omega)
        have hplt := hat.lt
        have hpval := hat.val
        have hkey := hat.key
        have hsub := hat.sub
        generalize M.iter v k (a + 1) = p at *
        generalize M.iter (part v a) k 1 = ik at *
        generalize M.iter (part v a) (k + 1) 1 = ik1 at *
        have hbel := hLk.out.fr.low (unhide HL) (unhide HS) hbw
        have hbw3 := Nat.le_trans hbw hLk.out.fr.size
        have HST := hide (fun W (hW : Below wr.heap.size wr W) => stepTo_any v b off cap a k p W ha hplt ((unhide HRW) W (hbel.trans (hW.mono hbw3))) (by have := hW.size; omega) hcap hvl (keysAt v a) hkey.symm)
        rw [unhide HCL, unhide HOB] at HST
        have HALLK := hide (show O ++ allK (all true f) ob (keysAt v a) (subs v a) ahead (k + 1) = (O ++ allK (all true f) ob (keysAt v a) (subs v a) ahead k) ++ all true f (part v p) (ahead ++ [stepAt ob (keysAt v a) k]) by rw [allK, hsub, List.append_assoc])
        obtain ⟨L, hL⟩ : ∃ L, L = O ++ allK (all true f) ob (keysAt v a) (subs v a) ahead k := ⟨_, rfl⟩
        rw [← hL] at hLk hbk HALLK
        clear hL hat hsub hkey
        obtain ⟨st, hst⟩ : ∃ st, st = stepAt ob (keysAt v a) k := ⟨_, rfl⟩
        rw [← hst] at HST HALLK
        clear hst
        have hk0 : (0 : Int) ≤ (k : Int) := by omega
        have hltI : (k : Int) < (m : Int) := by omega
        have HLT := hide hlt
        have HPV := hide hpval
        clear hlt hpval
        go_wp2_with fail
        refine ((unhide HST) wr (Below.refl _ _)).mono ?_
        rintro e4 w4 ⟨rfl, hb4⟩
        obtain ⟨W5, hW5⟩ : ∃ W5, W5 = w4.alloc (.cells #[.int .i64 st.kind, .int .i64 st.num, .string st.text, .string st.key, .int .i64 st.n] 44) := ⟨_, rfl⟩
        have B5 : Below wr.heap.size wr W5 := by rw [hW5]; exact hb4.alloc hb4.size _
        have B45 : Below w4.heap.size w4 W5 := by rw [hW5]; exact (Below.refl _ _).alloc (Nat.le_refl _) _
        have HN5 := hide (show ∀ j u, (flat [st])[j]? = some u → W5.cell? ((⟨w4.heap.size, 0, none⟩ : Addr).add j) = some u by rw [hW5]; exact one_words w4 st)
        have L5 := hide (hLk.out.below B5)
        have OI5 := hide (hOI.out.below B5 hOI.out.lt)
        have hb5 : base ≤ W5.heap.size := Nat.le_trans hbw3 B5.size
        have hfl := hide (flat_one [st])
        clear HST hb4 fa hLk hOI hbel B45
        have hb63 : ahead.length + 1 ≤ maxLen := by unfold maxLen; omega
        have hby : (ahead.length + 1) * 56 ≤ 140737488355328 := by omega
        go_wp2_with (at_builtin; rw [← hW5]; refine wpList_app rfl (.tmp 33) (.tmp 39) 27 rfl 44 i0 _ 5 56 Tryd.underlying27 hi hz0 hz1 hz2 rfl (by decide) base sv ahead.length (flat ahead) rfl (unhide L5).st ⟨w4.heap.size, 0, none⟩ 1 1 rfl (flat [st]) (by rfl) (unhide HN5) (unhide hfl) hb63 hby hb5 ?_)
        intro sv1 W6 ho6 hk6 hg6 hcs6
        rw [← flat_append] at ho6
        rw [← hW5] at hg6 hcs6
        have hcs6 := hcs6.imp id (fun h => (show (∀ g, sv1.ownBlock = some g → W5.heap.size ≤ g) ∧ W5.grownBy W6 none from ⟨fun g hg => by have := h.1 g hg; rw [hW5]; simpa using this, h.2⟩))
        obtain ⟨ls6, ds6, ch6⟩ := Laid'.child (unhide L5) (unhide HS) (unhide HL) (unhide HD) hbw ho6 hk6 hg6 hcs6
        have hlw := (unhide HS).1
        have B06 : Below base w W6 := ((unhide L5).fr.low (unhide HL) (unhide HS) hbw).grown hg6 hb5 (ownsRow_base (unhide HS))
        have hb6 : base ≤ W6.heap.size := Nat.le_trans hb5 hg6.size
        have HIH := hide (ih.out v b off cap p (ahead ++ [st]) sv1 base PB _ _ cvk evk W6 (unhide HV) hplt (by omega) ((unhide HRW) W6 B06) hb hb6 hcap ls6 (by rw [List.length_append]; exact ho6) ds6 (by rw [List.length_append, List.length_cons, List.length_nil]; omega) (by rw [List.length_append]; omega) (by rw [List.length_append, ends_length]; omega))
        have OI6 : OwnI W6 ba (firstPl v a m) := by
          obtain ⟨ys, y1, y2⟩ := unhide OI5
          exact ⟨ys, grown_own hg6 y1 (other_block (unhide L5).st y1 (by decide)), y2⟩
        have OI7 := hide (fun w7 (hf7 : Fr W6 w7 PB cvk evk sv1) => (show OwnI w7 ba (firstPl v a m) by
          obtain ⟨ys, y1, y2⟩ := OI6
          exact ⟨ys, hf7.other ls6 (ahead := ahead ++ [st]) (by rw [List.length_append]; exact ho6) y1 (by decide) (by decide) (by decide), y2⟩))
        have CH := hide ch6
        clear ls6 ds6 ch6 ho6 hk6 hg6 hcs6 L5 OI5 HN5 hfl hW5 B5 OI6 B06 hb63 hby
        go_wp2_with fail
        refine (unhide HIH).mono ?_
        rintro e7 w7 ⟨rfl, cv7, ev7, hl7⟩
        have L7 := hide ((unhide CH) w7 cv7 ev7 _ hl7)
        rw [← unhide HALLK] at L7
        have O7 := hide ((unhide OI7) w7 hl7.fr)
        clear HIH CH OI7 hl7 HALLK
        go_wp2_with fail
        go_roundg (m - (k + 1))
        case rel => exact ⟨k + 1, cv7, ev7, rfl, by go_num, by have := unhide HLT; omega, unhide L7, unhide O7⟩
        case measure => have := hg.out; have := unhide HLT; omega
      · have hke : k = m := by omega
        have fin := hide (show LaidP base w PB C E cv ev sv ahead (all true (f + 1) (part v a) ahead) wr from ⟨_, _, by rw [unhide HE, ← hke]; exact hLk.out⟩)
        clear hke hLk
        go_wp2_with fail
        go_end0
        exact ⟨rfl, unhide fin⟩

theorem saysL : ∀ f, LaySays true (.func (.func 48) #[] #[]) f := by
  intro f
  induction f with
  | zero => intro v b off cap a ahead sv base PB C E cv ev w hv ha hf; have := (fault_len (part_valid hv ha)).1; omega
  | succ f ih =>
    intro v b off cap a ahead sv base PB C E cv ev w hv ha hf hrow hb hbw hcap h hs hd hsz hC hE
    by_cases h0 : (v.getD a M.zero).n = 0
    · exact from_leaf f (hide ih) v b off cap a ahead sv base PB C E cv ev w hv ha hf hrow hb hbw hcap h hs hd hsz hC hE h0
    · exact from_not f (hide ih) v b off cap a ahead sv base PB C E cv ev w hv ha hf hrow hb hbw hcap h hs hd hsz hC hE h0
end Al
end Go.Proofs.YtlbmpldknfcfhaaDoor
