/-
  The program's list of paths, as it lies in memory: what is laid, where it ends, and what of memory is kept while paths are laid.
  impl.layPath, impl.lay, impl.stepTo.
  impl.stepTo, the closures that say which paths are wanted, and how much is laid.
-/
import Derived.Test.YtcglddahphkcpaaGreatDoorV36
import Derived.ArgAppend
import Derived.Deep.DeepAppendRoom
import Derived.Maps.AppendAt
namespace Go.Proofs.YtcglddahphkcpaaGreatDoor
open Go.RowKit
set_option linter.unusedVariables false
set_option linter.unusedSimpArgs false
namespace Al
/-- The first of what an owned row holds, as a shorter slice of it. -/
theorem owns_prefix {w : World} {base g cap n m size : Nat} {e : TypeId} {xs ys : List Value} (h : w.ownsRow base e size (.slice (some ⟨g, 0, none⟩) (n + m) cap) (n + m) (xs ++ ys)) (hx : xs.length = n * size) : w.ownsRow base e size (.slice (some ⟨g, 0, none⟩) n cap) n xs := by
  obtain ⟨h1, ⟨h2, _⟩ | ⟨g', cap', cur, e1, h3, h4, h5, h6, h7, h8⟩⟩ := h
  · cases h2
  · cases e1
    refine ⟨hx, .inr ⟨g, cap, cur, rfl, h3, h4, by omega, h6, h7, ?_⟩⟩
    have e2 : cur.toList.take (n * size) = (cur.toList.take ((n + m) * size)).take (n * size) := by
      rw [List.take_take, Nat.min_eq_left (Nat.mul_le_mul_right size (Nat.le_add_right n m))]
    rw [e2, h8, ← hx, List.take_left]
theorem ownsMono {w : World} {B B' : Nat} {e : TypeId} {k : Nat} {v : Value} {n : Nat} {xs : List Value} (h : w.ownsRow B e k v n xs) (hB : B' ≤ B) : w.ownsRow B' e k v n xs := by
  obtain ⟨h1, h2 | ⟨g, cap, cur, q1, q2, q3⟩⟩ := h
  · exact ⟨h1, .inl h2⟩
  · exact ⟨h1, .inr ⟨g, cap, cur, q1, Nat.le_trans hB q2, q3⟩⟩
section
variable {P : Program}
/-- An append to a row of the call's own: the old slice still holds what it held. -/
theorem run_app (w : World) (base : Nat) (t ty e : TypeId) (i : TypeInfo) (z : Value) (size bytes : Nat) (ht : P.underlying t = some (.slice e)) (hi : P.info? e = some i) (hz : i.zero = some z)
    (hsize : i.size = size) (hby : i.bytes = bytes) (hzs : z.cells.size = size) (hsz : 0 < size)
    (v : Value) (n : Nat) (xs : List Value) (hown : w.ownsRow base e size v n xs)
    (a : Addr) (m c : Nat) (news : List Value) (hl : news.length = m * size) (hnews : ∀ j u, news[j]? = some u → w.cell? (a.add j) = some u) (h1 : ∀ u ∈ news, u.oneCell' = true)
    (h63 : n + m ≤ maxLen) (hbytes : (n + m) * bytes ≤ 140737488355328) (hbase : base ≤ w.heap.size) :
    ∃ v' w', (Builtin.append_ #[t, t] ty #[v, .slice (some a) m c]).run P w = .ok v' w' ∧ w'.ownsRow base e size v' (n + m) (xs ++ news) ∧ w'.ownsRow base e size v n xs ∧ w.grownBy w' v.ownBlock ∧
      ((∃ g cap, v = .slice (some ⟨g, 0, none⟩) n cap ∧ v' = .slice (some ⟨g, 0, none⟩) (n + m) cap) ∨ ((∀ g, v'.ownBlock = some g → w.heap.size ≤ g) ∧ w.grownBy w' none)) := by
  have hxl := hown.1
  rcases hown.2 with ⟨rfl, h0⟩ | ⟨g, cap, cur, rfl, q1, q2, q3, q4, q5, q6⟩
  · obtain ⟨v', w', r1, r2, r3, _, r5⟩ := run_append_own_at (P := P) (w := w) base t ty e i z size bytes ht hi hz hsize hby hzs hsz _ n xs hown a m c news hl hnews h1 h63 hbytes hbase
    refine ⟨v', w', r1, r2, ⟨hxl, .inl ⟨rfl, h0⟩⟩, r3, .inr ⟨fun g hg => ?_, r3⟩⟩
    rcases r5 with r5 | r5
    · rw [r5] at hg; cases hg
    · rw [r5] at hg; cases hg; exact Nat.le_refl _
  · by_cases hr : n + m ≤ cap
    · obtain ⟨w', r1, r2, r3⟩ := run_append_own_spare (P := P) (w := w) base t ty e i size ht hi hsize g n cap xs hown a m c news hl hnews h1 hr
      exact ⟨_, w', r1, r2, owns_prefix r2 hxl, r3, .inl ⟨g, cap, rfl, rfl⟩⟩
    · have holds : ∀ j u, xs[j]? = some u → w.cell? ((⟨g, 0, none⟩ : Addr).add j) = some u := fun j u hu => by
        have hj : j < n * size := by rw [← hxl]; exact (List.getElem?_eq_some_iff.1 hu).1
        rw [Go.WideShapes.add_plain, Nat.zero_add, cell_in q2, ← hu, ← q6, List.getElem?_take_of_lt hj]
      obtain ⟨v', w', r1, r2, r3⟩ := run_append_arg_grows (P := P) (w := w) t ty e i z size bytes ht hi hz hsize hby hzs hsz ⟨g, 0, none⟩ n cap xs hxl holds a m c news hl hnews (by omega) h63 hbytes
      refine ⟨v', w', r1, ownsMono r2 hbase, ⟨hxl, .inr ⟨g, cap, cur, rfl, q1, (r3.block g (Array.getElem?_eq_some_iff.1 q2).1 (by simp)).trans q2, q3, q4, q5, q6⟩⟩, ⟨r3.os, r3.tape, r3.output, r3.size, fun k hk _ => r3.block k hk (by simp)⟩, .inr ⟨fun g' hg' => ownsRow_base r2 g' hg', r3⟩⟩
/-- An append of a row that lies somewhere, or of nil, whatever the size of its elements. -/
theorem run_rowN (w : World) (t ty e : TypeId) (i : TypeInfo) (z : Value) (size bytes : Nat) (ht : P.underlying t = some (.slice e)) (hi : P.info? e = some i) (hz : i.zero = some z) (hsize : i.size = size) (hby : i.bytes = bytes) (hzs : z.cells.size = size) (hsz : 0 < size)
    (base : Nat) (v : Value) (n : Nat) (xs : List Value) (hown : w.ownsRow base e size v n xs) (x : Value) (m : Nat) (ys : List Value) (hm : ys.length = m * size)
    (hx : (x = .slice none 0 0 ∧ ys = []) ∨ ∃ ad c, x = .slice (some ad) m c ∧ ∀ j u, ys[j]? = some u → w.cell? (ad.add j) = some u) (h1 : ∀ u ∈ ys, u.oneCell' = true)
    (h63 : n + m ≤ maxLen) (hbytes : (n + m) * bytes ≤ 140737488355328) (hbase : base ≤ w.heap.size) :
    ∃ v' w', (Builtin.append_ #[t, t] ty #[v, x]).run P w = .ok v' w' ∧ w'.ownsRow base e size v' (n + m) (xs ++ ys) ∧ w.grownBy w' v.ownBlock ∧ (v'.ownBlock = v.ownBlock ∨ ∀ g, v'.ownBlock = some g → w.heap.size ≤ g) := by
  rcases hx with ⟨rfl, rfl⟩ | ⟨ad, c, rfl, hc⟩
  · have hm0 : m = 0 := by
      rcases Nat.eq_zero_or_pos m with h | h
      · exact h
      · have := Nat.mul_pos h hsz; simp at hm; omega
    subst hm0
    subst hsize
    exact ⟨v, w, run_append_owned_none (P := P) (w := w) base t ty e i i.size ht hi v n xs hown, by simpa using hown, ⟨rfl, rfl, rfl, Nat.le_refl _, fun _ _ _ => rfl⟩, .inl rfl⟩
  · obtain ⟨v', w', hr, h2, h3, _, h5⟩ := run_append_own_at (P := P) (w := w) base t ty e i z size bytes ht hi hz hsize hby hzs hsz v n xs hown ad m c ys hm hc h1 h63 hbytes hbase
    refine ⟨v', w', hr, h2, h3, h5.imp id fun h g hg => ?_⟩
    rw [h] at hg; cases hg; exact Nat.le_refl _
theorem wp_rowN (w : World) {o : Oper} {a : Act} {K : Act → World → Prop} {Q : Exit → Act → World → Prop} (s x : Operand) (t : TypeId) (ho : o.op = .call { callee := .builtin .append, args := #[s, x], argTypes := #[t, t] })
    (e : TypeId) (i : TypeInfo) (z : Value) (size bytes : Nat) (ht : P.underlying t = some (.slice e)) (hi : P.info? e = some i) (hz : i.zero = some z) (hsize : i.size = size) (hby : i.bytes = bytes) (hzs : z.cells.size = size) (hsz : 0 < size)
    (base : Nat) (v : Value) (n : Nat) (xs : List Value) (hs : a.eval s = v) (hown : w.ownsRow base e size v n xs) (xv : Value) (hxv : a.eval x = xv) (m : Nat) (ys : List Value) (hm : ys.length = m * size)
    (hx : (xv = .slice none 0 0 ∧ ys = []) ∨ ∃ ad c, xv = .slice (some ad) m c ∧ ∀ j u, ys[j]? = some u → w.cell? (ad.add j) = some u) (h1 : ∀ u ∈ ys, u.oneCell' = true)
    (h63 : n + m ≤ maxLen) (hbytes : (n + m) * bytes ≤ 140737488355328) (hbase : base ≤ w.heap.size)
    (h : ∀ v' w', w'.ownsRow base e size v' (n + m) (xs ++ ys) → w.grownBy w' v.ownBlock → (v'.ownBlock = v.ownBlock ∨ ∀ g, v'.ownBlock = some g → w.heap.size ≤ g) → K (a.put o.dst v') w') : Oper.wp P o a w K Q := by
  obtain ⟨v', w', hr, h2, h3, h4⟩ := run_rowN (P := P) w t o.type e i z size bytes ht hi hz hsize hby hzs hsz base v n xs hown xv m ys hm hx h1 h63 hbytes hbase
  unfold Oper.wp execOp
  simp only [ho, resolve, invoke, builtin, Sem.run_bind, Sem.run_pure, Result.andThen_ok, List.map_toArray, List.map_cons, List.map_nil, hs, hxv, hr]
  exact h v' w' h2 h3 h4
theorem wp_app (w : World) {o : Oper} {a : Act} {K : Act → World → Prop} {Q : Exit → Act → World → Prop} (s x : Operand) (t : TypeId) (ho : o.op = .call { callee := .builtin .append, args := #[s, x], argTypes := #[t, t] })
    (e : TypeId) (i : TypeInfo) (z : Value) (size bytes : Nat) (ht : P.underlying t = some (.slice e)) (hi : P.info? e = some i) (hz : i.zero = some z) (hsize : i.size = size) (hby : i.bytes = bytes) (hzs : z.cells.size = size) (hsz : 0 < size)
    (base : Nat) (v : Value) (n : Nat) (xs : List Value) (hs : a.eval s = v) (hown : w.ownsRow base e size v n xs) (ad : Addr) (m c : Nat) (hxv : a.eval x = .slice (some ad) m c) (news : List Value) (hl : news.length = m * size)
    (hnews : ∀ j u, news[j]? = some u → w.cell? (ad.add j) = some u) (h1 : ∀ u ∈ news, u.oneCell' = true)
    (h63 : n + m ≤ maxLen) (hbytes : (n + m) * bytes ≤ 140737488355328) (hbase : base ≤ w.heap.size)
    (h : ∀ v' w', w'.ownsRow base e size v' (n + m) (xs ++ news) → w'.ownsRow base e size v n xs → w.grownBy w' v.ownBlock → ((∃ g cap, v = .slice (some ⟨g, 0, none⟩) n cap ∧ v' = .slice (some ⟨g, 0, none⟩) (n + m) cap) ∨ ((∀ g, v'.ownBlock = some g → w.heap.size ≤ g) ∧ w.grownBy w' none)) → K (a.put o.dst v') w') : Oper.wp P o a w K Q := by
  obtain ⟨v', w', hr, h2, h3, h4, h5⟩ := run_app (P := P) w base t o.type e i z size bytes ht hi hz hsize hby hzs hsz v n xs hown ad m c news hl hnews h1 h63 hbytes hbase
  unfold Oper.wp execOp
  simp only [ho, resolve, invoke, builtin, Sem.run_bind, Sem.run_pure, Result.andThen_ok, List.map_toArray, List.map_cons, List.map_nil, hs, hxv, hr]
  exact h v' w' h2 h3 h4 h5
theorem wpList_rowN {w : World} {ops : Array Oper} {rest : List Oper} {o : Oper} {a : Act} {Q : Exit → Act → World → Prop} (hgd : o.guard = none) (s x : Operand) (t : TypeId) (ho : o.op = .call { callee := .builtin .append, args := #[s, x], argTypes := #[t, t] })
    (e : TypeId) (i : TypeInfo) (z : Value) (size bytes : Nat) (ht : P.underlying t = some (.slice e)) (hi : P.info? e = some i) (hz : i.zero = some z) (hsize : i.size = size) (hby : i.bytes = bytes) (hzs : z.cells.size = size) (hsz : 0 < size)
    (base : Nat) (v : Value) (n : Nat) (xs : List Value) (hs : a.eval s = v) (hown : w.ownsRow base e size v n xs) (xv : Value) (hxv : a.eval x = xv) (m : Nat) (ys : List Value) (hm : ys.length = m * size)
    (hx : (xv = .slice none 0 0 ∧ ys = []) ∨ ∃ ad c, xv = .slice (some ad) m c ∧ ∀ j u, ys[j]? = some u → w.cell? (ad.add j) = some u) (h1 : ∀ u ∈ ys, u.oneCell' = true)
    (h63 : n + m ≤ maxLen) (hbytes : (n + m) * bytes ≤ 140737488355328) (hbase : base ≤ w.heap.size)
    (h : ∀ v' w', w'.ownsRow base e size v' (n + m) (xs ++ ys) → w.grownBy w' v.ownBlock → (v'.ownBlock = v.ownBlock ∨ ∀ g, v'.ownBlock = some g → w.heap.size ≤ g) → wpList P ops Q rest (a.put o.dst v') w') : wpList P ops Q (o :: rest) a w := by
  refine wpList_plain hgd fun K hK => ?_
  exact wp_rowN w s x t ho e i z size bytes ht hi hz hsize hby hzs hsz base v n xs hs hown xv hxv m ys hm hx h1 h63 hbytes hbase fun v' w' h2 h3 h4 => hK _ _ (h v' w' h2 h3 h4)
theorem wpList_app {w : World} {ops : Array Oper} {rest : List Oper} {o : Oper} {a : Act} {Q : Exit → Act → World → Prop} (hgd : o.guard = none) (s x : Operand) (t : TypeId) (ho : o.op = .call { callee := .builtin .append, args := #[s, x], argTypes := #[t, t] })
    (e : TypeId) (i : TypeInfo) (z : Value) (size bytes : Nat) (ht : P.underlying t = some (.slice e)) (hi : P.info? e = some i) (hz : i.zero = some z) (hsize : i.size = size) (hby : i.bytes = bytes) (hzs : z.cells.size = size) (hsz : 0 < size)
    (base : Nat) (v : Value) (n : Nat) (xs : List Value) (hs : a.eval s = v) (hown : w.ownsRow base e size v n xs) (ad : Addr) (m c : Nat) (hxv : a.eval x = .slice (some ad) m c) (news : List Value) (hl : news.length = m * size)
    (hnews : ∀ j u, news[j]? = some u → w.cell? (ad.add j) = some u) (h1 : ∀ u ∈ news, u.oneCell' = true)
    (h63 : n + m ≤ maxLen) (hbytes : (n + m) * bytes ≤ 140737488355328) (hbase : base ≤ w.heap.size)
    (h : ∀ v' w', w'.ownsRow base e size v' (n + m) (xs ++ news) → w'.ownsRow base e size v n xs → w.grownBy w' v.ownBlock → ((∃ g cap, v = .slice (some ⟨g, 0, none⟩) n cap ∧ v' = .slice (some ⟨g, 0, none⟩) (n + m) cap) ∨ ((∀ g, v'.ownBlock = some g → w.heap.size ≤ g) ∧ w.grownBy w' none)) → wpList P ops Q rest (a.put o.dst v') w') : wpList P ops Q (o :: rest) a w := by
  refine wpList_plain hgd fun K hK => ?_
  exact wp_app w s x t ho e i z size bytes ht hi hz hsize hby hzs hsz base v n xs hs hown ad m c hxv news hl hnews h1 h63 hbytes hbase fun v' w' h2 h3 h4 h5 => hK _ _ (h v' w' h2 h3 h4 h5)
end

/-- A row lies where the old one lies, or in a new block. -/
def Nw (w : World) (x x' : Value) : Prop := x'.ownBlock = x.ownBlock ∨ ∀ g, x'.ownBlock = some g → w.heap.size ≤ g
theorem Nw.refl (w : World) (x : Value) : Nw w x x := .inl rfl
theorem Nw.trans {w w1 : World} {x y z : Value} (h : Nw w x y) (k : Nw w1 y z) (hs : w.heap.size ≤ w1.heap.size) : Nw w x z := by
  rcases k with k | k
  · rcases h with h | h
    · exact .inl (k.trans h)
    · exact .inr (fun g hg => h g (by rw [← k]; exact hg))
  · exact .inr (fun g hg => Nat.le_trans hs (k g hg))
def Dis (x y : Value) : Prop := ∀ g, x.ownBlock = some g → y.ownBlock ≠ some g
theorem Dis.new {w : World} {base n s : Nat} {e : TypeId} {x x' y : Value} {ys : List Value} (h : Dis x y) (hn : Nw w x x') (hy : w.ownsRow base e s y n ys) : Dis x' y := by
  intro g hg hg'
  rcases hn with hn | hn
  · exact h g (by rw [← hn]; exact hg) hg'
  · have := hn g hg
    have := (World.ownsRow.lt hy g hg').2
    omega
/-- A cell that was just laid, as an append reads it. -/
theorem one_words (w : World) (c : M.Cl) : ∀ j u, (flat [c])[j]? = some u → (w.alloc (.cells #[.int .i64 c.kind, .int .i64 c.num, .string c.text, .string c.key, .int .i64 c.n] 111)).cell? ((⟨w.heap.size, 0, none⟩ : Addr).add j) = some u := by
  obtain ⟨_, ⟨h, _⟩ | ⟨b', cap, e, _, _, ho⟩⟩ := one_cell w w.heap.size w.heap.size c rfl (Nat.le_refl _)
  · cases h
  · cases e
    exact row_words ho.row
end Al
end Go.Proofs.YtcglddahphkcpaaGreatDoor

namespace Go.Proofs.YtcglddahphkcpaaGreatDoor
open Go.RowKit
set_option linter.unusedVariables false
set_option linter.unusedSimpArgs false
namespace Al
/-- What an append reads of a row. -/
theorem rowN_read {w : World} {B : Nat} {t : TypeId} {s : Value} {n sz : Nat} {xs : List Value} (h : w.ownsRow B t sz s n xs) (h0 : n = 0 → xs = []) : (s = .slice none 0 0 ∧ xs = []) ∨ ∃ ad c, s = .slice (some ad) n c ∧ ∀ j u, xs[j]? = some u → w.cell? (ad.add j) = some u := by
  have hl := h.1
  rcases h.2 with ⟨h2, h3⟩ | ⟨g, cap, cur, h2, h3, h4, h5, h6, h7, h8⟩
  · exact .inl ⟨h2, h0 h3⟩
  · refine .inr ⟨⟨g, 0, none⟩, cap, h2, fun j u hu => ?_⟩
    have hj : j < n * sz := by rw [← hl]; exact (List.getElem?_eq_some_iff.1 hu).1
    rw [Go.WideShapes.add_plain, Nat.zero_add, cell_in h4, ← hu, ← h8, List.getElem?_take_of_lt hj]
theorem flat_nil_of {l : List M.Cl} (h : l.length = 0) : flat l = [] := by rw [List.length_eq_zero_iff.1 h]; rfl

end Al
end Go.Proofs.YtcglddahphkcpaaGreatDoor

namespace Go.Proofs.YtcglddahphkcpaaGreatDoor
open Go.RowKit
set_option linter.unusedVariables false
set_option linter.unusedSimpArgs false
namespace Al
set_option maxHeartbeats 1000000 in
theorem keyStep_any (s : ByteArray) (w : World) : Calls Tryz.prog 163 #[.string s] w fun e w' => e = .returned (.agg #[.int .i64 4, .int .i64 0, .string s, .string { data := #[] }, .int .i64 0]) ∧ Below w.heap.size w w' := by
  go_enter Tryz.func163, Tryz.ntmps163
  go_wp2_with fail
  refine bodyPost_ret (v := .agg #[.int .i64 4, .int .i64 0, .string s, .string { data := #[] }, .int .i64 0]) (by simp [results, Tryz.results163, go_sem]) rfl ⟨rfl, (Below.refl _ _).alloc (Nat.le_refl _) _⟩
set_option maxHeartbeats 1000000 in
theorem placeStep_any (n : Int) (w : World) : Calls Tryz.prog 164 #[.int .i64 n] w fun e w' => e = .returned (.agg #[.int .i64 3, .int .i64 n, .string { data := #[] }, .string { data := #[] }, .int .i64 0]) ∧ Below w.heap.size w w' := by
  go_enter Tryz.func164, Tryz.ntmps164
  go_wp2_with fail
  refine bodyPost_ret (v := .agg #[.int .i64 3, .int .i64 n, .string { data := #[] }, .string { data := #[] }, .int .i64 0]) (by simp [results, Tryz.results164, go_sem]) rfl ⟨rfl, (Below.refl _ _).alloc (Nat.le_refl _) _⟩
theorem below_set5 {w W : World} (B : Below w.heap.size w W) (x0 x1 x2 x3 x4 : Value) : Below w.heap.size w (((((W.setCell ⟨w.heap.size, 0, none⟩ x0).setCell ⟨w.heap.size, 1, none⟩ x1).setCell ⟨w.heap.size, 2, none⟩ x2).setCell ⟨w.heap.size, 3, none⟩ x3).setCell ⟨w.heap.size, 4, none⟩ x4) :=
  ((((B.setCell (Nat.le_refl _) _).setCell (Nat.le_refl _) _).setCell (Nat.le_refl _) _).setCell (Nat.le_refl _) _).setCell (Nat.le_refl _) _

set_option maxRecDepth 100000 in
set_option maxHeartbeats 2000000 in
theorem stepTo_any (v : List M.Cl) (b off cap a k p : Nat) (w : World) (ha : a < v.length) (hp : p < v.length) (hrow : Row w b off v) (hb : b < w.heap.size) (hcap : v.length ≤ cap) (hn : v.length ≤ 200) (ks : List ByteArray) (hks : (v.getD p M.zero).key = ks.getD k ByteArray.empty) :
    Calls Tryz.prog 104 #[.slice (some ⟨b, off, none⟩) v.length cap, .int .i64 (a : Int), .int .i64 (k : Int), .int .i64 (p : Int)] w fun e w' => e = .returned (.agg #[.int .i64 (stepAt (decide ((v.getD a M.zero).kind = 6)) ks k).kind, .int .i64 (stepAt (decide ((v.getD a M.zero).kind = 6)) ks k).num, .string (stepAt (decide ((v.getD a M.zero).kind = 6)) ks k).text, .string (stepAt (decide ((v.getD a M.zero).kind = 6)) ks k).key, .int .i64 (stepAt (decide ((v.getD a M.zero).kind = 6)) ks k).n]) ∧ Below w.heap.size w w' := by
  have B0 : ∀ y, Below w.heap.size w (w.alloc y) := fun y => (Below.refl _ _).alloc (Nat.le_refl _) y
  have HB0 := hide B0
  have f0 : ∀ y, (w.alloc y).cell? ⟨b, off + a * 5, none⟩ = some (.int .i64 (v.getD a M.zero).kind) := fun y => ((B0 y).cell hb).trans (hrow a ha).1
  have f3 : ∀ y, (w.alloc y).cell? ⟨b, off + p * 5 + 3, none⟩ = some (.string (ks.getD k ByteArray.empty)) := fun y => by rw [← hks]; exact ((B0 y).cell hb).trans (hrow p hp).2.2.2.1
  have aI : (a : Int) < (v.length : Int) := by omega
  have pI : (p : Int) < (v.length : Int) := by omega
  have a0 : (0 : Int) ≤ (a : Int) := by omega
  have p0 : (0 : Int) ≤ (p : Int) := by omega
  have E6 := hide (fun h : (v.getD a M.zero).kind = 6 => (show stepAt (decide ((v.getD a M.zero).kind = 6)) ks k = ⟨4, 0, ks.getD k ByteArray.empty, ByteArray.empty, 0⟩ by rw [h]; rfl))
  have E5 := hide (fun h : (v.getD a M.zero).kind ≠ 6 => (show stepAt (decide ((v.getD a M.zero).kind = 6)) ks k = ⟨3, (k : Int), ByteArray.empty, ByteArray.empty, 0⟩ by rw [decide_eq_false h]; rfl))
  generalize ks.getD k ByteArray.empty = key at *
  generalize stepAt (decide ((v.getD a M.zero).kind = 6)) ks k = st at *
  clear hrow hks B0
  by_cases h6 : (v.getD a M.zero).kind = 6
  · have E := hide ((unhide E6) h6)
    have HK := hide (fun W => keyStep_any key W)
    rw [h6] at f0
    clear E5 E6 h6
    go_enter Tryz.func104, Tryz.ntmps104
    go_wp2_with fail
    refine ((unhide HK) _).mono ?_
    rintro e w1 ⟨rfl, hb1⟩
    have hR : Own w1 w.heap.size 111 [.int .i64 0, .int .i64 0, .string { data := #[] }, .string { data := #[] }, .int .i64 0] := Own.below ⟨_, heap_alloc_new _ _, rfl⟩ hb1 (by simp)
    have B1 : Below w.heap.size w w1 := ((unhide HB0) _).trans (hb1.mono (by simp))
    have r0 := hR.cell 0
    have r1 := hR.cell 1
    have r2 := hR.cell 2
    have r3 := hR.cell 3
    have r4 := hR.cell 4
    have z0 := hR.frozen 0
    have z1 := hR.frozen 1
    have z2 := hR.frozen 2
    have z3 := hR.frozen 3
    have z4 := hR.frozen 4
    simp only [List.getElem?_cons_zero, List.getElem?_cons_succ] at r0 r1 r2 r3 r4
    clear hb1 hR HK
    go_wp2_with fail
    refine bodyPost_ret (v := .agg #[.int .i64 4, .int .i64 0, .string key, .string { data := #[] }, .int .i64 0]) (by simp [results, Tryz.results104, go_sem, r0, r1, r2, r3, r4]) rfl ⟨by rw [unhide E]; rfl, below_set5 B1 _ _ _ _ _⟩
  · have E := hide ((unhide E5) h6)
    have HK := hide (fun W => placeStep_any (k : Int) W)
    have h6' : ((v.getD a M.zero).kind == 6) = false := beq_eq_false_iff_ne.2 h6
    generalize (v.getD a M.zero).kind = kd at *
    clear E5 E6 h6
    go_enter Tryz.func104, Tryz.ntmps104
    go_wp2_with fail
    refine ((unhide HK) _).mono ?_
    rintro e w1 ⟨rfl, hb1⟩
    have hR : Own w1 w.heap.size 111 [.int .i64 0, .int .i64 0, .string { data := #[] }, .string { data := #[] }, .int .i64 0] := Own.below ⟨_, heap_alloc_new _ _, rfl⟩ hb1 (by simp)
    have B1 : Below w.heap.size w w1 := ((unhide HB0) _).trans (hb1.mono (by simp))
    have r0 := hR.cell 0
    have r1 := hR.cell 1
    have r2 := hR.cell 2
    have r3 := hR.cell 3
    have r4 := hR.cell 4
    have z0 := hR.frozen 0
    have z1 := hR.frozen 1
    have z2 := hR.frozen 2
    have z3 := hR.frozen 3
    have z4 := hR.frozen 4
    simp only [List.getElem?_cons_zero, List.getElem?_cons_succ] at r0 r1 r2 r3 r4
    clear hb1 hR HK
    go_wp2_with fail
    refine bodyPost_ret (v := .agg #[.int .i64 3, .int .i64 (k : Int), .string { data := #[] }, .string { data := #[] }, .int .i64 0]) (by simp [results, Tryz.results104, go_sem, r0, r1, r2, r3, r4]) rfl ⟨by rw [unhide E]; rfl, below_set5 B1 _ _ _ _ _⟩

/-- What is known of a place within a value. -/
structure At (v : List M.Cl) (a : Nat) (k : Nat) : Prop where
  lt : M.iter v k (a + 1) < v.length
  sub : (subs v a).getD k [] = part v (M.iter v k (a + 1))
  val : M.valueFault (part v (M.iter v k (a + 1))) = 0
  key : (keysAt v a).getD k ByteArray.empty = (v.getD (M.iter v k (a + 1)) M.zero).key
  len : M.iter (part v a) k 1 + (part v (M.iter v k (a + 1))).length = M.iter (part v a) (k + 1) 1
  up : M.iter (part v a) (k + 1) 1 ≤ (part v a).length
  lo : k + 1 ≤ M.iter (part v a) k 1
theorem at_place {v : List M.Cl} (hv : M.valueFault v = 0) {a : Nat} (ha : a < v.length) {k : Nat} (hk : k < M.arity v a) : At v a k := by
  have hpv := part_valid hv ha
  have hk' : k < M.arity (part v a) 0 := by rw [part_arity hv ha]; exact hk
  obtain ⟨p1, p2, p3⟩ := part_lt hpv hk'
  have hi := iter_le hpv (Nat.le_of_lt hk')
  have hu := iter_le hpv (show k + 1 ≤ M.arity (part v a) 0 by omega)
  have hit := part_iter hv ha k (by omega)
  have hpl := part_len hv ha
  have hpp := part_part hv ha (M.iter (part v a) k 1) (by omega) (by omega)
  rw [show a + M.iter (part v a) k 1 = M.iter v k (a + 1) by omega] at hpp
  have he := end_gt hv ha
  exact ⟨by omega, subs_getD v a k hk, by rw [← hpp]; exact p3, keysAt_getD v a k hk, by rw [← hpp]; exact p2, hu.2, hi.1⟩
end Al
end Go.Proofs.YtcglddahphkcpaaGreatDoor
