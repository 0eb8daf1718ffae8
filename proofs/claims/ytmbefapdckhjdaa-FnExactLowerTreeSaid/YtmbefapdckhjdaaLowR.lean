/-
  A list of nodes of a core that is made: how it lies in memory, what a call that lays nodes may turn; spec.l6Put.
-/
import Derived.Test.YtmbefapdckhjdaaLowM
import Derived.Test.YtmbefapdckhjdaaCorL
import Derived.Test.YtmbefapdckhjdaaRes
import Derived.Test.YtmbefapdckhjdaaAnyZ
import Derived.Maps.AppendAt
namespace Go.Proofs.Ytmbefapdckhjdaa
open Go.RowKit
set_option linter.unusedVariables false
set_option linter.unusedSimpArgs false

namespace Lw
def nodeV (c : Co) (v : Value) : List Value := [.int .i64 c.op, .int .i64 c.a, .int .i64 c.b, .int .i64 c.c, .int .i64 c.num, v]
def flat (cs : List (Co × Value)) : List Value := cs.flatMap fun p => nodeV p.1 p.2
theorem flat_snoc (cs : List (Co × Value)) (c : Co) (v : Value) : flat (cs ++ [(c, v)]) = flat cs ++ nodeV c v := by simp [flat]
/-- The slice v holds the nodes of cs in a block of its own; each node's value lies in a block of its own. -/
def Rw (w : World) (base : Nat) (v : Value) (cs : List (Co × Value)) : Prop := w.ownsRow base 82 6 v cs.length (flat cs) ∧ ∀ p ∈ cs, Res w base p.2 p.1.val
theorem Rw.nil (w : World) (base : Nat) : Rw w base (.slice none 0 0) [] := ⟨World.ownsRow_nil _ _ _ _, fun p hp => by cases hp⟩
theorem Rw.slice {w : World} {base : Nat} {v : Value} {cs : List (Co × Value)} (h : Rw w base v cs) : ∃ a cap, v = .slice a cs.length cap := by
  obtain ⟨⟨_, ⟨h1, h2⟩ | ⟨g, cap, cur, h3, _⟩⟩, _⟩ := h
  · exact ⟨none, 0, by rw [h1, h2]⟩
  · exact ⟨_, cap, h3⟩
theorem Rw.typed {w : World} {base : Nat} {v : Value} {cs : List (Co × Value)} (h : Rw w base v cs) {b : Nat} (hb : v.ownBlock = some b) : base ≤ b ∧ ∃ c, w.heap[b]? = some (.cells c 82 (0, 0)) := by
  obtain ⟨⟨_, ⟨h1, h2⟩ | ⟨g, cap, cur, h3, hg, hh, _⟩⟩, _⟩ := h
  · rw [h1] at hb; cases hb
  · rw [h3] at hb; cases hb; exact ⟨hg, cur, hh⟩
theorem Rw.lt {w : World} {base : Nat} {v : Value} {cs : List (Co × Value)} (h : Rw w base v cs) {b : Nat} (hb : v.ownBlock = some b) : b < w.heap.size := by
  obtain ⟨_, c, hc⟩ := h.typed hb
  exact (Array.getElem?_eq_some_iff.1 hc).1
theorem res_typed {w : World} {B : Nat} {s : Value} {l : List M.Cl} (h : Res w B s l) {b : Nat} (hb : s.ownBlock = some b) : ∃ c, w.heap[b]? = some (.cells c 120 (0, 0)) := by
  obtain ⟨_, ⟨h1, _⟩ | ⟨g, cap, h1, _, _, xs, ⟨c, hc, _⟩, _⟩⟩ := h
  · rw [h1] at hb; cases hb
  · rw [h1] at hb; cases hb; exact ⟨c, hc⟩
/-- The block of the nodes and the block of a value are two. -/
theorem Rw.apart {w : World} {base B : Nat} {v s : Value} {cs : List (Co × Value)} {l : List M.Cl} (h : Rw w base v cs) (hr : Res w B s l) {b : Nat} (hb : v.ownBlock = some b) : s.ownBlock ≠ some b := by
  intro e
  obtain ⟨_, c, hc⟩ := h.typed hb
  obtain ⟨c', hc'⟩ := res_typed hr e
  rw [hc] at hc'
  simp only [Option.some.injEq, Obj.cells.injEq] at hc'
  exact absurd hc'.2.1 (by decide)
/-- A block of another kind than that of a value. -/
theorem res_ne {w : World} {B P : Nat} {s : Value} {l : List M.Cl} {t : TypeId} {xs : List Value} (hr : Res w B s l) (hP : Own w P t xs) (ht : t ≠ 120) : s.ownBlock ≠ some P := by
  intro e
  obtain ⟨c, hc⟩ := hP
  obtain ⟨c', hc'⟩ := res_typed hr e
  rw [hc.1] at hc'
  simp only [Option.some.injEq, Obj.cells.injEq] at hc'
  exact absurd hc'.2.1 ht
theorem Rw.ne {w : World} {base P : Nat} {v : Value} {cs : List (Co × Value)} {t : TypeId} {xs : List Value} (hr : Rw w base v cs) (hP : Own w P t xs) (ht : t ≠ 82) : v.ownBlock ≠ some P := by
  intro e
  obtain ⟨c, hc⟩ := hP
  obtain ⟨_, c', hc'⟩ := hr.typed e
  rw [hc.1] at hc'
  simp only [Option.some.injEq, Obj.cells.injEq] at hc'
  exact absurd hc'.2.1 ht

/-- What a call that lays nodes leaves: all blocks that were there but P and that of the nodes. -/
structure Fr (P : Nat) (v v' : Value) (w w' : World) : Prop where
  os : w'.os = w.os
  tape : w'.tape = w.tape
  output : w'.output = w.output
  size : w.heap.size ≤ w'.heap.size
  block : ∀ k, k < w.heap.size → k ≠ P → v.ownBlock ≠ some k → w'.heap[k]? = w.heap[k]?
  own : v'.ownBlock = v.ownBlock ∨ ∃ b, v'.ownBlock = some b ∧ w.heap.size ≤ b
theorem Fr.refl (P : Nat) (v : Value) (w : World) : Fr P v v w w := ⟨rfl, rfl, rfl, Nat.le_refl _, fun _ _ _ _ => rfl, .inl rfl⟩
theorem Fr.trans {P : Nat} {v v1 v2 : Value} {w w1 w2 : World} (h : Fr P v v1 w w1) (k : Fr P v1 v2 w1 w2) : Fr P v v2 w w2 :=
  ⟨k.os.trans h.os, k.tape.trans h.tape, k.output.trans h.output, Nat.le_trans h.size k.size, fun i h1 h2 h3 =>
    (k.block i (Nat.lt_of_lt_of_le h1 h.size) h2 (fun e => by
      rcases h.own with e1 | ⟨b, e1, e2⟩
      · exact h3 (e1.symm.trans e)
      · rw [e1] at e; cases e; omega)).trans (h.block i h1 h2 h3),
    by
      rcases k.own with e1 | ⟨b, e1, e2⟩
      · rw [e1]; exact h.own
      · exact .inr ⟨b, e1, Nat.le_trans h.size e2⟩⟩
theorem Fr.ahead {P : Nat} {v v' : Value} {w w1 w2 : World} (hb : Below w.heap.size w w1) (k : Fr P v v' w1 w2) : Fr P v v' w w2 :=
  ⟨k.os.trans hb.os, k.tape.trans hb.tape, k.output.trans hb.output, Nat.le_trans hb.size k.size, fun i h1 h2 h3 => (k.block i (Nat.lt_of_lt_of_le h1 hb.size) h2 h3).trans (hb.block i h1), by
    rcases k.own with e1 | ⟨b, e1, e2⟩
    · exact .inl e1
    · exact .inr ⟨b, e1, Nat.le_trans hb.size e2⟩⟩
theorem Fr.behind {P : Nat} {v v' : Value} {w w1 w2 : World} (k : Fr P v v' w w1) (hb : Below w1.heap.size w1 w2) : Fr P v v' w w2 :=
  ⟨hb.os.trans k.os, hb.tape.trans k.tape, hb.output.trans k.output, Nat.le_trans k.size hb.size, fun i h1 h2 h3 => (hb.block i (Nat.lt_of_lt_of_le h1 k.size)).trans (k.block i h1 h2 h3), k.own⟩
theorem Fr.below {P B : Nat} {v v' : Value} {w w' : World} (h : Fr P v v' w w') (hP : B ≤ P) (hv : ∀ b, v.ownBlock = some b → B ≤ b) (hB : B ≤ w.heap.size) : Below B w w' :=
  ⟨h.os, h.tape, h.output, h.size, fun k hk => h.block k (by omega) (by omega) (fun e => by have := hv k e; omega)⟩
theorem Fr.kept {P : Nat} {v v' : Value} {w w' : World} (h : Fr P v v' w w') {c : Nat} {t : TypeId} {xs : List Value} (ho : Own w c t xs) (h1 : c ≠ P) (h2 : v.ownBlock ≠ some c) : Own w' c t xs := by
  have hl := ho.lt
  obtain ⟨r, q1, q2⟩ := ho
  exact ⟨r, (h.block c hl h1 h2).trans q1, q2⟩
theorem res_keep {w w' : World} {B : Nat} {s : Value} {l : List M.Cl} (h : Res w B s l) (hk : ∀ b, s.ownBlock = some b → w'.heap[b]? = w.heap[b]?) : Res w' B s l := by
  obtain ⟨hn, h | ⟨b, cap, h1, h2, h3, xs, ⟨c, hc, h4⟩, h5⟩⟩ := h
  · exact ⟨hn, .inl h⟩
  · exact ⟨hn, .inr ⟨b, cap, h1, h2, h3, xs, ⟨c, (hk b (by rw [h1]; rfl)).trans hc, h4⟩, h5⟩⟩
theorem Rw.keep {w w' : World} {base : Nat} {v : Value} {cs : List (Co × Value)} (h : Rw w base v cs) (hk : ∀ b, b < w.heap.size → base ≤ b → w'.heap[b]? = w.heap[b]?) : Rw w' base v cs := by
  refine ⟨?_, fun p hp => res_keep (h.2 p hp) fun b hb => hk b ((h.2 p hp).lt b hb) ((h.2 p hp).base b hb)⟩
  have hl := fun b (hb : v.ownBlock = some b) => h.lt hb
  obtain ⟨⟨h1, ⟨h2, h3⟩ | ⟨g, cap, cur, h4, hg, hh, h5⟩⟩, _⟩ := h
  · exact ⟨h1, .inl ⟨h2, h3⟩⟩
  · exact ⟨h1, .inr ⟨g, cap, cur, h4, hg, (hk g (hl g (by rw [h4]; rfl)) hg).trans hh, h5⟩⟩
theorem Rw.below {w w' : World} {base : Nat} {v : Value} {cs : List (Co × Value)} (h : Rw w base v cs) (hb : Below w.heap.size w w') : Rw w' base v cs := h.keep fun b h1 _ => hb.block b h1

theorem plain_node (c : Co) (v : Value) (hv : v.oneCell' = true) : ∀ u ∈ nodeV c v, u.oneCell' = true := by
  intro u hu
  simp only [nodeV, List.mem_cons, List.not_mem_nil, or_false] at hu
  rcases hu with rfl | rfl | rfl | rfl | rfl | rfl <;> first | rfl | exact hv

section
variable {P : Program} (w : World)
theorem step_append {ops : Array Oper} {o : Oper} {a : Act} {K : Act → World → Prop} {Q : Exit → Act → World → Prop} {E : Prop} (hgd : o.guard = none) (s x : Operand) (t : TypeId)
    (ho : o.op = .call { callee := .builtin .append, args := #[s, x], argTypes := #[t, t] })
    (base : Nat) (e : TypeId) (i : TypeInfo) (z : Value) (size bytes : Nat) (ht : P.underlying t = some (.slice e)) (hi : P.info? e = some i) (hz : i.zero = some z)
    (hsize : i.size = size) (hby : i.bytes = bytes) (hzs : z.cells.size = size) (hsz : 0 < size)
    (v : Value) (n : Nat) (xs : List Value) (hs : a.eval s = v) (hown : w.ownsRow base e size v n xs)
    (ad : Addr) (m c : Nat) (news : List Value) (hx : a.eval x = .slice (some ad) m c) (hl : news.length = m * size) (hnews : ∀ j u, news[j]? = some u → w.cell? (ad.add j) = some u) (h1 : ∀ u ∈ news, u.oneCell' = true)
    (h63 : n + m ≤ maxLen) (hbytes : (n + m) * bytes ≤ 140737488355328) (hbase : base ≤ w.heap.size)
    (h : ∀ v' w', w'.ownsRow base e size v' (n + m) (xs ++ news) → w.grownBy w' v.ownBlock → (v'.ownBlock = v.ownBlock ∨ v'.ownBlock = some w.heap.size) → K (a.put o.dst v') w') :
    if Region.wanted o (yielded ops a.tmps) = true then Oper.wp P o a w K Q else E := by
  have hw : Region.wanted o (yielded ops a.tmps) = true := by simp [Region.wanted, hgd]
  rw [if_pos hw]
  obtain ⟨v', w', hr, h2, h3, _, h4⟩ := run_append_own_at (P := P) w base t o.type e i z size bytes ht hi hz hsize hby hzs hsz v n xs hown ad m c news hl hnews h1 h63 hbytes hbase
  unfold Oper.wp execOp
  simp only [ho, resolve, invoke, builtin, Sem.run_bind, Sem.run_pure, Result.andThen_ok, List.map_toArray, List.map_cons, List.map_nil, hs, hx, hr]
  exact h v' w' h2 h3 h4
end
end Lw
end Go.Proofs.Ytmbefapdckhjdaa
