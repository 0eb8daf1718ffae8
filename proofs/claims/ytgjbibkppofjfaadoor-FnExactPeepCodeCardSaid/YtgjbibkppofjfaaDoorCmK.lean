/-
  A list of instructions that is made: how it lies in memory, what a call that lays instructions may turn.
  The ledger of what lays instructions: its struct, its list, and what is kept.
  The ledger of what lays instructions: a register taken, an Arg set anew.
-/
import Derived.Test.YtgjbibkppofjfaaDoorCmM
import Derived.Test.YtgjbibkppofjfaaDoorInL
import Derived.Test.YtgjbibkppofjfaaDoorRes
import Derived.Maps.AppendAt
namespace Go.Proofs.YtgjbibkppofjfaaDoor
open Go.RowKit
set_option linter.unusedVariables false
set_option linter.unusedSimpArgs false

namespace Cm
def inV (c : Ic) (v : Value) : List Value := [.int .i64 c.op, .int .i64 c.arg, v]
def flat (cs : List (Ic × Value)) : List Value := cs.flatMap fun p => inV p.1 p.2
theorem flat_snoc (cs : List (Ic × Value)) (c : Ic) (v : Value) : flat (cs ++ [(c, v)]) = flat cs ++ inV c v := by simp [flat]
theorem flat_length (cs : List (Ic × Value)) : (flat cs).length = cs.length * 3 := by
  induction cs with
  | nil => rfl
  | cons p r ih =>
    have e : flat (p :: r) = inV p.1 p.2 ++ flat r := by simp [flat]
    rw [e, List.length_append, ih, List.length_cons]
    show 3 + _ = _
    omega
/-- One of the three cells of an instruction. -/
theorem flat_get (cs : List (Ic × Value)) : ∀ (k : Nat) (hk : k < cs.length) (j : Nat), j < 3 → (flat cs)[k * 3 + j]? = (inV (cs[k]).1 (cs[k]).2)[j]? := by
  induction cs with
  | nil => intro k hk; cases hk
  | cons p r ih =>
    intro k hk j hj
    have e : flat (p :: r) = inV p.1 p.2 ++ flat r := by simp [flat]
    cases k with
    | zero =>
      rw [e, Nat.zero_mul, Nat.zero_add, List.getElem?_append_left (by show j < 3; exact hj)]
      rfl
    | succ k =>
      rw [e, List.getElem?_append_right (by show 3 ≤ _; omega)]
      have h2 := ih k (by simpa using hk) j hj
      rw [show (k + 1) * 3 + j - (inV p.1 p.2).length = k * 3 + j by show (k + 1) * 3 + j - 3 = _; omega, h2]
      rfl
/-- The Arg of an instruction, set anew. -/
theorem flat_set (cs : List (Ic × Value)) : ∀ (k : Nat) (hk : k < cs.length) (x : Int), (flat cs).set (k * 3 + 1) (.int .i64 x) = flat (cs.set k (⟨(cs[k]).1.op, x, (cs[k]).1.val⟩, (cs[k]).2)) := by
  induction cs with
  | nil => intro k hk; cases hk
  | cons p r ih =>
    intro k hk x
    have e : ∀ (q : Ic × Value), flat (q :: r) = inV q.1 q.2 ++ flat r := fun q => by simp [flat]
    cases k with
    | zero =>
      rw [e, Nat.zero_mul, Nat.zero_add, List.set_cons_zero, e, List.set_append_left _ _ (by show 1 < 3; omega)]
      rfl
    | succ k =>
      rw [e, List.set_append_right _ _ (by show 3 ≤ _; omega), List.set_cons_succ]
      have h2 := ih k (by simpa using hk) x
      rw [show (k + 1) * 3 + 1 - (inV p.1 p.2).length = k * 3 + 1 by show (k + 1) * 3 + 1 - 3 = _; omega, h2]
      simp [flat]
/-- The slice v holds the instructions of cs in a block of its own; each one's value lies in a block of its own. -/
def Rw (w : World) (base : Nat) (v : Value) (cs : List (Ic × Value)) : Prop := w.ownsRow base 41 3 v cs.length (flat cs) ∧ ∀ p ∈ cs, Res w base p.2 p.1.val
theorem Rw.nil (w : World) (base : Nat) : Rw w base (.slice none 0 0) [] := ⟨World.ownsRow_nil _ _ _ _, fun p hp => by cases hp⟩
theorem Rw.slice {w : World} {base : Nat} {v : Value} {cs : List (Ic × Value)} (h : Rw w base v cs) : ∃ a cap, v = .slice a cs.length cap := by
  obtain ⟨⟨_, ⟨h1, h2⟩ | ⟨g, cap, cur, h3, _⟩⟩, _⟩ := h
  · exact ⟨none, 0, by rw [h1, h2]⟩
  · exact ⟨_, cap, h3⟩
theorem Rw.typed {w : World} {base : Nat} {v : Value} {cs : List (Ic × Value)} (h : Rw w base v cs) {b : Nat} (hb : v.ownBlock = some b) : base ≤ b ∧ ∃ c, w.heap[b]? = some (.cells c 41 (0, 0)) := by
  obtain ⟨⟨_, ⟨h1, h2⟩ | ⟨g, cap, cur, h3, hg, hh, _⟩⟩, _⟩ := h
  · rw [h1] at hb; cases hb
  · rw [h3] at hb; cases hb; exact ⟨hg, cur, hh⟩
theorem Rw.lt {w : World} {base : Nat} {v : Value} {cs : List (Ic × Value)} (h : Rw w base v cs) {b : Nat} (hb : v.ownBlock = some b) : b < w.heap.size := by
  obtain ⟨_, c, hc⟩ := h.typed hb
  exact (Array.getElem?_eq_some_iff.1 hc).1
theorem res_typed {w : World} {B : Nat} {s : Value} {l : List M.Cl} (h : Res w B s l) {b : Nat} (hb : s.ownBlock = some b) : ∃ c, w.heap[b]? = some (.cells c 74 (0, 0)) := by
  obtain ⟨_, ⟨h1, _⟩ | ⟨g, cap, h1, _, _, xs, ⟨c, hc, _⟩, _⟩⟩ := h
  · rw [h1] at hb; cases hb
  · rw [h1] at hb; cases hb; exact ⟨c, hc⟩
/-- The block of the instructions and the block of a value are two. -/
theorem Rw.apart {w : World} {base B : Nat} {v s : Value} {cs : List (Ic × Value)} {l : List M.Cl} (h : Rw w base v cs) (hr : Res w B s l) {b : Nat} (hb : v.ownBlock = some b) : s.ownBlock ≠ some b := by
  intro e
  obtain ⟨_, c, hc⟩ := h.typed hb
  obtain ⟨c', hc'⟩ := res_typed hr e
  rw [hc] at hc'
  simp only [Option.some.injEq, Obj.cells.injEq] at hc'
  exact absurd hc'.2.1 (by decide)
/-- A block of another kind than that of a value. -/
theorem res_ne {w : World} {B P : Nat} {s : Value} {l : List M.Cl} {t : TypeId} {xs : List Value} (hr : Res w B s l) (hP : Own w P t xs) (ht : t ≠ 74) : s.ownBlock ≠ some P := by
  intro e
  obtain ⟨c, hc⟩ := hP
  obtain ⟨c', hc'⟩ := res_typed hr e
  rw [hc.1] at hc'
  simp only [Option.some.injEq, Obj.cells.injEq] at hc'
  exact absurd hc'.2.1 ht
theorem Rw.ne {w : World} {base P : Nat} {v : Value} {cs : List (Ic × Value)} {t : TypeId} {xs : List Value} (hr : Rw w base v cs) (hP : Own w P t xs) (ht : t ≠ 41) : v.ownBlock ≠ some P := by
  intro e
  obtain ⟨c, hc⟩ := hP
  obtain ⟨_, c', hc'⟩ := hr.typed e
  rw [hc.1] at hc'
  simp only [Option.some.injEq, Obj.cells.injEq] at hc'
  exact absurd hc'.2.1 ht

/-- What a call that lays instructions leaves: all blocks that were there but P and that of the instructions. -/
structure Fr (P : Nat) (v v' : Value) (w w' : World) : Prop where
  os : w'.os = w.os
  tape : w'.tape = w.tape
  output : w'.output = w.output
  size : w.heap.size ≤ w'.heap.size
  block : ∀ k, k < w.heap.size → k ≠ P → v.ownBlock ≠ some k → w'.heap[k]? = w.heap[k]?
  own : v'.ownBlock = v.ownBlock ∨ ∃ b, v'.ownBlock = some b ∧ w.heap.size ≤ b
theorem Fr.refl (P : Nat) (v : Value) (w : World) : Fr P v v w w := ⟨rfl, rfl, rfl, Nat.le_refl _, fun _ _ _ _ => rfl, .inl rfl⟩
theorem Fr.trans {P : Nat} {v v1 v2 : Value} {w w1 w2 : World} (h : Fr P v v1 w w1) (k : Fr P v1 v2 w1 w2) : Fr P v v2 w w2 :=
  ⟨k.os.trans h.os, k.tape.trans h.tape, k.output.trans h.output, Nat.le_trans h.size k.size, fun i h1 h2 h3 =>
    (k.block i (Nat.lt_of_lt_of_le h1 h.size) h2 (fun e => by
      rcases h.own with e1 | ⟨b, e1, e2⟩
      · exact h3 (e1.symm.trans e)
      · rw [e1] at e; cases e; omega)).trans (h.block i h1 h2 h3),
    by
      rcases k.own with e1 | ⟨b, e1, e2⟩
      · rw [e1]; exact h.own
      · exact .inr ⟨b, e1, Nat.le_trans h.size e2⟩⟩
theorem Fr.ahead {P : Nat} {v v' : Value} {w w1 w2 : World} (hb : Below w.heap.size w w1) (k : Fr P v v' w1 w2) : Fr P v v' w w2 :=
  ⟨k.os.trans hb.os, k.tape.trans hb.tape, k.output.trans hb.output, Nat.le_trans hb.size k.size, fun i h1 h2 h3 => (k.block i (Nat.lt_of_lt_of_le h1 hb.size) h2 h3).trans (hb.block i h1), by
    rcases k.own with e1 | ⟨b, e1, e2⟩
    · exact .inl e1
    · exact .inr ⟨b, e1, Nat.le_trans hb.size e2⟩⟩
theorem Fr.behind {P : Nat} {v v' : Value} {w w1 w2 : World} (k : Fr P v v' w w1) (hb : Below w1.heap.size w1 w2) : Fr P v v' w w2 :=
  ⟨hb.os.trans k.os, hb.tape.trans k.tape, hb.output.trans k.output, Nat.le_trans k.size hb.size, fun i h1 h2 h3 => (hb.block i (Nat.lt_of_lt_of_le h1 k.size)).trans (k.block i h1 h2 h3), k.own⟩
theorem Fr.below {P B : Nat} {v v' : Value} {w w' : World} (h : Fr P v v' w w') (hP : B ≤ P) (hv : ∀ b, v.ownBlock = some b → B ≤ b) (hB : B ≤ w.heap.size) : Below B w w' :=
  ⟨h.os, h.tape, h.output, h.size, fun k hk => h.block k (by omega) (by omega) (fun e => by have := hv k e; omega)⟩
theorem Fr.kept {P : Nat} {v v' : Value} {w w' : World} (h : Fr P v v' w w') {c : Nat} {t : TypeId} {xs : List Value} (ho : Own w c t xs) (h1 : c ≠ P) (h2 : v.ownBlock ≠ some c) : Own w' c t xs := by
  have hl := ho.lt
  obtain ⟨r, q1, q2⟩ := ho
  exact ⟨r, (h.block c hl h1 h2).trans q1, q2⟩
theorem res_keep {w w' : World} {B : Nat} {s : Value} {l : List M.Cl} (h : Res w B s l) (hk : ∀ b, s.ownBlock = some b → w'.heap[b]? = w.heap[b]?) : Res w' B s l := by
  obtain ⟨hn, h | ⟨b, cap, h1, h2, h3, xs, ⟨c, hc, h4⟩, h5⟩⟩ := h
  · exact ⟨hn, .inl h⟩
  · exact ⟨hn, .inr ⟨b, cap, h1, h2, h3, xs, ⟨c, (hk b (by rw [h1]; rfl)).trans hc, h4⟩, h5⟩⟩
theorem Rw.keep {w w' : World} {base : Nat} {v : Value} {cs : List (Ic × Value)} (h : Rw w base v cs) (hk : ∀ b, b < w.heap.size → base ≤ b → w'.heap[b]? = w.heap[b]?) : Rw w' base v cs := by
  refine ⟨?_, fun p hp => res_keep (h.2 p hp) fun b hb => hk b ((h.2 p hp).lt b hb) ((h.2 p hp).base b hb)⟩
  have hl := fun b (hb : v.ownBlock = some b) => h.lt hb
  obtain ⟨⟨h1, ⟨h2, h3⟩ | ⟨g, cap, cur, h4, hg, hh, h5⟩⟩, _⟩ := h
  · exact ⟨h1, .inl ⟨h2, h3⟩⟩
  · exact ⟨h1, .inr ⟨g, cap, cur, h4, hg, (hk g (hl g (by rw [h4]; rfl)) hg).trans hh, h5⟩⟩
theorem Rw.below {w w' : World} {base : Nat} {v : Value} {cs : List (Ic × Value)} (h : Rw w base v cs) (hb : Below w.heap.size w w') : Rw w' base v cs := h.keep fun b h1 _ => hb.block b h1

theorem plain_in (c : Ic) (v : Value) (hv : v.oneCell' = true) : ∀ u ∈ inV c v, u.oneCell' = true := by
  intro u hu
  simp only [inV, List.mem_cons, List.not_mem_nil, or_false] at hu
  rcases hu with rfl | rfl | rfl <;> first | rfl | exact hv

/-- The blocks in which the values lie. -/
def bls (cs : List (Ic × Value)) : List Nat := (cs.map Prod.snd).filterMap Value.ownBlock
theorem bls_append (a b : List (Ic × Value)) : bls (a ++ b) = bls a ++ bls b := by simp [bls]
theorem mem_bls {b : Nat} {cs : List (Ic × Value)} : b ∈ bls cs ↔ ∃ p ∈ cs, p.2.ownBlock = some b := by
  simp only [bls, List.mem_filterMap, List.mem_map]
  constructor
  · rintro ⟨x, ⟨p, hp, rfl⟩, h⟩; exact ⟨p, hp, h⟩
  · rintro ⟨p, hp, h⟩; exact ⟨_, ⟨p, hp, rfl⟩, h⟩
theorem Rw.bls_lt {w : World} {base : Nat} {v : Value} {cs : List (Ic × Value)} (h : Rw w base v cs) : ∀ b ∈ bls cs, b < w.heap.size := fun b hb => by
  obtain ⟨p, hp, e⟩ := mem_bls.1 hb
  exact (h.2 p hp).lt b e
theorem bls_one (c : Ic) (x : Value) : bls [(c, x)] = x.ownBlock.toList := by
  simp only [bls, List.map_cons, List.map_nil, List.filterMap_cons, List.filterMap_nil]
  cases x.ownBlock <;> rfl
theorem bls_set (cs : List (Ic × Value)) (k : Nat) (hk : k < cs.length) (c : Ic) : bls (cs.set k (c, (cs[k]).2)) = bls cs := by
  unfold bls
  rw [List.map_set]
  congr 1
  rw [show (cs[k]).2 = (cs.map Prod.snd)[k]'(by simpa using hk) by simp]
  exact List.set_getElem_self _
theorem nodup_snoc {l : List Nat} {x : Value} (h : l.Nodup) (hf : ∀ b, x.ownBlock = some b → b ∉ l) : (l ++ x.ownBlock.toList).Nodup := by
  rw [List.nodup_append]
  refine ⟨h, by cases x.ownBlock <;> simp, fun a ha b hb => ?_⟩
  intro e
  subst e
  exact hf a (by simpa using hb) ha
section
variable {P : Program} (w : World)
theorem step_append {ops : Array Oper} {o : Oper} {a : Act} {K : Act → World → Prop} {Q : Exit → Act → World → Prop} {E : Prop} (hgd : o.guard = none) (s x : Operand) (t : TypeId)
    (ho : o.op = .call { callee := .builtin .append, args := #[s, x], argTypes := #[t, t] })
    (base : Nat) (e : TypeId) (i : TypeInfo) (z : Value) (size bytes : Nat) (ht : P.underlying t = some (.slice e)) (hi : P.info? e = some i) (hz : i.zero = some z)
    (hsize : i.size = size) (hby : i.bytes = bytes) (hzs : z.cells.size = size) (hsz : 0 < size)
    (v : Value) (n : Nat) (xs : List Value) (hs : a.eval s = v) (hown : w.ownsRow base e size v n xs)
    (ad : Addr) (m c : Nat) (news : List Value) (hx : a.eval x = .slice (some ad) m c) (hl : news.length = m * size) (hnews : ∀ j u, news[j]? = some u → w.cell? (ad.add j) = some u) (h1 : ∀ u ∈ news, u.oneCell' = true)
    (h63 : n + m ≤ maxLen) (hbytes : (n + m) * bytes ≤ 140737488355328) (hbase : base ≤ w.heap.size)
    (h : ∀ v' w', w'.ownsRow base e size v' (n + m) (xs ++ news) → w.grownBy w' v.ownBlock → (v'.ownBlock = v.ownBlock ∨ v'.ownBlock = some w.heap.size) → K (a.put o.dst v') w') :
    if Region.wanted o (yielded ops a.tmps) = true then Oper.wp P o a w K Q else E := by
  have hw : Region.wanted o (yielded ops a.tmps) = true := by simp [Region.wanted, hgd]
  rw [if_pos hw]
  obtain ⟨v', w', hr, h2, h3, _, h4⟩ := run_append_own_at (P := P) w base t o.type e i z size bytes ht hi hz hsize hby hzs hsz v n xs hown ad m c news hl hnews h1 h63 hbytes hbase
  unfold Oper.wp execOp
  simp only [ho, resolve, invoke, builtin, Sem.run_bind, Sem.run_pure, Result.andThen_ok, List.map_toArray, List.map_cons, List.map_nil, hs, hx, hr]
  exact h v' w' h2 h3 h4
end
end Cm
end Go.Proofs.YtgjbibkppofjfaaDoor

namespace Go.Proofs.YtgjbibkppofjfaaDoor
open Go.RowKit
set_option linter.unusedVariables false
set_option linter.unusedSimpArgs false

namespace Cm
/-- What a call that lays instructions keeps: all below its struct, and every block but those of instructions and of structs of its own type. -/
structure Ke (T : TypeId) (pb : Nat) (w w' : World) : Prop where
  below : Below pb w w'
  kept : ∀ (k : Nat) (c : Array Value) (t : TypeId) (fz : Nat × Nat), w.heap[k]? = some (Obj.cells c t fz) → t ≠ 41 → t ≠ T → w'.heap[k]? = w.heap[k]?
theorem Ke.refl (T : TypeId) (pb : Nat) (w : World) : Ke T pb w w := ⟨Below.refl _ _, fun _ _ _ _ _ _ _ => rfl⟩
theorem Ke.size {T : TypeId} {pb : Nat} {w w' : World} (h : Ke T pb w w') : w.heap.size ≤ w'.heap.size := h.below.size
theorem Ke.trans {T : TypeId} {pb : Nat} {w w1 w2 : World} (h : Ke T pb w w1) (k : Ke T pb w1 w2) : Ke T pb w w2 :=
  ⟨h.below.trans k.below, fun b c t fz h1 h2 h3 => (k.kept b c t fz ((h.kept b c t fz h1 h2 h3).trans h1) h2 h3).trans (h.kept b c t fz h1 h2 h3)⟩
theorem Ke.of_below {T : TypeId} {pb : Nat} {w w' : World} (h : Below w.heap.size w w') (hp : pb ≤ w.heap.size) : Ke T pb w w' :=
  ⟨h.mono hp, fun k c t fz h1 _ _ => h.block k (Array.getElem?_eq_some_iff.1 h1).1⟩
theorem Ke.alloc {T : TypeId} {pb : Nat} {w w' : World} (h : Ke T pb w w') (hp : pb ≤ w'.heap.size) (o : Obj) : Ke T pb w (w'.alloc o) := h.trans (Ke.of_below ((Below.refl _ _).alloc (Nat.le_refl _) o) hp)
theorem Ke.own {T : TypeId} {pb : Nat} {w w' : World} (h : Ke T pb w w') {b : Nat} {t : TypeId} {xs : List Value} (ho : Own w b t xs) (h1 : t ≠ 41) (h2 : t ≠ T) : Own w' b t xs := by
  obtain ⟨c, hc, e⟩ := ho
  exact ⟨c, (h.kept b c t _ hc h1 h2).trans hc, e⟩
/-- An append to the instructions. -/
theorem Ke.grown {T : TypeId} {pb : Nat} {w w' : World} {v : Value} (hg : w.grownBy w' v.ownBlock) (hp : pb ≤ w.heap.size) (hb : ∀ b, v.ownBlock = some b → pb ≤ b ∧ ∃ c, w.heap[b]? = some (.cells c 41 (0, 0))) : Ke T pb w w' :=
  ⟨(Below.refl _ _).grown hg hp (fun k hk => (hb k hk).1), fun k c t fz h1 h2 _ => hg.block k (Array.getElem?_eq_some_iff.1 h1).1 (fun e => by
    obtain ⟨_, c', hc'⟩ := hb k e.symm
    rw [h1] at hc'
    simp only [Option.some.injEq, Obj.cells.injEq] at hc'
    exact h2 hc'.2.1)⟩
/-- A store into the struct, or into an instruction. -/
theorem Ke.set {T : TypeId} {pb b j : Nat} {w : World} {t : TypeId} {xs : List Value} (ho : Own w b t xs) (hb : pb ≤ b) (ht : t = 41 ∨ t = T) (x : Value) : Ke T pb w (w.setCell ⟨b, j, none⟩ x) :=
  ⟨(Below.refl _ _).setCell hb _, fun k c u fz h1 h2 h3 => heap_setCell_other w ⟨b, j, none⟩ k x (fun e => by
    obtain ⟨c', hc', _⟩ := ho
    simp only at e
    subst e
    rw [hc'] at h1
    simp only [Option.some.injEq, Obj.cells.injEq] at h1
    rcases ht with rfl | rfl
    · exact h2 h1.2.1.symm
    · exact h3 h1.2.1.symm)⟩
/-- The struct of what lays: the core, the instructions so far, the registers, and what else it has. -/
structure Sp (T : TypeId) (w : World) (pb : Nat) (cv : Value) (tl : List Value) (s : St) (v : Value) (cs : List (Ic × Value)) : Prop where
  own : Own w pb T ([cv, v, .int .i64 s.regs] ++ tl)
  row : Rw w (pb + 1) v cs
  eq : cs.map Prod.fst = s.ins
  nd : (bls cs).Nodup
theorem Sp.len {T : TypeId} {w : World} {pb : Nat} {cv v : Value} {tl : List Value} {s : St} {cs : List (Ic × Value)} (h : Sp T w pb cv tl s v cs) : cs.length = s.len := by
  have := congrArg List.length h.eq
  simpa [St.len] using this
theorem Sp.below {T : TypeId} {w w' : World} {pb : Nat} {cv v : Value} {tl : List Value} {s : St} {cs : List (Ic × Value)} (h : Sp T w pb cv tl s v cs) (hb : Below w.heap.size w w') : Sp T w' pb cv tl s v cs := ⟨h.own.below hb h.own.lt, h.row.below hb, h.eq, h.nd⟩
theorem own_keep {w w' : World} {b : Nat} {t : TypeId} {xs : List Value} (h : Own w b t xs) (hk : w'.heap[b]? = w.heap[b]?) : Own w' b t xs := by
  obtain ⟨c, hc, e⟩ := h
  exact ⟨c, hk.trans hc, e⟩
/-- An instruction behind the last one: the list is grown, then stored. -/
theorem Sp.push {T : TypeId} {w wA : World} {pb : Nat} {cv v v' x : Value} {tl : List Value} {s s' : St} {cs : List (Ic × Value)} {c : Ic} (h : Sp T w pb cv tl s v cs) (hT : T ≠ 41) (hC : T ≠ 74)
    (ho : wA.ownsRow (pb + 1) 41 3 v' (cs.length + 1) (flat cs ++ inV c x)) (hg : w.grownBy wA v.ownBlock) (hx : Res w (pb + 1) x c.val) (hfr : ∀ b, x.ownBlock = some b → b ∉ bls cs) (hs : s'.ins = s.ins ++ [c]) (hr : s'.regs = s.regs) :
    Own wA pb T ([cv, v, .int .i64 s.regs] ++ tl) ∧ Ke T pb w wA ∧ Sp T (wA.setCell ⟨pb, 1, none⟩ v') pb cv tl s' v' (cs ++ [(c, x)]) ∧ Ke T pb w (wA.setCell ⟨pb, 1, none⟩ v') := by
  have hl := h.own.lt
  have hne : v.ownBlock ≠ some pb := fun e => by have := (h.row.typed e).1; omega
  have kA : Ke T pb w wA := Ke.grown hg (by omega) (fun b hb => ⟨by have := (h.row.typed hb).1; omega, (h.row.typed hb).2⟩)
  have oA : Own wA pb T ([cv, v, .int .i64 s.regs] ++ tl) := own_keep h.own (hg.block pb hl (fun e => hne e.symm))
  have kS : Ke T pb wA (wA.setCell ⟨pb, 1, none⟩ v') := Ke.set oA (Nat.le_refl _) (.inr rfl) v'
  have rA : ∀ p ∈ cs ++ [(c, x)], Res wA (pb + 1) p.2 p.1.val := fun p hp => by
    have hw : Res w (pb + 1) p.2 p.1.val := by
      rcases List.mem_append.1 hp with hp | hp
      · exact h.row.2 p hp
      · simp only [List.mem_singleton] at hp; subst hp; exact hx
    exact res_keep hw fun b hb => hg.block b (hw.lt b hb) (fun e => by
      have := h.row.apart hw (b := b) e.symm
      exact this hb)
  refine ⟨oA, kA, ⟨?_, ⟨?_, fun p hp => ?_⟩, ?_, ?_⟩, kA.trans kS⟩
  · have := oA.set 1 v'
    rw [hr]
    exact this
  · rw [List.length_append, flat_snoc]
    obtain ⟨h1, ⟨h2, h3⟩ | ⟨g, cap, cur, h4, hg', hh, h5⟩⟩ := ho
    · exact ⟨h1, .inl ⟨h2, h3⟩⟩
    · exact ⟨h1, .inr ⟨g, cap, cur, h4, hg', (heap_setCell_other wA ⟨pb, 1, none⟩ g v' (by simp only; omega)).trans hh, h5⟩⟩
  · have hq := rA p hp
    exact hq.setOther _ _ (fun b hb e => by have := hq.base b hb; simp only at e; omega)
  · rw [List.map_append, h.eq, hs]; rfl
  · rw [bls_append, bls_one]; exact nodup_snoc h.nd hfr
end Cm
end Go.Proofs.YtgjbibkppofjfaaDoor

namespace Go.Proofs.YtgjbibkppofjfaaDoor
open Go.RowKit
set_option linter.unusedVariables false
set_option linter.unusedSimpArgs false

namespace Cm
theorem Rw.setFar {w : World} {pb : Nat} {v : Value} {cs : List (Ic × Value)} (h : Rw w (pb + 1) v cs) (j : Nat) (x : Value) : Rw (w.setCell ⟨pb, j, none⟩ x) (pb + 1) v cs := by
  refine ⟨?_, fun p hp => (h.2 p hp).setOther _ _ (fun b hb e => by have := (h.2 p hp).base b hb; simp only at e; omega)⟩
  obtain ⟨⟨h1, ⟨h2, h3⟩ | ⟨g, cap, cur, h4, hg', hh, h5⟩⟩, _⟩ := h
  · exact ⟨h1, .inl ⟨h2, h3⟩⟩
  · exact ⟨h1, .inr ⟨g, cap, cur, h4, hg', (heap_setCell_other w ⟨pb, j, none⟩ g x (by simp only; omega)).trans hh, h5⟩⟩
/-- One register more. -/
theorem Sp.setReg {T : TypeId} {w : World} {pb : Nat} {cv v : Value} {tl : List Value} {s : St} {cs : List (Ic × Value)} (h : Sp T w pb cv tl s v cs) : Sp T (w.setCell ⟨pb, 2, none⟩ (.int .i64 (s.regs + 1))) pb cv tl s.reg v cs ∧ Ke T pb w (w.setCell ⟨pb, 2, none⟩ (.int .i64 (s.regs + 1))) :=
  ⟨⟨h.own.set 2 _, h.row.setFar 2 _, h.eq, h.nd⟩, Ke.set h.own (Nat.le_refl _) (.inr rfl) _⟩
/-- The instruction at k, in memory; its Arg set anew. -/
theorem Rw.at {w : World} {base : Nat} {v : Value} {cs : List (Ic × Value)} (h : Rw w base v cs) {k : Nat} (hk : k < cs.length) : ∃ g cap : Nat, ∃ xs : List Value, v = .slice (some ⟨g, 0, none⟩) cs.length cap ∧ cs.length ≤ cap ∧ base ≤ g ∧ Own w g 41 xs ∧ (∀ j, j < 3 → xs[k * 3 + j]? = (inV (cs[k]).1 (cs[k]).2)[j]?) ∧
    ∀ x : Int, Rw (w.setCell ⟨g, k * 3 + 1, none⟩ (.int .i64 x)) base v (cs.set k (⟨(cs[k]).1.op, x, (cs[k]).1.val⟩, (cs[k]).2)) := by
  have h0 := h
  obtain ⟨⟨h1, ⟨h2, h3⟩ | ⟨g, cap, cur, h4, hg', hh, h5, h6, h7, h8⟩⟩, hres⟩ := h
  · omega
  · have hx : ∀ j, j < cs.length * 3 → cur.toList[j]? = (flat cs)[j]? := fun j hj => by rw [← h8, List.getElem?_take, if_pos hj]
    refine ⟨g, cap, cur.toList, h4, h5, hg', ⟨cur, hh, rfl⟩, fun j hj => ?_, fun x => ⟨?_, fun p hp => ?_⟩⟩
    · rw [hx (k * 3 + j) (by omega), flat_get cs k hk j hj]
    · rw [List.length_set, ← flat_set cs k hk x]
      refine ⟨by rw [List.length_set]; exact h1, .inr ⟨g, cap, cur.setIfInBounds (k * 3 + 1) (.int .i64 x), h4, hg', heap_setCell_same w g (k * 3 + 1) cur _ _ hh, h5, h6, by rw [Array.size_setIfInBounds]; exact h7, ?_⟩⟩
      rw [Array.toList_setIfInBounds, ← h8, List.take_set]
    · have hq : ∃ q ∈ cs, q.2 = p.2 ∧ q.1.val = p.1.val := by
        rcases List.mem_or_eq_of_mem_set hp with hp | hp
        · exact ⟨p, hp, rfl, rfl⟩
        · exact ⟨cs[k], List.getElem_mem hk, by rw [hp], by rw [hp]⟩
      obtain ⟨q, hq1, hq2, hq3⟩ := hq
      have hr := hres q hq1
      rw [hq2, hq3] at hr
      exact hr.setOther _ _ (fun b hb e => by
        simp only at e
        subst e
        exact h0.apart hr (b := b) (by rw [h4]; rfl) hb)
/-- The instruction at k goes to the place that comes next. -/
theorem Sp.setHere {T : TypeId} {w : World} {pb : Nat} {cv v : Value} {tl : List Value} {s : St} {cs : List (Ic × Value)} (h : Sp T w pb cv tl s v cs) {k : Nat} (hk : k < s.len) : ∃ g cap : Nat, ∃ a : Int, v = .slice (some ⟨g, 0, none⟩) s.len cap ∧ s.len ≤ cap ∧ g ≠ pb ∧ w.cell? ⟨g, k * 3 + 1, none⟩ = some (.int .i64 a) ∧ w.frozen? ⟨g, k * 3 + 1, none⟩ = false ∧
    (∃ cs', Sp T (w.setCell ⟨g, k * 3 + 1, none⟩ (.int .i64 (s.len : Int))) pb cv tl (s.here k) v cs' ∧ bls cs' = bls cs) ∧ Ke T pb w (w.setCell ⟨g, k * 3 + 1, none⟩ (.int .i64 (s.len : Int))) := by
  have hl := h.len
  obtain ⟨g, cap, xs, h1, h2, h3, h4, h5, h6⟩ := h.row.at (k := k) (by omega)
  have hgp : g ≠ pb := by omega
  rw [hl] at h1 h2
  refine ⟨g, cap, (cs[k]'(by omega)).1.arg, h1, h2, hgp, (h4.cell (k * 3 + 1)).trans (h5 1 (by omega)), h4.frozen (k * 3 + 1), ⟨_, ⟨h.own.setOther _ _ (fun e => hgp (by simpa using e.symm)), h6 _, ?_, by rw [bls_set _ _ (by omega)]; exact h.nd⟩, bls_set _ _ (by omega) _⟩, Ke.set h4 (by omega) (.inl rfl) _⟩
  have hg : s.ins.getD k Ic.zero = (cs[k]'(by omega)).1 := by
    rw [← h.eq, List.getD_eq_getElem?_getD, List.getElem?_map, List.getElem?_eq_getElem (by omega)]; rfl
  rw [List.map_set, h.eq]
  unfold St.here
  rw [hg]
  rfl
end Cm
end Go.Proofs.YtgjbibkppofjfaaDoor
