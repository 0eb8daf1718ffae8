/-
  An append as a step of a region that draws its order: the row that is appended may be nil or not. Rows of texts.
  Lowering, plainly: the forms of a node, what is laid for a form behind what was laid, and for a tree; how much is laid; the slot of a name. No word of the program is used here.
  A list of nodes of a core that is made: how it lies in memory, what a call that lays nodes may turn; spec.l6Put.
  The blocks of the values of nodes.
-/
import Derived.Test.YtbaanpgbfncdnaaGreatQ09
import Derived.Test.YtbaanpgbfncdnaaGreatQ15
import Derived.Test.YtbaanpgbfncdnaaGreatQ16
import Derived.Test.YtbaanpgbfncdnaaGreatQ19
import Derived.Test.YtbaanpgbfncdnaaGreatQ23
import Derived.Test.YtbaanpgbfncdnaaGreatQ24
import Derived.Deep.AppendLies
import Derived.Deep.RegionHeldLaw
import Derived.Laws.AppendOwnNone
import Derived.Maps.AppendAt
namespace Go.Proofs.YtbaanpgbfncdnaaGreat
open Go.RowKit
set_option linter.unusedVariables false

namespace Ap
theorem owns_empty {w : World} {base g : Nat} {e : TypeId} (hg : base ≤ g) (h : w.heap[g]? = some (.cells #[] e (0, 0))) : w.ownsRow base e 1 (.slice (some ⟨g, 0, none⟩) 0 0) 0 [] :=
  ⟨rfl, .inr ⟨g, 0, #[], rfl, hg, h, Nat.le_refl _, by unfold maxLen; omega, rfl, rfl⟩⟩
theorem below_alloc {a W : World} {o : Obj} (h : Below a.heap.size a W) : Below a.heap.size a (W.alloc o) := h.alloc h.size o
theorem one_of {W : World} {b : Nat} {x : Value} (h : W.cell? ⟨b, 0, none⟩ = some x) : ∀ j u, ([x] : List Value)[j]? = some u → W.cell? ((⟨b, 0, none⟩ : Addr).add j) = some u := by
  intro j u hu
  match j, hu with
  | 0, hu =>
    simp only [List.getElem?_cons_zero, Option.some.injEq] at hu
    subst hu
    have a0 : (⟨b, 0, none⟩ : Addr).add 0 = ⟨b, 0, none⟩ := by simp [Addr.add]
    rw [a0]; exact h
theorem heapE (wr : World) (T : TypeId) : (wr.alloc (.cells #[] T)).drew.heap[wr.heap.size]? = some (.cells #[] T (0, 0)) := heap_alloc_new _ _
theorem heapEK (wr : World) (T : TypeId) (x : Value) : ((wr.alloc (.cells #[] T)).alloc (.cells #[x] T)).drew.heap[wr.heap.size]? = some (.cells #[] T (0, 0)) := (Below.heap_alloc _ _ _ (by simp)).trans (heap_alloc_new _ _)
theorem cellEK (wr : World) (T : TypeId) (x : Value) : ((wr.alloc (.cells #[] T)).alloc (.cells #[x] T)).drew.cell? ⟨wr.heap.size + 1, 0, none⟩ = some x := by
  have := World.cell?_alloc_mark (wr.alloc (.cells #[] T)) #[x] T (0, 0) 0
  rw [World.size_alloc] at this
  exact this
theorem heapKE (wr : World) (T : TypeId) (x : Value) : ((wr.alloc (.cells #[x] T)).alloc (.cells #[] T)).drew.heap[wr.heap.size + 1]? = some (.cells #[] T (0, 0)) := by
  have := heap_alloc_new (wr.alloc (.cells #[x] T)) (.cells #[] T)
  rw [World.size_alloc] at this
  exact this
theorem cellKE (wr : World) (T : TypeId) (x : Value) : ((wr.alloc (.cells #[x] T)).alloc (.cells #[] T)).drew.cell? ⟨wr.heap.size, 0, none⟩ = some x :=
  (((Below.refl (wr.alloc (.cells #[x] T)).heap.size (wr.alloc (.cells #[x] T))).alloc (Nat.le_refl _) (.cells #[] T)).cell (p := ⟨wr.heap.size, 0, none⟩) (by simp)).trans (World.cell?_alloc_mark wr #[x] T (0, 0) 0)
theorem ne_own (g h n c : Nat) (hgh : g ≠ h) : some g ≠ (Value.slice (some ⟨h, 0, none⟩) n c).ownBlock := fun e => hgh (Option.some.inj e)
section
variable {P : Program} (w : World)
theorem step_append_any {ops : Array Oper} {o : Oper} {a : Act} {K : Act → World → Prop} {Q : Exit → Act → World → Prop} {E : Prop} (hgd : o.guard = none) (s x : Operand) (t : TypeId)
    (ho : o.op = .call { callee := .builtin .append, args := #[s, x], argTypes := #[t, t] })
    (base : Nat) (e : TypeId) (i : TypeInfo) (z : Value) (size bytes : Nat) (ht : P.underlying t = some (.slice e)) (hi : P.info? e = some i) (hz : i.zero = some z)
    (hsize : i.size = size) (hby : i.bytes = bytes) (hzs : z.cells.size = size) (hsz : 0 < size)
    (v : Value) (n : Nat) (xs : List Value) (hs : a.eval s = v) (hown : w.ownsRow base e size v n xs)
    (ad : Addr) (m c : Nat) (news : List Value) (hx : a.eval x = .slice (some ad) m c) (hl : news.length = m * size) (hnews : ∀ j u, news[j]? = some u → w.cell? (ad.add j) = some u) (h1 : ∀ u ∈ news, u.oneCell' = true)
    (h63 : n + m ≤ maxLen) (hbytes : (n + m) * bytes ≤ 140737488355328) (hbase : base ≤ w.heap.size)
    (h : ∀ v' w', w'.ownsRow base e size v' (n + m) (xs ++ news) → w.grownBy w' v.ownBlock → K (a.put o.dst v') w') :
    if Region.wanted o (yielded ops a.tmps) = true then Oper.wp P o a w K Q else E := by
  have hw : Region.wanted o (yielded ops a.tmps) = true := by simp [Region.wanted, hgd]
  rw [if_pos hw]
  obtain ⟨v', w', hr, h2, h3, _⟩ := run_append_own_at (P := P) w base t o.type e i z size bytes ht hi hz hsize hby hzs hsz v n xs hown ad m c news hl hnews h1 h63 hbytes hbase
  unfold Oper.wp execOp
  simp only [ho, resolve, invoke, builtin, Sem.run_bind, Sem.run_pure, Result.andThen_ok, List.map_toArray, List.map_cons, List.map_nil, hs, hx, hr]
  exact h v' w' h2 h3
/-- The row that is appended is one that lies somewhere, or nil. -/
theorem step_append_row {ops : Array Oper} {o : Oper} {a : Act} {K : Act → World → Prop} {Q : Exit → Act → World → Prop} {E : Prop} (hgd : o.guard = none) (s x : Operand) (t : TypeId)
    (ho : o.op = .call { callee := .builtin .append, args := #[s, x], argTypes := #[t, t] })
    (base : Nat) (e : TypeId) (i : TypeInfo) (z : Value) (bytes : Nat) (ht : P.underlying t = some (.slice e)) (hi : P.info? e = some i) (hz : i.zero = some z)
    (hsize : i.size = 1) (hby : i.bytes = bytes) (hzs : z.cells.size = 1)
    (v : Value) (n : Nat) (xs : List Value) (hs : a.eval s = v) (hown : w.ownsRow base e 1 v n xs)
    (base2 : Nat) (e2 : TypeId) (v2 : Value) (m : Nat) (ys : List Value) (hx : a.eval x = v2) (hown2 : w.ownsRow base2 e2 1 v2 m ys) (h1 : ∀ u ∈ ys, u.oneCell' = true)
    (h63 : n + m ≤ maxLen) (hbytes : (n + m) * bytes ≤ 140737488355328) (hbase : base ≤ w.heap.size)
    (h : ∀ v' w', w'.ownsRow base e 1 v' (n + m) (xs ++ ys) → w.grownBy w' v.ownBlock → K (a.put o.dst v') w') :
    if Region.wanted o (yielded ops a.tmps) = true then Oper.wp P o a w K Q else E := by
  have hown2' := hown2
  obtain ⟨hlen, ⟨hv2, h0⟩ | ⟨g, cap, cur, hv2, hg, hh, hnc, hcm, hcs, htk⟩⟩ := hown2
  · subst h0
    have hys : ys = [] := List.length_eq_zero_iff.1 (by omega)
    subst hys
    have hw : Region.wanted o (yielded ops a.tmps) = true := by simp [Region.wanted, hgd]
    rw [if_pos hw]
    have hrun := run_append_owned_none (P := P) (w := w) base t o.type e i 1 ht hi v n xs hown
    unfold Oper.wp
    simp [execOp, ho, resolve, invoke, builtin, hs, hx.trans hv2, hrun, Result.andThen]
    exact h v w (by simpa using hown) ⟨rfl, rfl, rfl, Nat.le_refl _, fun _ _ _ => rfl⟩
  · refine step_append_any w hgd s x t ho base e i z 1 bytes ht hi hz hsize hby hzs (by decide) v n xs hs hown ⟨g, 0, none⟩ m cap ys (hx.trans hv2) hlen (fun j u hu => ?_) h1 h63 hbytes hbase h
    have hj : j < m := by have := (List.getElem?_eq_some_iff.1 hu).1; omega
    have ha : (⟨g, 0, none⟩ : Addr).add j = ⟨g, j, none⟩ := by
      unfold Addr.add; split <;> simp_all
    rw [hv2] at hown2'
    rw [ha, Tr.owns_cell hown2' j hj]
    exact hu
end
end Ap
end Go.Proofs.YtbaanpgbfncdnaaGreat

namespace Go.Proofs.YtbaanpgbfncdnaaGreat
open Go.RowKit
set_option linter.unusedVariables false
set_option linter.unusedSimpArgs false

namespace Lw
def kind (k : Int) : M.Cl := ⟨k, 0, ByteArray.empty, ByteArray.empty, 0⟩
end Lw
end Go.Proofs.YtbaanpgbfncdnaaGreat

namespace Go.Proofs.YtbaanpgbfncdnaaGreat
open Go.RowKit
set_option linter.unusedVariables false
set_option linter.unusedSimpArgs false

namespace Lw
def nodeV (c : Co) (v : Value) : List Value := [.int .i64 c.op, .int .i64 c.a, .int .i64 c.b, .int .i64 c.c, .int .i64 c.num, v]
def flat (cs : List (Co × Value)) : List Value := cs.flatMap fun p => nodeV p.1 p.2
theorem flat_snoc (cs : List (Co × Value)) (c : Co) (v : Value) : flat (cs ++ [(c, v)]) = flat cs ++ nodeV c v := by simp [flat]
/-- The slice v holds the nodes of cs in a block of its own; each node's value lies in a block of its own. -/
def Rw (w : World) (base : Nat) (v : Value) (cs : List (Co × Value)) : Prop := w.ownsRow base 47 6 v cs.length (flat cs) ∧ ∀ p ∈ cs, Res w base p.2 p.1.val
theorem Rw.nil (w : World) (base : Nat) : Rw w base (.slice none 0 0) [] := ⟨World.ownsRow_nil _ _ _ _, fun p hp => by cases hp⟩
theorem Rw.slice {w : World} {base : Nat} {v : Value} {cs : List (Co × Value)} (h : Rw w base v cs) : ∃ a cap, v = .slice a cs.length cap := by
  obtain ⟨⟨_, ⟨h1, h2⟩ | ⟨g, cap, cur, h3, _⟩⟩, _⟩ := h
  · exact ⟨none, 0, by rw [h1, h2]⟩
  · exact ⟨_, cap, h3⟩
theorem Rw.typed {w : World} {base : Nat} {v : Value} {cs : List (Co × Value)} (h : Rw w base v cs) {b : Nat} (hb : v.ownBlock = some b) : base ≤ b ∧ ∃ c, w.heap[b]? = some (.cells c 47 (0, 0)) := by
  obtain ⟨⟨_, ⟨h1, h2⟩ | ⟨g, cap, cur, h3, hg, hh, _⟩⟩, _⟩ := h
  · rw [h1] at hb; cases hb
  · rw [h3] at hb; cases hb; exact ⟨hg, cur, hh⟩
theorem Rw.lt {w : World} {base : Nat} {v : Value} {cs : List (Co × Value)} (h : Rw w base v cs) {b : Nat} (hb : v.ownBlock = some b) : b < w.heap.size := by
  obtain ⟨_, c, hc⟩ := h.typed hb
  exact (Array.getElem?_eq_some_iff.1 hc).1
theorem res_typed {w : World} {B : Nat} {s : Value} {l : List M.Cl} (h : Res w B s l) {b : Nat} (hb : s.ownBlock = some b) : ∃ c, w.heap[b]? = some (.cells c 71 (0, 0)) := by
  obtain ⟨_, ⟨h1, _⟩ | ⟨g, cap, h1, _, _, xs, ⟨c, hc, _⟩, _⟩⟩ := h
  · rw [h1] at hb; cases hb
  · rw [h1] at hb; cases hb; exact ⟨c, hc⟩
/-- The block of the nodes and the block of a value are two. -/
theorem Rw.apart {w : World} {base B : Nat} {v s : Value} {cs : List (Co × Value)} {l : List M.Cl} (h : Rw w base v cs) (hr : Res w B s l) {b : Nat} (hb : v.ownBlock = some b) : s.ownBlock ≠ some b := by
  intro e
  obtain ⟨_, c, hc⟩ := h.typed hb
  obtain ⟨c', hc'⟩ := res_typed hr e
  rw [hc] at hc'
  simp only [Option.some.injEq, Obj.cells.injEq] at hc'
  exact absurd hc'.2.1 (by decide)
/-- A block of another kind than that of a value. -/
theorem res_ne {w : World} {B P : Nat} {s : Value} {l : List M.Cl} {t : TypeId} {xs : List Value} (hr : Res w B s l) (hP : Own w P t xs) (ht : t ≠ 71) : s.ownBlock ≠ some P := by
  intro e
  obtain ⟨c, hc⟩ := hP
  obtain ⟨c', hc'⟩ := res_typed hr e
  rw [hc.1] at hc'
  simp only [Option.some.injEq, Obj.cells.injEq] at hc'
  exact absurd hc'.2.1 ht
theorem Rw.ne {w : World} {base P : Nat} {v : Value} {cs : List (Co × Value)} {t : TypeId} {xs : List Value} (hr : Rw w base v cs) (hP : Own w P t xs) (ht : t ≠ 47) : v.ownBlock ≠ some P := by
  intro e
  obtain ⟨c, hc⟩ := hP
  obtain ⟨_, c', hc'⟩ := hr.typed e
  rw [hc.1] at hc'
  simp only [Option.some.injEq, Obj.cells.injEq] at hc'
  exact absurd hc'.2.1 ht

theorem res_keep {w w' : World} {B : Nat} {s : Value} {l : List M.Cl} (h : Res w B s l) (hk : ∀ b, s.ownBlock = some b → w'.heap[b]? = w.heap[b]?) : Res w' B s l := by
  obtain ⟨hn, h | ⟨b, cap, h1, h2, h3, xs, ⟨c, hc, h4⟩, h5⟩⟩ := h
  · exact ⟨hn, .inl h⟩
  · exact ⟨hn, .inr ⟨b, cap, h1, h2, h3, xs, ⟨c, (hk b (by rw [h1]; rfl)).trans hc, h4⟩, h5⟩⟩
theorem Rw.keep {w w' : World} {base : Nat} {v : Value} {cs : List (Co × Value)} (h : Rw w base v cs) (hk : ∀ b, b < w.heap.size → base ≤ b → w'.heap[b]? = w.heap[b]?) : Rw w' base v cs := by
  refine ⟨?_, fun p hp => res_keep (h.2 p hp) fun b hb => hk b ((h.2 p hp).lt b hb) ((h.2 p hp).base b hb)⟩
  have hl := fun b (hb : v.ownBlock = some b) => h.lt hb
  obtain ⟨⟨h1, ⟨h2, h3⟩ | ⟨g, cap, cur, h4, hg, hh, h5⟩⟩, _⟩ := h
  · exact ⟨h1, .inl ⟨h2, h3⟩⟩
  · exact ⟨h1, .inr ⟨g, cap, cur, h4, hg, (hk g (hl g (by rw [h4]; rfl)) hg).trans hh, h5⟩⟩
theorem Rw.below {w w' : World} {base : Nat} {v : Value} {cs : List (Co × Value)} (h : Rw w base v cs) (hb : Below w.heap.size w w') : Rw w' base v cs := h.keep fun b h1 _ => hb.block b h1

theorem plain_node (c : Co) (v : Value) (hv : v.oneCell' = true) : ∀ u ∈ nodeV c v, u.oneCell' = true := by
  intro u hu
  simp only [nodeV, List.mem_cons, List.not_mem_nil, or_false] at hu
  rcases hu with rfl | rfl | rfl | rfl | rfl | rfl <;> first | rfl | exact hv

section
variable {P : Program} (w : World)
end
end Lw
end Go.Proofs.YtbaanpgbfncdnaaGreat

namespace Go.Proofs.YtbaanpgbfncdnaaGreat
open Go.RowKit
set_option linter.unusedVariables false
namespace Lp
/-- The blocks of the values of nodes. -/
def bls (cs : List (Co × Value)) : List Nat := cs.flatMap fun p => p.2.ownBlock.toList
theorem bls_snoc (cs : List (Co × Value)) (c : Co) (v : Value) : bls (cs ++ [(c, v)]) = bls cs ++ v.ownBlock.toList := by simp [bls]
end Lp
end Go.Proofs.YtbaanpgbfncdnaaGreat
