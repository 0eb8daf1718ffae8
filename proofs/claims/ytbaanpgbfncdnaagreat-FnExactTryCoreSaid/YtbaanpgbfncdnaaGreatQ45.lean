/-
  Passes, plainly: a tree that is laid further behind is the same list with its links told further; parts that are joined.
  Nodes that are joined: how they lie, what is kept; a part node by node.
-/
import Derived.Test.YtbaanpgbfncdnaaGreatQ14
import Derived.Test.YtbaanpgbfncdnaaGreatQ25
import Derived.Test.YtbaanpgbfncdnaaGreatQ30
import Derived.Test.YtbaanpgbfncdnaaGreatQ44
namespace Go.Proofs.YtbaanpgbfncdnaaGreat
open Go.RowKit
set_option linter.unusedVariables false
set_option linter.unusedSimpArgs false
namespace Ste
/-- A node whose links are told b further. -/
def sh (b : Int) (c : Co) : Co := ⟨c.op, if 0 < Co.kids c.op then c.a + b else c.a, if 1 < Co.kids c.op then c.b + b else c.b, if 2 < Co.kids c.op then c.c + b else c.c, c.num, c.val⟩
theorem sh_node (b : Int) (h : Hd) (x y z : Int) : sh b (nodeC h x y z) = nodeC h (if 0 < Co.kids h.op then x + b else x) (if 1 < Co.kids h.op then y + b else y) (if 2 < Co.kids h.op then z + b else z) := rfl
theorem sh_lay (d : Nat) (s : Ste) : Ok s → ∀ b, (lay b s).map (sh (d : Int)) = lay (b + d) s := by
  induction s with
  | n0 h => intro hs b; simp only [lay, List.map_cons, List.map_nil, sh_node, (show Fit h 0 from hs).kid]; rfl
  | n1 h x ix =>
    intro hs b
    obtain ⟨hf, hx⟩ : Fit h 1 ∧ Ok x := hs
    simp only [lay, List.map_append, List.map_cons, List.map_nil, sh_node, hf.kid, ix hx]
    rw [if_pos (by decide), if_neg (by decide), if_neg (by decide), show ((b + sz x : Nat) : Int) - 1 + (d : Int) = ((b + d + sz x : Nat) : Int) - 1 by omega]
  | n2 h x y ix iy =>
    intro hs b
    obtain ⟨hf, hx, hy⟩ : Fit h 2 ∧ Ok x ∧ Ok y := hs
    simp only [lay, List.map_append, List.map_cons, List.map_nil, sh_node, hf.kid, ix hx, iy hy]
    rw [if_pos (by decide), if_pos (by decide), if_neg (by decide), show ((b + sz x : Nat) : Int) - 1 + (d : Int) = ((b + d + sz x : Nat) : Int) - 1 by omega, show ((b + sz x + sz y : Nat) : Int) - 1 + (d : Int) = ((b + d + sz x + sz y : Nat) : Int) - 1 by omega, show b + sz x + d = b + d + sz x by omega]
  | n3 h x y t ix iy it =>
    intro hs b
    obtain ⟨hf, hx, hy, ht⟩ : Fit h 3 ∧ Ok x ∧ Ok y ∧ Ok t := hs
    simp only [lay, List.map_append, List.map_cons, List.map_nil, sh_node, hf.kid, ix hx, iy hy, it ht]
    rw [if_pos (by decide), if_pos (by decide), if_pos (by decide), show ((b + sz x : Nat) : Int) - 1 + (d : Int) = ((b + d + sz x : Nat) : Int) - 1 by omega, show ((b + sz x + sz y : Nat) : Int) - 1 + (d : Int) = ((b + d + sz x + sz y : Nat) : Int) - 1 by omega, show ((b + sz x + sz y + sz t : Nat) : Int) - 1 + (d : Int) = ((b + d + sz x + sz y + sz t : Nat) : Int) - 1 by omega, show b + sz x + d = b + d + sz x by omega, show b + sz x + sz y + d = b + d + sz x + sz y by omega]
/-- A part laid behind b nodes. -/
theorem sh_lay0 (d : Nat) {s : Ste} (h : Ok s) : (lay 0 s).map (sh (d : Int)) = lay d s := by rw [sh_lay d s h 0, Nat.zero_add]
/-- What is joined out of the first i parts and the first k nodes of the next. -/
def jn (L : List Ste) (i k : Nat) : List Co := layL 0 (L.take i) ++ ((lay 0 (g L i)).take k).map (sh (szL (L.take i) : Int))
theorem jn_zero (L : List Ste) (i : Nat) : jn L i 0 = layL 0 (L.take i) := by simp [jn]
theorem jn_len (L : List Ste) (i k : Nat) (hk : k ≤ sz (g L i)) : (jn L i k).length = szL (L.take i) + k := by
  unfold jn
  rw [List.length_append, layL_len, List.length_map, List.length_take, lay_len]
  omega
theorem jn_succ (L : List Ste) (i k : Nat) (hk : k < sz (g L i)) : jn L i (k + 1) = jn L i k ++ [sh (szL (L.take i) : Int) ((lay 0 (g L i)).getD k Co.zero)] := by
  unfold jn
  have hk' : k < (lay 0 (g L i)).length := by rw [lay_len]; exact hk
  rw [List.take_add_one, List.map_append, List.append_assoc, List.getElem?_eq_getElem hk', List.getD_eq_getElem?_getD, List.getElem?_eq_getElem hk']
  rfl
theorem jn_full {L : List Ste} {i : Nat} (hi : i < L.length) (hO : ∀ k ∈ L, Ok k) : jn L i (sz (g L i)) = layL 0 (L.take (i + 1)) := by
  unfold jn
  have e : (lay 0 (g L i)).take (sz (g L i)) = lay 0 (g L i) := List.take_of_length_le (by rw [lay_len]; exact Nat.le_refl _)
  rw [e, sh_lay0 _ (hO _ (g_mem hi)), layL_take_succ 0 L i hi, Nat.zero_add]
  rfl
/-- The whole that is joined. -/
theorem jn_whole (h : Hd) (L : List Ste) (hL : L.length ≤ 3) : layL 0 (L.take L.length) ++ [nodeC h (endAt 0 L 0) (endAt 0 L 1) (endAt 0 L 2)] = lay 0 (mk h L) := by
  rw [lay_eq, hd_mk, ks_mk h L hL, List.take_length]
end Ste
end Go.Proofs.YtbaanpgbfncdnaaGreat

namespace Go.Proofs.YtbaanpgbfncdnaaGreat
open Go.RowKit
set_option linter.unusedVariables false
set_option linter.unusedSimpArgs false
namespace Ste
theorem owns_keep {w w' : World} {base : Nat} {e : TypeId} {k : Nat} {v : Value} {n : Nat} {xs : List Value} (h : w.ownsRow base e k v n xs) (hk : ∀ b, v.ownBlock = some b → w'.heap[b]? = w.heap[b]?) : w'.ownsRow base e k v n xs := by
  obtain ⟨h1, h2 | ⟨g, cap, cur, h3, hg, hh, h5⟩⟩ := h
  · exact ⟨h1, .inl h2⟩
  · exact ⟨h1, .inr ⟨g, cap, cur, h3, hg, (hk g (by rw [h3]; rfl)).trans hh, h5⟩⟩
theorem owns_typed {w : World} {base : Nat} {e : TypeId} {k : Nat} {v : Value} {n : Nat} {xs : List Value} (h : w.ownsRow base e k v n xs) {b : Nat} (hb : v.ownBlock = some b) : base ≤ b ∧ ∃ c, w.heap[b]? = some (.cells c e (0, 0)) := by
  obtain ⟨_, ⟨h1, _⟩ | ⟨g, cap, cur, h3, hg, hh, _⟩⟩ := h
  · rw [h1] at hb; cases hb
  · rw [h3] at hb; cases hb; exact ⟨hg, cur, hh⟩
theorem owns_lt {w : World} {base : Nat} {e : TypeId} {k : Nat} {v : Value} {n : Nat} {xs : List Value} (h : w.ownsRow base e k v n xs) {b : Nat} (hb : v.ownBlock = some b) : b < w.heap.size := by
  obtain ⟨_, c, hc⟩ := owns_typed h hb
  exact (Array.getElem?_eq_some_iff.1 hc).1
theorem owns_belowk {w w' : World} {base : Nat} {e : TypeId} {k : Nat} {v : Value} {n : Nat} {xs : List Value} (h : w.ownsRow base e k v n xs) (hb : Below w.heap.size w w') : w'.ownsRow base e k v n xs := owns_keep h fun b q => hb.block b (owns_lt h q)
/-- Rows of two kinds lie in two blocks. -/
theorem owns_apart {w : World} {B B' : Nat} {e e' : TypeId} {k k' : Nat} {v v' : Value} {n n' : Nat} {xs xs' : List Value} (h : w.ownsRow B e k v n xs) (h' : w.ownsRow B' e' k' v' n' xs') (ht : e ≠ e') {b : Nat} (hb : v.ownBlock = some b) : v'.ownBlock ≠ some b := by
  intro q
  obtain ⟨_, c, hc⟩ := owns_typed h hb
  obtain ⟨_, c', hc'⟩ := owns_typed h' q
  rw [hc] at hc'
  simp only [Option.some.injEq, Obj.cells.injEq] at hc'
  exact ht hc'.2.1
theorem owns_shape {w : World} {base : Nat} {e : TypeId} {k : Nat} {v : Value} {n : Nat} {xs : List Value} (h : w.ownsRow base e k v n xs) : ∃ a cap, v = .slice a n cap := by
  obtain ⟨_, ⟨h1, h2⟩ | ⟨g, cap, cur, h3, _⟩⟩ := h
  · exact ⟨none, 0, by rw [h1, h2]⟩
  · exact ⟨_, cap, h3⟩
/-- What is joined so far: the nodes ds, in a block of their own no older than B; what is older than C is kept. -/
structure Jo (B C : Nat) (w0 wr : World) (v : Value) (cs : List (Co × Value)) (ds : List Co) : Prop where
  row : wr.ownsRow B 47 6 v cs.length (Lw.flat cs)
  vals : ∀ p ∈ cs, Res wr 0 p.2 p.1.val
  eq : cs.map Prod.fst = ds
  bel : Below C w0 wr
  ord : C ≤ B
theorem Jo.len {B C : Nat} {w0 wr : World} {v : Value} {cs : List (Co × Value)} {ds : List Co} (h : Jo B C w0 wr v cs ds) : cs.length = ds.length := by rw [← h.eq, List.length_map]
theorem Jo.below {B C : Nat} {w0 wr w' : World} {v : Value} {cs : List (Co × Value)} {ds : List Co} (h : Jo B C w0 wr v cs ds) (hb : Below wr.heap.size wr w') (hB : C ≤ wr.heap.size) : Jo B C w0 w' v cs ds :=
  ⟨owns_belowk h.row hb, fun p hp => (h.vals p hp).below hb, h.eq, h.bel.trans (hb.mono hB), h.ord⟩
theorem Jo.apart {B C : Nat} {w0 wr : World} {v : Value} {cs : List (Co × Value)} {ds : List Co} (h : Jo B C w0 wr v cs ds) {B' : Nat} {s : Value} {l : List M.Cl} (hr : Res wr B' s l) {b : Nat} (hb : v.ownBlock = some b) : s.ownBlock ≠ some b := by
  intro e
  obtain ⟨_, c, hc⟩ := owns_typed h.row hb
  obtain ⟨c', hc'⟩ := Lw.res_typed hr e
  rw [hc] at hc'
  simp only [Option.some.injEq, Obj.cells.injEq] at hc'
  exact absurd hc'.2.1 (by decide)
/-- One more node. -/
theorem Jo.push {B C : Nat} {w0 W wA : World} {v v' x : Value} {cs : List (Co × Value)} {ds : List Co} {c : Co} (h : Jo B C w0 W v cs ds) (hB : C ≤ W.heap.size) (ho : wA.ownsRow B 47 6 v' (cs.length + 1) (Lw.flat cs ++ Lw.nodeV c x)) (hg : W.grownBy wA v.ownBlock) (hx : Res W 0 x c.val) : Jo B C w0 wA v' (cs ++ [(c, x)]) (ds ++ [c]) := by
  refine ⟨by rw [List.length_append, Lw.flat_snoc]; exact ho, fun p hp => ?_, by rw [List.map_append, h.eq]; rfl, h.bel.grown hg hB (fun k hk => Nat.le_trans h.ord (owns_typed h.row hk).1), h.ord⟩
  have hp1 : Res W 0 p.2 p.1.val := by
    rcases List.mem_append.1 hp with hp | hp
    · exact h.vals p hp
    · rw [List.mem_singleton] at hp; subst hp; exact hx
  exact Lw.res_keep hp1 fun b hb => hg.block b (hp1.lt b hb) (fun e => h.apart hp1 e.symm hb)
/-- Another row is kept behind it. -/
theorem Jo.other {B B' C : Nat} {w0 W wA : World} {v v6 : Value} {cs : List (Co × Value)} {ds : List Co} {n k : Nat} {t : TypeId} {xs : List Value} (h : Jo B C w0 W v cs ds) (h6 : W.ownsRow B' t k v6 n xs) (ht : t ≠ 47) (hg : W.grownBy wA v.ownBlock) : wA.ownsRow B' t k v6 n xs :=
  owns_keep h6 fun b hb => hg.block b (owns_lt h6 hb) (fun e => owns_apart h6 h.row ht hb e.symm)
/-- The node's own block is written. -/
theorem Jo.far {B C nb j : Nat} {w0 wr : World} {v x : Value} {cs : List (Co × Value)} {ds : List Co} {xs : List Value} (h : Jo B C w0 wr v cs ds) (hC : C ≤ nb) (hnb : nb < B) (ho : Own wr nb 47 xs) : Jo B C w0 (wr.setCell ⟨nb, j, none⟩ x) v cs ds := by
  refine ⟨owns_keep h.row fun b hb => heap_setCell_other wr ⟨nb, j, none⟩ b x (by have := (owns_typed h.row hb).1; simp; omega), fun p hp => Lw.res_keep (h.vals p hp) fun b hb => heap_setCell_other wr ⟨nb, j, none⟩ b x (fun e => ?_), h.eq, h.bel.setCell hC x, h.ord⟩
  simp only at e
  subst e
  obtain ⟨c, hc, _⟩ := ho
  obtain ⟨c', hc'⟩ := Lw.res_typed (h.vals p hp) hb
  rw [hc] at hc'
  simp only [Option.some.injEq, Obj.cells.injEq] at hc'
  exact absurd hc'.2.1 (by decide)
theorem Jo.old {B C C' : Nat} {w w0 wr : World} {v : Value} {cs : List (Co × Value)} {ds : List Co} (h : Jo B C w0 wr v cs ds) (hb : Below C' w w0) (hC : C' ≤ C) : Jo B C' w wr v cs ds :=
  ⟨h.row, h.vals, h.eq, hb.trans (h.bel.mono hC), Nat.le_trans hC h.ord⟩
theorem cell_far {w : World} {a g i j : Nat} (x : Value) (h : g ≠ a) : (w.setCell ⟨a, j, none⟩ x).cell? ⟨g, i, none⟩ = w.cell? ⟨g, i, none⟩ := by
  simp only [World.cell?, heap_setCell_other w ⟨a, j, none⟩ g x h]
/-- A part, node by node. -/
theorem Pt.node {w : World} {v : Value} {s : Ste} (h : Pt w v s) : ∃ g cap, v = .slice (some ⟨g, 0, none⟩) (sz s) cap ∧ g < w.heap.size ∧ ∀ k, k < sz s → ∃ vv, w.cell? ⟨g, k * 6, none⟩ = some (.int .i64 ((lay 0 s).getD k Co.zero).op) ∧ w.cell? ⟨g, k * 6 + 1, none⟩ = some (.int .i64 ((lay 0 s).getD k Co.zero).a) ∧ w.cell? ⟨g, k * 6 + 2, none⟩ = some (.int .i64 ((lay 0 s).getD k Co.zero).b) ∧ w.cell? ⟨g, k * 6 + 3, none⟩ = some (.int .i64 ((lay 0 s).getD k Co.zero).c) ∧ w.cell? ⟨g, k * 6 + 4, none⟩ = some (.int .i64 ((lay 0 s).getD k Co.zero).num) ∧ w.cell? ⟨g, k * 6 + 5, none⟩ = some vv ∧ Res w 0 vv ((lay 0 s).getD k Co.zero).val := by
  obtain ⟨ds, h1, h2⟩ := h
  have hlen : ds.length = sz s := by have := congrArg List.length h2; rw [List.length_map, lay_len] at this; exact this
  have hp := sz_pos s
  rcases h1 with ⟨_, rfl⟩ | ⟨g, cap, xs, e1, _, hc, ho, hn, hr⟩
  · simp at hlen; omega
  · refine ⟨g, cap, by rw [e1, hlen], ho.lt, fun k hk => ?_⟩
    have hi : k < ds.length := by omega
    have hfst : (lay 0 s).getD k Co.zero = (ds.getD k Lm.z).1 := by
      rw [← h2, List.getD_eq_getElem?_getD, List.getD_eq_getElem?_getD, List.getElem?_map, List.getElem?_eq_getElem hi]; rfl
    have q := hn.2 _ hi
    have r := hr _ hi
    rw [hfst]
    obtain ⟨q0, q1, q2, q3, q4, q5⟩ := q
    exact ⟨_, (ho.cell _).trans q0, (ho.cell _).trans q1, (ho.cell _).trans q2, (ho.cell _).trans q3, (ho.cell _).trans q4, (ho.cell _).trans q5, r⟩
/-- What is joined is a part. -/
theorem Jo.part {B C : Nat} {w0 wr : World} {v : Value} {cs : List (Co × Value)} {s : Ste} (h : Jo B C w0 wr v cs (lay 0 s)) : Pt wr v s := by
  refine ⟨cs, ?_, h.eq⟩
  have hx : Lw.Rw wr 0 v cs := ⟨by
    obtain ⟨h1, h2 | ⟨g, cap, cur, h3, hg, hh, h5⟩⟩ := h.row
    · exact ⟨h1, .inl h2⟩
    · exact ⟨h1, .inr ⟨g, cap, cur, h3, Nat.zero_le _, hh, h5⟩⟩, h.vals⟩
  exact Lm.of_rw hx
/-- Where the parts that are joined so far end. -/
def ends (L : List Ste) (i : Nat) : List Int := (List.range i).map (endAt 0 L)
theorem ends_succ (L : List Ste) (i : Nat) : ends L (i + 1) = ends L i ++ [endAt 0 L i] := by unfold ends; rw [List.range_succ, List.map_append]; rfl
theorem endAt_is (L : List Ste) (i : Nat) (hi : i < L.length) : endAt 0 L i = (szL (L.take (i + 1)) : Int) - 1 := by unfold endAt; rw [if_pos hi, Nat.zero_add]
theorem endAt_no (L : List Ste) (i : Nat) (hi : L.length ≤ i) : endAt 0 L i = 0 := by unfold endAt; rw [if_neg (by omega)]
theorem kids_lay {s : Ste} (h : Ok s) : ∀ b, ∀ c ∈ lay b s, 1 ≤ c.op ∧ c.op ≤ 17 := by
  induction s with
  | n0 h0 => intro b c hc; simp only [lay, List.mem_singleton] at hc; subst hc; exact (show Fit h0 0 from h).op
  | n1 h0 x ix =>
    intro b c hc
    obtain ⟨hf, hx⟩ : Fit h0 1 ∧ Ok x := h
    simp only [lay, List.mem_append, List.mem_singleton] at hc
    rcases hc with hc | hc
    · exact ix hx b c hc
    · subst hc; exact hf.op
  | n2 h0 x y ix iy =>
    intro b c hc
    obtain ⟨hf, hx, hy⟩ : Fit h0 2 ∧ Ok x ∧ Ok y := h
    simp only [lay, List.mem_append, List.mem_singleton] at hc
    rcases hc with (hc | hc) | hc
    · exact ix hx _ c hc
    · exact iy hy _ c hc
    · subst hc; exact hf.op
  | n3 h0 x y t ix iy it =>
    intro b c hc
    obtain ⟨hf, hx, hy, ht⟩ : Fit h0 3 ∧ Ok x ∧ Ok y ∧ Ok t := h
    simp only [lay, List.mem_append, List.mem_singleton] at hc
    rcases hc with ((hc | hc) | hc) | hc
    · exact ix hx _ c hc
    · exact iy hy _ c hc
    · exact it ht _ c hc
    · subst hc; exact hf.op
theorem lay_mem (s : Ste) (k : Nat) (hk : k < sz s) : (lay 0 s).getD k Co.zero ∈ lay 0 s := by
  have hk' : k < (lay 0 s).length := by rw [lay_len]; exact hk
  rw [List.getD_eq_getElem?_getD, List.getElem?_eq_getElem hk']
  exact List.getElem_mem hk'
/-- A node's links are small. -/
theorem lay_small (s : Ste) : ∀ b, ∀ c ∈ lay b s, (0 ≤ c.a ∧ c.a ≤ b + sz s) ∧ (0 ≤ c.b ∧ c.b ≤ b + sz s) ∧ (0 ≤ c.c ∧ c.c ≤ b + sz s) := by
  induction s with
  | n0 h0 => intro b c hc; simp only [lay, List.mem_singleton] at hc; subst hc; simp only [nodeC, sz]; omega
  | n1 h0 x ix =>
    intro b c hc
    have := sz_pos x
    simp only [lay, List.mem_append, List.mem_singleton] at hc
    rcases hc with hc | hc
    · have := ix b c hc; simp only [sz]; omega
    · subst hc; simp only [nodeC, sz]; omega
  | n2 h0 x y ix iy =>
    intro b c hc
    have := sz_pos x
    have := sz_pos y
    simp only [lay, List.mem_append, List.mem_singleton] at hc
    rcases hc with (hc | hc) | hc
    · have := ix _ c hc; simp only [sz]; omega
    · have := iy _ c hc; simp only [sz]; omega
    · subst hc; simp only [nodeC, sz]; omega
  | n3 h0 x y t ix iy it =>
    intro b c hc
    have := sz_pos x
    have := sz_pos y
    have := sz_pos t
    simp only [lay, List.mem_append, List.mem_singleton] at hc
    rcases hc with ((hc | hc) | hc) | hc
    · have := ix _ c hc; simp only [sz]; omega
    · have := iy _ c hc; simp only [sz]; omega
    · have := it _ c hc; simp only [sz]; omega
    · subst hc; simp only [nodeC, sz]; omega
theorem szL_900 {L : List Ste} (h3 : L.length ≤ 3) (hz : ∀ k ∈ L, sz k ≤ 900) : szL L ≤ 2700 := by
  rcases L with _ | ⟨a, _ | ⟨b, _ | ⟨c, _ | ⟨d, r⟩⟩⟩⟩
  · simp [szL]
  · have := hz a (by simp); simp only [szL]; omega
  · have := hz a (by simp); have := hz b (by simp); simp only [szL]; omega
  · have := hz a (by simp); have := hz b (by simp); have := hz c (by simp); simp only [szL]; omega
  · simp at h3
end Ste
end Go.Proofs.YtbaanpgbfncdnaaGreat
