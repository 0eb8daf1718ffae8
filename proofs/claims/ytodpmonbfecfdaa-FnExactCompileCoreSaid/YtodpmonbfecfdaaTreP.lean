/-
  Rows of numbers and of lists of numbers in memory of the call's own: what a tree's nodes name, laid out.
  impl.standInOrder and impl.depthOfLast, over what the nodes name.
-/
import Derived.Test.YtodpmonbfecfdaaTreN
import Derived.Test.YtodpmonbfecfdaaTreA
import Derived.Test.YtodpmonbfecfdaaTreD
import Derived.Deep.LoopGhost
import Derived.Deep.QuietTactic
import Derived.BigQuiet
import Derived.Maps.AppendAt
namespace Go.Proofs.Ytodpmonbfecfdaa
open Go.RowKit
set_option linter.unusedVariables false

namespace Tr
theorem owns_below {w w' : World} {base : Nat} {e : TypeId} {size : Nat} {v : Value} {n : Nat} {xs : List Value} (h : w.ownsRow base e size v n xs) (hb : Below w.heap.size w w') : w'.ownsRow base e size v n xs := by
  obtain ⟨h1, h2 | ⟨g, cap, cur, h3, h4, h5, h6⟩⟩ := h
  · exact ⟨h1, .inl h2⟩
  · exact ⟨h1, .inr ⟨g, cap, cur, h3, h4, (hb.block g (Array.getElem?_eq_some_iff.1 h5).1).trans h5, h6⟩⟩
theorem owns_base {w : World} {base : Nat} {e : TypeId} {size : Nat} {v : Value} {n : Nat} {xs : List Value} (h : w.ownsRow base e size v n xs) : ∀ k, v.ownBlock = some k → base ≤ k := by
  obtain ⟨_, ⟨rfl, _⟩ | ⟨g, cap, cur, rfl, hg, _⟩⟩ := h
  · intro k hk; simp [Value.ownBlock] at hk
  · intro k hk; simp only [Value.ownBlock, Option.some.injEq] at hk; omega
theorem owns_mono {w : World} {base base' : Nat} {e : TypeId} {size : Nat} {v : Value} {n : Nat} {xs : List Value} (h : w.ownsRow base e size v n xs) (hb : base' ≤ base) : w.ownsRow base' e size v n xs := by
  obtain ⟨h1, h2 | ⟨g, cap, cur, h3, h4, h5, h6⟩⟩ := h
  · exact ⟨h1, .inl h2⟩
  · exact ⟨h1, .inr ⟨g, cap, cur, h3, by omega, h5, h6⟩⟩
theorem grown_own {w w' : World} {row : Option Nat} (hg : w.grownBy w' row) {b : Nat} {t : TypeId} {ys : List Value} (ho : Own w b t ys) (hne : row ≠ some b) : Own w' b t ys := by
  obtain ⟨c, hc, e⟩ := ho
  exact ⟨c, (hg.block b (Array.getElem?_eq_some_iff.1 hc).1 (fun h => hne h.symm)).trans hc, e⟩
/-- A row of one type is no row of another. -/
theorem owns_ne {w : World} {base : Nat} {e t : TypeId} {size : Nat} {v : Value} {n b : Nat} {xs ys : List Value} (h : w.ownsRow base e size v n xs) (ho : Own w b t ys) (hne : e ≠ t) : v.ownBlock ≠ some b := by
  obtain ⟨_, ⟨rfl, _⟩ | ⟨g, cap, cur, rfl, hg, hh, _⟩⟩ := h
  · simp [Value.ownBlock]
  · obtain ⟨c, hc, _⟩ := ho
    simp only [Value.ownBlock, ne_eq, Option.some.injEq]
    rintro rfl
    rw [hh] at hc
    simp only [Option.some.injEq, Obj.cells.injEq] at hc
    exact hne hc.2.1
/-- The cell of an owned row of one-cell elements. -/
theorem owns_cell {w : World} {base g cap n m : Nat} {e : TypeId} {xs : List Value} (h : w.ownsRow base e 1 (.slice (some ⟨g, 0, none⟩) n cap) m xs) (j : Nat) (hj : j < m) : w.cell? ⟨g, j, none⟩ = xs[j]? := by
  obtain ⟨h1, ⟨h2, _⟩ | ⟨g', cap', cur, h3, h4, h5, h6, h7, h8, h9⟩⟩ := h
  · cases h2
  · simp only [Value.slice.injEq, Option.some.injEq, Addr.mk.injEq, and_true] at h3
    obtain ⟨rfl, rfl, rfl⟩ := h3
    rw [cell_of_row w g j cur e (0, 0) h5, ← h9, List.getElem?_take, if_pos (by omega)]
    simp
/-- A slice up to a place is a row of the call's own, too. -/
theorem owns_take {w : World} {base g cap n r : Nat} {e : TypeId} {xs : List Value} (h : w.ownsRow base e 1 (.slice (some ⟨g, 0, none⟩) n cap) n xs) (hr : r ≤ n) : w.ownsRow base e 1 (.slice (some ⟨g, 0, none⟩) r cap) r (xs.take r) := by
  obtain ⟨h1, ⟨h2, _⟩ | ⟨g', cap', cur, h3, h4, h5, h6, h7, h8, h9⟩⟩ := h
  · cases h2
  · simp only [Value.slice.injEq, Option.some.injEq, Addr.mk.injEq, and_true] at h3
    obtain ⟨rfl, _, rfl⟩ := h3
    refine ⟨by rw [List.length_take]; omega, .inr ⟨g, cap, cur, rfl, h4, h5, by omega, h7, h8, ?_⟩⟩
    rw [← h9, List.take_take]; congr 1; omega
theorem one_word (w : World) (x : Int) : ∀ j u, ([Value.int .i64 x] : List Value)[j]? = some u → (w.alloc (.cells #[.int .i64 x] 2)).cell? ((⟨w.heap.size, 0, none⟩ : Addr).add j) = some u := by
  intro j u hu
  match j, hu with
  | 0, hu =>
    simp only [List.getElem?_cons_zero, Option.some.injEq] at hu
    subst hu
    have a0 : (⟨w.heap.size, 0, none⟩ : Addr).add 0 = ⟨w.heap.size, 0, none⟩ := by simp [Addr.add]
    rw [a0]
    exact World.cell?_alloc_mark w #[.int .i64 x] 2 (0, 0) 0
theorem one_plain (x : Int) : ∀ u ∈ ([Value.int .i64 x] : List Value), u.oneCell' = true := by
  intro u hu; simp only [List.mem_cons, List.not_mem_nil, or_false] at hu; subst hu; rfl
theorem one_slice (w : World) (a : Option Addr) (n c : Nat) : ∀ j u, ([Value.slice a n c] : List Value)[j]? = some u → (w.alloc (.cells #[.slice a n c] 44)).cell? ((⟨w.heap.size, 0, none⟩ : Addr).add j) = some u := by
  intro j u hu
  match j, hu with
  | 0, hu =>
    simp only [List.getElem?_cons_zero, Option.some.injEq] at hu
    subst hu
    have a0 : (⟨w.heap.size, 0, none⟩ : Addr).add 0 = ⟨w.heap.size, 0, none⟩ := by simp [Addr.add]
    rw [a0]
    exact World.cell?_alloc_mark w #[.slice a n c] 44 (0, 0) 0
theorem one_slice_plain (a : Option Addr) (n c : Nat) : ∀ u ∈ ([Value.slice a n c] : List Value), u.oneCell' = true := by
  intro u hu; simp only [List.mem_cons, List.not_mem_nil, or_false] at hu; subst hu; rfl
theorem infoI : (Try.prog.info? 2).map (fun i => (i.zero, i.size, i.bytes)) = some (some (.int .i64 0), 1, 8) := by kernel_rfl
theorem infoS : (Try.prog.info? 44).map (fun i => (i.zero, i.size, i.bytes)) = some (some (.slice none 0 0), 1, 24) := by kernel_rfl

def npV (n : Nd) (g : Nat) : Value := .slice (some ⟨g, 0, none⟩) (kids n.op) 3
def npL (l : List Nd) (gs : List Nat) : List Value := (List.range gs.length).map fun j => npV (l.getD j Nd.zero) (gs.getD j 0)
theorem npL_length (l : List Nd) (gs : List Nat) : (npL l gs).length = gs.length := by simp [npL]
theorem npL_get (l : List Nd) (gs : List Nat) (j : Nat) (hj : j < gs.length) : (npL l gs)[j]? = some (npV (l.getD j Nd.zero) (gs.getD j 0)) := by
  unfold npL; rw [List.getElem?_map, List.getElem?_range hj]; rfl
theorem getD_snoc_lt {α : Type} (gs : List α) (g d : α) (j : Nat) (hj : j < gs.length) : (gs ++ [g]).getD j d = gs.getD j d := by
  rw [List.getD_eq_getElem?_getD, List.getElem?_append_left hj, List.getD_eq_getElem?_getD]
theorem getD_snoc_eq {α : Type} (gs : List α) (g d : α) : (gs ++ [g]).getD gs.length d = g := by
  rw [List.getD_eq_getElem?_getD, List.getElem?_append_right (Nat.le_refl _)]; simp
theorem npL_snoc (l : List Nd) (gs : List Nat) (g : Nat) : npL l (gs ++ [g]) = npL l gs ++ [npV (l.getD gs.length Nd.zero) g] := by
  unfold npL
  rw [List.length_append, List.length_cons, List.length_nil, Nat.zero_add, List.range_succ, List.map_append]
  congr 1
  · refine List.map_congr_left fun j hj => ?_
    rw [getD_snoc_lt gs g 0 j (List.mem_range.1 hj)]
  · simp only [List.map_cons, List.map_nil]
    rw [getD_snoc_eq]
/-- What each of the first nodes names lies in a row of its own, and these rows one behind the other. -/
def NP (w : World) (B : Nat) (v : Value) (l : List Nd) (gs : List Nat) : Prop :=
  w.ownsRow B 44 1 v gs.length (npL l gs) ∧ ∀ j, j < gs.length → B ≤ gs.getD j 0 ∧ Own w (gs.getD j 0) 2 [.int .i64 (l.getD j Nd.zero).a, .int .i64 (l.getD j Nd.zero).b, .int .i64 (l.getD j Nd.zero).c]
theorem NP.below {w w' : World} {B : Nat} {v : Value} {l : List Nd} {gs : List Nat} (h : NP w B v l gs) (hb : Below w.heap.size w w') : NP w' B v l gs :=
  ⟨owns_below h.1 hb, fun j hj => ⟨(h.2 j hj).1, (h.2 j hj).2.below hb (h.2 j hj).2.lt⟩⟩
theorem NP.nil (w : World) (B : Nat) (l : List Nd) : NP w B (.slice none 0 0) l [] := ⟨World.ownsRow_nil _ _ _ _, fun j hj => by simp at hj⟩
theorem NP.snoc {w w' : World} {B g : Nat} {v v' : Value} {l : List Nd} {gs : List Nat} (h : NP w B v l gs) (hB : B ≤ g) (ho : Own w g 2 [.int .i64 (l.getD gs.length Nd.zero).a, .int .i64 (l.getD gs.length Nd.zero).b, .int .i64 (l.getD gs.length Nd.zero).c])
    (hg : w.grownBy w' v.ownBlock) (hv : w'.ownsRow B 44 1 v' (gs.length + 1) (npL l gs ++ [npV (l.getD gs.length Nd.zero) g])) : NP w' B v' l (gs ++ [g]) := by
  refine ⟨?_, fun j hj => ?_⟩
  · rw [npL_snoc, List.length_append]; exact hv
  · rw [List.length_append] at hj
    simp only [List.length_cons, List.length_nil] at hj
    by_cases e : j < gs.length
    · rw [getD_snoc_lt gs g 0 j e]
      exact ⟨(h.2 j e).1, grown_own hg (h.2 j e).2 (owns_ne h.1 (h.2 j e).2 (by decide))⟩
    · obtain rfl : j = gs.length := by omega
      rw [getD_snoc_eq]
      exact ⟨hB, grown_own hg ho (owns_ne h.1 ho (by decide))⟩
/-- A list of numbers that is read. -/
def IV (w : World) (a : Option Addr) (n : Nat) (xs : List Int) : Prop := xs.length = n ∧ (n = 0 ∨ ∃ b o, a = some ⟨b, o, none⟩ ∧ ∀ j, j < n → w.cell? ⟨b, o + j, none⟩ = some (.int .i64 (xs.getD j 0)))
theorem list_same {xs ys : List Int} (hl : xs.length = ys.length) (h : ∀ j, j < xs.length → xs.getD j 0 = ys.getD j 0) : xs = ys := by
  refine List.ext_getElem hl fun j h1 h2 => ?_
  have := h j h1
  rw [List.getD_eq_getElem?_getD, List.getElem?_eq_getElem h1, List.getD_eq_getElem?_getD, List.getElem?_eq_getElem h2] at this
  exact this
theorem list_other {xs ys : List Int} {j : Nat} (h : xs.getD j 0 ≠ ys.getD j 0) : xs ≠ ys := fun e => h (by rw [e])
end Tr

theorem field_links (a b c : Int) (fv : Value) (w : World) : (Instr.field 103 (.agg #[.int .i64 a, .int .i64 b, .int .i64 c, fv]) 0).run Try.prog w = .ok (.int .i64 a) w := by kernel_rfl

set_option maxRecDepth 100000 in
set_option maxHeartbeats 1000000 in
theorem equalInts_any (a a' : Option Addr) (n c c' : Nat) (xs ys : List Int) (w : World) (hx : Tr.IV w a n xs) (hy : Tr.IV w a' n ys) (hn : n ≤ 1000) (hc : n ≤ c) (hc' : n ≤ c') :
    Calls Try.prog 73 #[.slice a n c, .slice a' n c'] w fun e w' => e = .returned (.bool (decide (xs = ys))) ∧ Below w.heap.size w w' := by
  obtain ⟨lx, hx⟩ := hx
  obtain ⟨ly, hy⟩ := hy
  have hsame := hide (fun h => Tr.list_same (xs := xs) (ys := ys) (by omega) h)
  have hoth := hide (fun j h => Tr.list_other (xs := xs) (ys := ys) (j := j) h)
  have LX := hide lx
  clear lx ly
  by_cases h0 : n = 0
  · subst h0
    have fin := hide ((unhide hsame) (fun j hj => absurd hj (by have := unhide LX; omega)))
    go_enter Try.func73, Try.ntmps73
    go_wp2_with fail
    refine wp_loop_rounds 1 ?_
    rw [rounds_succ]
    go_wp2_with fail
    go_ret
    exact ⟨ret_bool (decide_eq_true (unhide fin)).symm, Below.refl _ _⟩
  · obtain ⟨b, o, rfl, hcx⟩ : ∃ b o, a = some ⟨b, o, none⟩ ∧ ∀ j, j < n → w.cell? ⟨b, o + j, none⟩ = some (.int .i64 (xs.getD j 0)) := by rcases hx with h | h; exact absurd h h0; exact h
    obtain ⟨b', o', rfl, hcy⟩ : ∃ b o, a' = some ⟨b, o, none⟩ ∧ ∀ j, j < n → w.cell? ⟨b, o + j, none⟩ = some (.int .i64 (ys.getD j 0)) := by rcases hy with h | h; exact absurd h h0; exact h
    have hblt : b < w.heap.size := block_lt_of_cell ((hcx 0 (by omega)).trans rfl)
    have hblt' : b' < w.heap.size := block_lt_of_cell ((hcy 0 (by omega)).trans rfl)
    have HX := hide hcx
    have HY := hide hcy
    clear hcx hcy hx hy h0
    go_enter Try.func73, Try.ntmps73
    go_wp2_with fail
    go_loopg [13] n (fun gh s13 wr => ∃ k : Nat, Hid (gh = n - k) ∧ s13 = .int .i64 k ∧ k ≤ n ∧ Hid (∀ j, j < k → xs.getD j 0 = ys.getD j 0) ∧ Below w.heap.size w wr)
    case atStart => exact ⟨0, rfl, rfl, by omega, fun j hj => absurd hj (by omega), Below.refl _ _⟩
    case round =>
      obtain ⟨k, hg, rfl, hk, hall, hbel⟩ := hrel
      by_cases hlt : k < n
      · have f1 := (hbel.cell (by exact hblt)).trans ((unhide HX) k hlt)
        have f2 := (hbel.cell (by exact hblt')).trans ((unhide HY) k hlt)
        have hno := hide ((unhide hoth) k)
        have hnext : Hid (xs.getD k 0 = ys.getD k 0 → ∀ j, j < k + 1 → xs.getD j 0 = ys.getD j 0) := fun h j hj => by
          by_cases e : j = k
          · subst e; exact h
          · exact hall.out j (by omega)
        generalize xs.getD k 0 = x at f1 hno hnext
        generalize ys.getD k 0 = y at f2 hno hnext
        have hltI : (k : Int) < (n : Int) := by omega
        clear hlt
        by_cases hxy : x = y
        · have hn2 := hide (hnext.out hxy)
          have g1 : (x != y) = false := by simp [hxy]
          clear hxy hnext hno
          go_wp2_with fail
          go_quiet (fail)
          go_wp2_with fail
          go_roundg (n - (k + 1))
          case rel => exact ⟨k + 1, rfl, by go_num, by omega, unhide hn2, below_drewN hbel _⟩
          case measure => have := hg.out; omega
        · have fin := hide ((unhide hno) hxy)
          have g1 : (x != y) = true := by simpa using hxy
          clear hxy hnext hno
          go_wp2_with fail
          go_quiet (fail)
          go_wp2_with fail
          go_ret
          exact ⟨ret_bool (decide_eq_false (unhide fin)).symm, below_drewN hbel _⟩
      · have hke : k = n := by omega
        have fin := hide ((unhide hsame) (fun j hj => hall.out j (by have := unhide LX; omega)))
        clear hke
        go_wp2_with fail
        go_ret
        exact ⟨ret_bool (decide_eq_true (unhide fin)).symm, hbel⟩

end Go.Proofs.Ytodpmonbfecfdaa

namespace Go.Proofs.Ytodpmonbfecfdaa
open Go.RowKit
set_option linter.unusedVariables false

namespace Tr
theorem inOrder_none {l : List Nd} {k : Nat} (h : stk l k = none) (hk : k ≤ l.length) : inOrder l = false := by
  unfold inOrder; rw [stk_none_le h hk]
theorem inOrder_end {l : List Nd} {st : List Int} (h : stk l l.length = some st) : inOrder l = (st.length == 1) := by
  unfold inOrder; rw [h]
theorem stk_bad {l : List Nd} {k : Nat} {st : List Int} (h : stk l k = some st) (hb : ¬ ((links (l.getD k Nd.zero)).length ≤ st.length ∧ st.drop (st.length - (links (l.getD k Nd.zero)).length) = links (l.getD k Nd.zero))) : stk l (k + 1) = none := by
  rw [stk_step h, if_neg hb]
theorem stk_good {l : List Nd} {k : Nat} {st : List Int} (h : stk l k = some st) (hb : (links (l.getD k Nd.zero)).length ≤ st.length ∧ st.drop (st.length - (links (l.getD k Nd.zero)).length) = links (l.getD k Nd.zero)) : stk l (k + 1) = some (st.take (st.length - (links (l.getD k Nd.zero)).length) ++ [(k : Int)]) := by
  rw [stk_step h, if_pos hb]
theorem map_get (st : List Int) (j : Nat) (hj : j < st.length) : (st.map (Value.int .i64))[j]? = some (.int .i64 (st.getD j 0)) := by
  rw [List.getElem?_map, List.getElem?_eq_getElem hj, List.getD_eq_getElem?_getD, List.getElem?_eq_getElem hj]; rfl
theorem drop_getD (st : List Int) (r j : Nat) : (st.drop r).getD j 0 = st.getD (r + j) 0 := by
  rw [List.getD_eq_getElem?_getD, List.getElem?_drop, List.getD_eq_getElem?_getD]
theorem links_getD (n : Nd) (j : Nat) (hj : j < kids n.op) : (links n).getD j 0 = kidAt n j := by
  rw [links_kidAt, List.getD_eq_getElem?_getD, List.getElem?_map, List.getElem?_range hj]; rfl
theorem abc_get (n : Nd) (j : Nat) (hj : j < 3) : ([Value.int .i64 n.a, Value.int .i64 n.b, Value.int .i64 n.c] : List Value)[j]? = some (.int .i64 (kidAt n j)) := by
  have hh : j = 0 ∨ j = 1 ∨ j = 2 := by omega
  rcases hh with rfl | rfl | rfl <;> rfl
/-- What a node names, read off its row. -/
theorem links_view {w : World} {g : Nat} {n : Nd} (ho : Own w g 2 [.int .i64 n.a, .int .i64 n.b, .int .i64 n.c]) : IV w (some ⟨g, 0, none⟩) (kids n.op) (links n) := by
  refine ⟨links_length n, .inr ⟨g, 0, rfl, fun j hj => ?_⟩⟩
  have := kids_le n.op
  rw [Nat.zero_add, ho.cell, abc_get n j (by omega), links_getD n j hj]
/-- The upper part of the places that are not named yet. -/
theorem loose_view {w : World} {base g cap : Nat} {st : List Int} (h : w.ownsRow base 2 1 (.slice (some ⟨g, 0, none⟩) st.length cap) st.length (st.map (Value.int .i64))) (r : Nat) (hr : r ≤ st.length) (a : Option Addr) (ha : a = some ⟨g, r, none⟩ ∨ r = st.length) : IV w a (st.length - r) (st.drop r) := by
  refine ⟨by simp, ?_⟩
  by_cases e : r = st.length
  · left; omega
  · right
    have ha' : a = some ⟨g, r, none⟩ := by rcases ha with h | h; exact h; exact absurd h e
    refine ⟨g, r, ha', fun j hj => ?_⟩
    rw [owns_cell h (r + j) (by omega), map_get st (r + j) (by omega), drop_getD]
theorem np_cell {w : World} {B g cap m : Nat} {l : List Nd} {gs : List Nat} (h : NP w B (.slice (some ⟨g, 0, none⟩) m cap) l gs) (k : Nat) (hk : k < gs.length) : w.cell? ⟨g, k, none⟩ = some (.slice (some ⟨gs.getD k 0, 0, none⟩) (kids (l.getD k Nd.zero).op) 3) := by
  rw [owns_cell h.1 k hk, npL_get l gs k hk]; rfl
/-- Where there are nodes, the rows lie somewhere. -/
theorem NP.some {w : World} {B : Nat} {v : Value} {l : List Nd} {gs : List Nat} (h : NP w B v l gs) (h0 : 0 < gs.length) : ∃ g cap, v = .slice (some ⟨g, 0, none⟩) gs.length cap ∧ gs.length ≤ cap ∧ g < w.heap.size := by
  obtain ⟨⟨_, ⟨_, h2⟩ | ⟨g, cap, cur, h3, h4, h5, h6, _⟩⟩, _⟩ := h
  · omega
  · exact ⟨g, cap, h3, h6, (Array.getElem?_eq_some_iff.1 h5).1⟩
end Tr

set_option maxRecDepth 100000 in
set_option maxHeartbeats 2000000 in
theorem standInOrder_big (B g cap : Nat) (gs : List Nat) (l : List Nd) (w : World) (hnp : Tr.NP w B (.slice (some ⟨g, 0, none⟩) l.length cap) l gs) (hgl : gs.length = l.length) (hcap : l.length ≤ cap) (hg0 : g < w.heap.size) (h200 : l.length ≤ 1000) (h0 : 0 < l.length) :
    Calls Try.prog 45 #[.slice (some ⟨g, 0, none⟩) l.length cap] w fun e w' => e = .returned (.bool (Tr.inOrder l)) ∧ Below w.heap.size w w' := by
  have HNP := hide hnp
  have HGL := hide hgl
  clear hnp hgl
  obtain ⟨i0, hi, hz0, hz1, hz2⟩ := info_parts Tr.infoI
  go_enter Try.func45, Try.ntmps45
  go_wp2_with fail
  go_loopg [3, 9] l.length (fun gh s3 s9 wr => ∃ (k : Nat) (st : List Int), Hid (gh = l.length - k) ∧ s9 = .int .i64 k ∧ k ≤ l.length ∧ Hid (Tr.stk l k = some st) ∧ wr.ownsRow w.heap.size 2 1 s3 st.length (st.map (Value.int .i64)) ∧ Below w.heap.size w wr)
  case atStart => exact ⟨0, [], rfl, rfl, by omega, rfl, World.ownsRow_nil _ _ _ _, Below.refl _ _⟩
  case round =>
    obtain ⟨k, st, hg, rfl, hk, hst, hown, hbel⟩ := hrel
    have hsl := Tr.stk_len k st hst.out
    by_cases hlt : k < l.length
    · have hltI : (k : Int) < (l.length : Int) := by omega
      have hkg : k < gs.length := by rw [unhide HGL]; exact hlt
      have f0 := (hbel.cell (by exact hg0)).trans (Tr.np_cell (unhide HNP) k hkg)
      have hog := ((unhide HNP).2 k hkg).2
      have hog2 := hog.below hbel hog.lt
      have hgne : gs.getD k 0 < w.heap.size := hog.lt
      have hbad := hide (fun h => Tr.inOrder_none (Tr.stk_bad hst.out h) (by omega))
      have hgood := hide (Tr.stk_good hst.out)
      have HLV := hide (Tr.links_view hog2)
      have hll := Tr.links_length (l.getD k Nd.zero)
      rw [hll] at hbad hgood
      have hkl := Tr.kids_le (l.getD k Nd.zero).op
      clear hog hog2 hll hkg
      generalize Tr.links (l.getD k Nd.zero) = ls at hbad hgood HLV
      generalize gs.getD k 0 = gk' at f0 hgne HLV
      generalize Tr.kids (l.getD k Nd.zero).op = ks at f0 hbad hgood HLV hkl
      have hls := (unhide HLV).1
      obtain ⟨s, hs⟩ : ∃ s, s = st.length := ⟨_, rfl⟩
      rw [← hs] at hsl hbad hgood
      by_cases hr : s < ks
      · have fin := hide ((unhide hbad) (fun h => by omega))
        have hrI : (s : Int) - (ks : Int) < 0 := by omega
        obtain ⟨_, ⟨rfl, hz⟩ | ⟨g3, cap3, cur, rfl, _, _, h3, h4, _⟩⟩ := hown
        · have hs0 : s = 0 := by omega
          subst hs0
          have hrI2 : -(ks : Int) < 0 := by omega
          have hrI3 : 0 - (ks : Int) < 0 := by omega
          have hrI4 : (0 : Int) < (ks : Int) := by omega
          clear hbad hgood hz hs
          go_wp2_with fail
          go_ret
          exact ⟨ret_bool (unhide fin).symm, hbel⟩
        · rw [← hs]
          clear hbad hgood hs h3 h4
          go_wp2_with fail
          go_ret
          exact ⟨ret_bool (unhide fin).symm, hbel⟩
      · obtain ⟨r, hrr⟩ : ∃ r, s = r + ks := ⟨s - ks, by omega⟩
        have e1 : s - ks = r := by omega
        rw [e1] at hbad hgood
        have hd : (decide (st.drop r = ls)) = true ∨ (decide (st.drop r = ls)) = false := by cases decide (st.drop r = ls) <;> simp
        obtain ⟨_, ⟨rfl, hz⟩ | ⟨g3, cap3, cur, rfl, hg3, hh3, h3, h4, h5, h6⟩⟩ := id hown
        · have hs0 : s = 0 := by omega
          have hst0 : st = [] := List.length_eq_zero_iff.1 hz
          have hr0 : r = 0 := by omega
          have hk0 : ks = 0 := by omega
          subst hs0 hst0 hr0 hk0
          have hle : ls = [] := List.length_eq_zero_iff.1 (by omega)
          subst hle
          have HE := hide (fun c wq => equalInts_any none (some ⟨gk', 0, none⟩) 0 0 c [] [] wq ⟨rfl, .inl rfl⟩ ⟨rfl, .inl rfl⟩ (by omega) (by omega) (by omega))
          have HG := hide ((unhide hgood) ⟨by omega, rfl⟩)
          clear hbad hgood hz hs e1 hrr hd hr hls HLV
          have hnilI : Hid (∀ W : World, W.ownsRow w.heap.size 2 1 (.slice none 0 0) 0 []) := fun W => World.ownsRow_nil _ _ _ _
          go_wp2_with fail
          refine ((unhide HE) _ _).mono ?_
          rintro e w2 ⟨rfl, hb2⟩
          have B2 : Below w.heap.size w w2 := hbel.trans (hb2.mono hbel.size)
          have hone := hide (Tr.one_word w2 (k : Int))
          have honep := hide (Tr.one_plain (k : Int))
          have hb63 : 0 + 1 ≤ maxLen := by unfold maxLen; omega
          have hby : (0 + 1) * 8 ≤ 140737488355328 := by omega
          have hbase : w.heap.size ≤ w2.heap.size + 1 := by have := B2.size; omega
          clear hown
          go_wp2_with (at_builtin; refine wpList_append_own_at _ rfl (.tmp 31) (.tmp 33) 44 rfl w.heap.size 2 i0 (.int .i64 0) 1 8 Try.underlying44 hi hz0 hz1 hz2 rfl (by decide) _ 0 [] rfl (hnilI.out _) ⟨w2.heap.size, 0, none⟩ 1 1 [.int .i64 k] rfl rfl (unhide hone) (unhide honep) hb63 hby (by simpa using hbase) ?_)
          intro v' w3 ho3 hg3 _ _
          have B3 : Below w.heap.size w w3 := (B2.alloc B2.size _).grown hg3 (by simpa using hbase) (by intro q hq; simp [Value.ownBlock] at hq)
          have HO3 := hide ho3
          clear ho3 hg3
          go_wp2_with fail
          go_roundg (l.length - (k + 1))
          case rel => exact ⟨k + 1, [(k : Int)], rfl, by go_num, by omega, unhide HG, unhide HO3, B3⟩
          case measure => have := hg.out; omega
        · have hslen : st.length = s := hs.symm
          have hv1 := fun (a : Option Addr) (ha : a = some ⟨g3, r, none⟩ ∨ r = st.length) => Tr.loose_view hown r (by omega) a ha
          rw [hslen, show s - r = ks by omega] at hv1
          have HV1 := hide hv1
          have HTK := hide (fun (W : World) (hW : W.ownsRow w.heap.size 2 1 (.slice (some ⟨g3, 0, none⟩) st.length cap3) st.length (st.map (Value.int .i64))) => Tr.owns_take (r := r) hW (by omega))
          rw [hslen] at h3
          have HOWN := hide hown
          have hcr : r ≤ cap3 := by omega
          have hrsI : (r : Int) ≤ (s : Int) := by omega
          have hscI : (s : Int) ≤ (cap3 : Int) := by omega
          have hsub : (s : Int) - (ks : Int) = (r : Int) := by omega
          have hr0I : ¬ (r : Int) < 0 := by omega
          rw [hslen]
          have hcm : cap3 ≤ 9223372036854775807 := by unfold maxLen at h4; omega
          clear hv1 hown hr hh3 h4 h5 h6 e1
          have HS := hide hs
          have HSR := hide (show s - r = ks by omega)
          have hksr : r + ks = s := by omega
          have hs200 : s ≤ 1000 := by omega
          have hrs : r ≤ s := by omega
          have hksl : ks ≤ 3 := hkl
          have HKR := hide hksr
          clear hrr hs hslen hksr hls
          by_cases hcc : cap3 = r
          · have hrs2 := hide (show r = s by omega)
            have hks0 : ks = 0 := by have := unhide HKR; omega
            subst hks0
            subst cap3
            have hrs3 : r = s := unhide hrs2
            subst hrs3
            go_wp2_with fail
            try rw [unhide HSR]
            refine (equalInts_any _ _ 0 _ 3 (st.drop r) ls _ ((unhide HV1) _ (Or.inr (by first | trivial | rfl))) (unhide HLV) (by omega) (by omega) (by omega)).mono ?_
            rintro e w2 ⟨rfl, hb2⟩
            have B2 : Below w.heap.size w w2 := hbel.trans (hb2.mono hbel.size)
            have htk := (unhide HTK) w2 (Tr.owns_below (unhide HOWN) hb2)
            cases hd : decide (st.drop r = ls) with
            | false =>
              have fin := hide ((unhide hbad) (fun h => of_decide_eq_false hd h.2))
              go_wp2_with fail
              go_ret
              exact ⟨ret_bool (unhide fin).symm, B2⟩
            | true =>
              have HG := hide ((unhide hgood) ⟨by omega, of_decide_eq_true hd⟩)
              have hbse := hide (Tr.owns_base htk)
              have hown' := hide (fun o => htk.alloc o)
              have hone := hide (Tr.one_word w2 (k : Int))
              have honep := hide (Tr.one_plain (k : Int))
              have hb63 : r + 1 ≤ maxLen := by unfold maxLen; omega
              have hby : (r + 1) * 8 ≤ 140737488355328 := by omega
              have hbase : w.heap.size ≤ w2.heap.size + 1 := by have := B2.size; omega
              have hfin : Hid ((st.map (Value.int .i64)).take r ++ [.int .i64 (k : Int)] = (st.take r ++ [(k : Int)]).map (Value.int .i64) ∧ (st.take r ++ [(k : Int)]).length = r + 1) := by
                have := unhide HS
                refine ⟨by rw [List.map_append, List.map_take]; rfl, by rw [List.length_append, List.length_take, List.length_singleton]; omega⟩
              clear htk hd hbad hgood
              go_wp2_with (at_builtin; refine wpList_append_own_at _ rfl (.tmp 31) (.tmp 33) 44 rfl w.heap.size 2 i0 (.int .i64 0) 1 8 Try.underlying44 hi hz0 hz1 hz2 rfl (by decide) _ r _ rfl ((unhide hown') _) ⟨w2.heap.size, 0, none⟩ 1 1 [.int .i64 k] rfl rfl (unhide hone) (unhide honep) hb63 hby (by simpa using hbase) ?_)
              intro v' w3 ho3 hg3 _ _
              have B3 : Below w.heap.size w w3 := (B2.alloc B2.size _).grown hg3 (by simpa using hbase) (unhide hbse)
              rw [hfin.out.1, ← hfin.out.2] at ho3
              have HO3 := hide ho3
              clear ho3 hg3
              go_wp2_with fail
              go_roundg (l.length - (k + 1))
              case rel => exact ⟨k + 1, _, rfl, by go_num, by omega, unhide HG, unhide HO3, B3⟩
              case measure => have := hg.out; omega
          · have hcc2 : ¬ r = cap3 := fun h => hcc h.symm
            go_wp2_with fail
            rw [unhide HSR]
            refine (equalInts_any _ _ ks _ 3 (st.drop r) ls _ ((unhide HV1) _ (.inl rfl)) (unhide HLV) (by omega) (by omega) (by omega)).mono ?_
            rintro e w2 ⟨rfl, hb2⟩
            have B2 : Below w.heap.size w w2 := hbel.trans (hb2.mono hbel.size)
            have htk := (unhide HTK) w2 (Tr.owns_below (unhide HOWN) hb2)
            cases hd : decide (st.drop r = ls) with
            | false =>
              have fin := hide ((unhide hbad) (fun h => of_decide_eq_false hd h.2))
              go_wp2_with fail
              go_ret
              exact ⟨ret_bool (unhide fin).symm, B2⟩
            | true =>
              have HG := hide ((unhide hgood) ⟨by omega, of_decide_eq_true hd⟩)
              have hbse := hide (Tr.owns_base htk)
              have hown' := hide (fun o => htk.alloc o)
              have hone := hide (Tr.one_word w2 (k : Int))
              have honep := hide (Tr.one_plain (k : Int))
              have hb63 : r + 1 ≤ maxLen := by unfold maxLen; omega
              have hby : (r + 1) * 8 ≤ 140737488355328 := by omega
              have hbase : w.heap.size ≤ w2.heap.size + 1 := by have := B2.size; omega
              have hfin : Hid ((st.map (Value.int .i64)).take r ++ [.int .i64 (k : Int)] = (st.take r ++ [(k : Int)]).map (Value.int .i64) ∧ (st.take r ++ [(k : Int)]).length = r + 1) := by
                have := unhide HS
                refine ⟨by rw [List.map_append, List.map_take]; rfl, by rw [List.length_append, List.length_take, List.length_singleton]; omega⟩
              clear htk hd hbad hgood
              go_wp2_with (at_builtin; refine wpList_append_own_at _ rfl (.tmp 31) (.tmp 33) 44 rfl w.heap.size 2 i0 (.int .i64 0) 1 8 Try.underlying44 hi hz0 hz1 hz2 rfl (by decide) _ r _ rfl ((unhide hown') _) ⟨w2.heap.size, 0, none⟩ 1 1 [.int .i64 k] rfl rfl (unhide hone) (unhide honep) hb63 hby (by simpa using hbase) ?_)
              intro v' w3 ho3 hg3 _ _
              have B3 : Below w.heap.size w w3 := (B2.alloc B2.size _).grown hg3 (by simpa using hbase) (unhide hbse)
              rw [hfin.out.1, ← hfin.out.2] at ho3
              have HO3 := hide ho3
              clear ho3 hg3
              go_wp2_with fail
              go_roundg (l.length - (k + 1))
              case rel => exact ⟨k + 1, _, rfl, by go_num, by omega, unhide HG, unhide HO3, B3⟩
              case measure => have := hg.out; omega
    · have hke : k = l.length := by omega
      subst hke
      have fin := hide (Tr.inOrder_end hst.out)
      obtain ⟨_, ⟨rfl, hz⟩ | ⟨g3, cap3, cur, rfl, _, _, h3, h4, _⟩⟩ := hown
      · have hst0 : st = [] := List.length_eq_zero_iff.1 hz
        subst hst0
        clear hz hsl
        go_wp2_with fail
        go_ret
        exact ⟨ret_bool (unhide fin).symm, hbel⟩
      · have hsz : st.length ≤ 1000 := by omega
        by_cases h1 : st.length = 1
        · rw [h1] at fin ⊢
          clear h1
          go_wp2_with fail
          go_ret
          exact ⟨ret_bool (unhide fin).symm, hbel⟩
        · have g1 : ((st.length : Int) == 1) = false := by simp; omega
          have g2 : (st.length == 1) = false := by simpa using h1
          rw [g2] at fin
          clear h1
          go_wp2_with fail
          go_ret
          exact ⟨ret_bool (by first | exact (unhide fin).symm | (rw [unhide fin]; simpa using g1)), hbel⟩
theorem standInOrder_any (B g cap : Nat) (gs : List Nat) (l : List Nd) (w : World) (hnp : Tr.NP w B (.slice (some ⟨g, 0, none⟩) l.length cap) l gs) (hgl : gs.length = l.length) (hcap : l.length ≤ cap) (hg0 : g < w.heap.size) (h200 : l.length ≤ 200) (h0 : 0 < l.length) :
    Calls Try.prog 45 #[.slice (some ⟨g, 0, none⟩) l.length cap] w fun e w' => e = .returned (.bool (Tr.inOrder l)) ∧ Below w.heap.size w w' := standInOrder_big B g cap gs l w hnp hgl hcap hg0 (by omega) h0


end Go.Proofs.Ytodpmonbfecfdaa
