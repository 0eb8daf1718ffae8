/-
  Rows of numbers and of lists of numbers in memory of the call's own: what a tree's nodes name, laid out.
-/
import Derived.Test.YtkjmnkbiflkpdaaTreN
import Derived.Test.YtkjmnkbiflkpdaaTreA
import Derived.Deep.LoopGhost
import Derived.Deep.QuietTactic
import Derived.BigQuiet
import Derived.Maps.AppendAt
namespace Go.Proofs.Ytkjmnkbiflkpdaa
open Go.RowKit
set_option linter.unusedVariables false

namespace Tr
theorem owns_below {w w' : World} {base : Nat} {e : TypeId} {size : Nat} {v : Value} {n : Nat} {xs : List Value} (h : w.ownsRow base e size v n xs) (hb : Below w.heap.size w w') : w'.ownsRow base e size v n xs := by
  obtain ⟨h1, h2 | ⟨g, cap, cur, h3, h4, h5, h6⟩⟩ := h
  · exact ⟨h1, .inl h2⟩
  · exact ⟨h1, .inr ⟨g, cap, cur, h3, h4, (hb.block g (Array.getElem?_eq_some_iff.1 h5).1).trans h5, h6⟩⟩
theorem owns_base {w : World} {base : Nat} {e : TypeId} {size : Nat} {v : Value} {n : Nat} {xs : List Value} (h : w.ownsRow base e size v n xs) : ∀ k, v.ownBlock = some k → base ≤ k := by
  obtain ⟨_, ⟨rfl, _⟩ | ⟨g, cap, cur, rfl, hg, _⟩⟩ := h
  · intro k hk; simp [Value.ownBlock] at hk
  · intro k hk; simp only [Value.ownBlock, Option.some.injEq] at hk; omega
theorem owns_mono {w : World} {base base' : Nat} {e : TypeId} {size : Nat} {v : Value} {n : Nat} {xs : List Value} (h : w.ownsRow base e size v n xs) (hb : base' ≤ base) : w.ownsRow base' e size v n xs := by
  obtain ⟨h1, h2 | ⟨g, cap, cur, h3, h4, h5, h6⟩⟩ := h
  · exact ⟨h1, .inl h2⟩
  · exact ⟨h1, .inr ⟨g, cap, cur, h3, by omega, h5, h6⟩⟩
theorem grown_own {w w' : World} {row : Option Nat} (hg : w.grownBy w' row) {b : Nat} {t : TypeId} {ys : List Value} (ho : Own w b t ys) (hne : row ≠ some b) : Own w' b t ys := by
  obtain ⟨c, hc, e⟩ := ho
  exact ⟨c, (hg.block b (Array.getElem?_eq_some_iff.1 hc).1 (fun h => hne h.symm)).trans hc, e⟩
/-- A row of one type is no row of another. -/
theorem owns_ne {w : World} {base : Nat} {e t : TypeId} {size : Nat} {v : Value} {n b : Nat} {xs ys : List Value} (h : w.ownsRow base e size v n xs) (ho : Own w b t ys) (hne : e ≠ t) : v.ownBlock ≠ some b := by
  obtain ⟨_, ⟨rfl, _⟩ | ⟨g, cap, cur, rfl, hg, hh, _⟩⟩ := h
  · simp [Value.ownBlock]
  · obtain ⟨c, hc, _⟩ := ho
    simp only [Value.ownBlock, ne_eq, Option.some.injEq]
    rintro rfl
    rw [hh] at hc
    simp only [Option.some.injEq, Obj.cells.injEq] at hc
    exact hne hc.2.1
/-- The cell of an owned row of one-cell elements. -/
theorem owns_cell {w : World} {base g cap n m : Nat} {e : TypeId} {xs : List Value} (h : w.ownsRow base e 1 (.slice (some ⟨g, 0, none⟩) n cap) m xs) (j : Nat) (hj : j < m) : w.cell? ⟨g, j, none⟩ = xs[j]? := by
  obtain ⟨h1, ⟨h2, _⟩ | ⟨g', cap', cur, h3, h4, h5, h6, h7, h8, h9⟩⟩ := h
  · cases h2
  · simp only [Value.slice.injEq, Option.some.injEq, Addr.mk.injEq, and_true] at h3
    obtain ⟨rfl, rfl, rfl⟩ := h3
    rw [cell_of_row w g j cur e (0, 0) h5, ← h9, List.getElem?_take, if_pos (by omega)]
    simp
/-- A slice up to a place is a row of the call's own, too. -/
theorem owns_take {w : World} {base g cap n r : Nat} {e : TypeId} {xs : List Value} (h : w.ownsRow base e 1 (.slice (some ⟨g, 0, none⟩) n cap) n xs) (hr : r ≤ n) : w.ownsRow base e 1 (.slice (some ⟨g, 0, none⟩) r cap) r (xs.take r) := by
  obtain ⟨h1, ⟨h2, _⟩ | ⟨g', cap', cur, h3, h4, h5, h6, h7, h8, h9⟩⟩ := h
  · cases h2
  · simp only [Value.slice.injEq, Option.some.injEq, Addr.mk.injEq, and_true] at h3
    obtain ⟨rfl, _, rfl⟩ := h3
    refine ⟨by rw [List.length_take]; omega, .inr ⟨g, cap, cur, rfl, h4, h5, by omega, h7, h8, ?_⟩⟩
    rw [← h9, List.take_take]; congr 1; omega
theorem one_word (w : World) (x : Int) : ∀ j u, ([Value.int .i64 x] : List Value)[j]? = some u → (w.alloc (.cells #[.int .i64 x] 2)).cell? ((⟨w.heap.size, 0, none⟩ : Addr).add j) = some u := by
  intro j u hu
  match j, hu with
  | 0, hu =>
    simp only [List.getElem?_cons_zero, Option.some.injEq] at hu
    subst hu
    have a0 : (⟨w.heap.size, 0, none⟩ : Addr).add 0 = ⟨w.heap.size, 0, none⟩ := by simp [Addr.add]
    rw [a0]
    exact World.cell?_alloc_mark w #[.int .i64 x] 2 (0, 0) 0
theorem one_plain (x : Int) : ∀ u ∈ ([Value.int .i64 x] : List Value), u.oneCell' = true := by
  intro u hu; simp only [List.mem_cons, List.not_mem_nil, or_false] at hu; subst hu; rfl
theorem one_slice (w : World) (a : Option Addr) (n c : Nat) : ∀ j u, ([Value.slice a n c] : List Value)[j]? = some u → (w.alloc (.cells #[.slice a n c] 32)).cell? ((⟨w.heap.size, 0, none⟩ : Addr).add j) = some u := by
  intro j u hu
  match j, hu with
  | 0, hu =>
    simp only [List.getElem?_cons_zero, Option.some.injEq] at hu
    subst hu
    have a0 : (⟨w.heap.size, 0, none⟩ : Addr).add 0 = ⟨w.heap.size, 0, none⟩ := by simp [Addr.add]
    rw [a0]
    exact World.cell?_alloc_mark w #[.slice a n c] 32 (0, 0) 0
theorem one_slice_plain (a : Option Addr) (n c : Nat) : ∀ u ∈ ([Value.slice a n c] : List Value), u.oneCell' = true := by
  intro u hu; simp only [List.mem_cons, List.not_mem_nil, or_false] at hu; subst hu; rfl
theorem infoI : (Try.prog.info? 2).map (fun i => (i.zero, i.size, i.bytes)) = some (some (.int .i64 0), 1, 8) := by kernel_rfl
theorem infoS : (Try.prog.info? 32).map (fun i => (i.zero, i.size, i.bytes)) = some (some (.slice none 0 0), 1, 24) := by kernel_rfl

def npV (n : Nd) (g : Nat) : Value := .slice (some ⟨g, 0, none⟩) (kids n.op) 3
def npL (l : List Nd) (gs : List Nat) : List Value := (List.range gs.length).map fun j => npV (l.getD j Nd.zero) (gs.getD j 0)
theorem npL_length (l : List Nd) (gs : List Nat) : (npL l gs).length = gs.length := by simp [npL]
theorem npL_get (l : List Nd) (gs : List Nat) (j : Nat) (hj : j < gs.length) : (npL l gs)[j]? = some (npV (l.getD j Nd.zero) (gs.getD j 0)) := by
  unfold npL; rw [List.getElem?_map, List.getElem?_range hj]; rfl
theorem getD_snoc_lt {α : Type} (gs : List α) (g d : α) (j : Nat) (hj : j < gs.length) : (gs ++ [g]).getD j d = gs.getD j d := by
  rw [List.getD_eq_getElem?_getD, List.getElem?_append_left hj, List.getD_eq_getElem?_getD]
theorem getD_snoc_eq {α : Type} (gs : List α) (g d : α) : (gs ++ [g]).getD gs.length d = g := by
  rw [List.getD_eq_getElem?_getD, List.getElem?_append_right (Nat.le_refl _)]; simp
theorem npL_snoc (l : List Nd) (gs : List Nat) (g : Nat) : npL l (gs ++ [g]) = npL l gs ++ [npV (l.getD gs.length Nd.zero) g] := by
  unfold npL
  rw [List.length_append, List.length_cons, List.length_nil, Nat.zero_add, List.range_succ, List.map_append]
  congr 1
  · refine List.map_congr_left fun j hj => ?_
    rw [getD_snoc_lt gs g 0 j (List.mem_range.1 hj)]
  · simp only [List.map_cons, List.map_nil]
    rw [getD_snoc_eq]
/-- What each of the first nodes names lies in a row of its own, and these rows one behind the other. -/
def NP (w : World) (B : Nat) (v : Value) (l : List Nd) (gs : List Nat) : Prop :=
  w.ownsRow B 32 1 v gs.length (npL l gs) ∧ ∀ j, j < gs.length → B ≤ gs.getD j 0 ∧ Own w (gs.getD j 0) 2 [.int .i64 (l.getD j Nd.zero).a, .int .i64 (l.getD j Nd.zero).b, .int .i64 (l.getD j Nd.zero).c]
theorem NP.below {w w' : World} {B : Nat} {v : Value} {l : List Nd} {gs : List Nat} (h : NP w B v l gs) (hb : Below w.heap.size w w') : NP w' B v l gs :=
  ⟨owns_below h.1 hb, fun j hj => ⟨(h.2 j hj).1, (h.2 j hj).2.below hb (h.2 j hj).2.lt⟩⟩
theorem NP.nil (w : World) (B : Nat) (l : List Nd) : NP w B (.slice none 0 0) l [] := ⟨World.ownsRow_nil _ _ _ _, fun j hj => by simp at hj⟩
theorem NP.snoc {w w' : World} {B g : Nat} {v v' : Value} {l : List Nd} {gs : List Nat} (h : NP w B v l gs) (hB : B ≤ g) (ho : Own w g 2 [.int .i64 (l.getD gs.length Nd.zero).a, .int .i64 (l.getD gs.length Nd.zero).b, .int .i64 (l.getD gs.length Nd.zero).c])
    (hg : w.grownBy w' v.ownBlock) (hv : w'.ownsRow B 32 1 v' (gs.length + 1) (npL l gs ++ [npV (l.getD gs.length Nd.zero) g])) : NP w' B v' l (gs ++ [g]) := by
  refine ⟨?_, fun j hj => ?_⟩
  · rw [npL_snoc, List.length_append]; exact hv
  · rw [List.length_append] at hj
    simp only [List.length_cons, List.length_nil] at hj
    by_cases e : j < gs.length
    · rw [getD_snoc_lt gs g 0 j e]
      exact ⟨(h.2 j e).1, grown_own hg (h.2 j e).2 (owns_ne h.1 (h.2 j e).2 (by decide))⟩
    · obtain rfl : j = gs.length := by omega
      rw [getD_snoc_eq]
      exact ⟨hB, grown_own hg ho (owns_ne h.1 ho (by decide))⟩
/-- A list of numbers that is read. -/
def IV (w : World) (a : Option Addr) (n : Nat) (xs : List Int) : Prop := xs.length = n ∧ (n = 0 ∨ ∃ b o, a = some ⟨b, o, none⟩ ∧ ∀ j, j < n → w.cell? ⟨b, o + j, none⟩ = some (.int .i64 (xs.getD j 0)))
theorem list_same {xs ys : List Int} (hl : xs.length = ys.length) (h : ∀ j, j < xs.length → xs.getD j 0 = ys.getD j 0) : xs = ys := by
  refine List.ext_getElem hl fun j h1 h2 => ?_
  have := h j h1
  rw [List.getD_eq_getElem?_getD, List.getElem?_eq_getElem h1, List.getD_eq_getElem?_getD, List.getElem?_eq_getElem h2] at this
  exact this
theorem list_other {xs ys : List Int} {j : Nat} (h : xs.getD j 0 ≠ ys.getD j 0) : xs ≠ ys := fun e => h (by rw [e])
end Tr

theorem field_links (a b c : Int) (fv : Value) (w : World) : (Instr.field 93 (.agg #[.int .i64 a, .int .i64 b, .int .i64 c, fv]) 0).run Try.prog w = .ok (.int .i64 a) w := by kernel_rfl

set_option maxRecDepth 100000 in
set_option maxHeartbeats 1000000 in
theorem equalInts_any (a a' : Option Addr) (n c c' : Nat) (xs ys : List Int) (w : World) (hx : Tr.IV w a n xs) (hy : Tr.IV w a' n ys) (hn : n ≤ 1000) (hc : n ≤ c) (hc' : n ≤ c') :
    Calls Try.prog 62 #[.slice a n c, .slice a' n c'] w fun e w' => e = .returned (.bool (decide (xs = ys))) ∧ Below w.heap.size w w' := by
  obtain ⟨lx, hx⟩ := hx
  obtain ⟨ly, hy⟩ := hy
  have hsame := hide (fun h => Tr.list_same (xs := xs) (ys := ys) (by omega) h)
  have hoth := hide (fun j h => Tr.list_other (xs := xs) (ys := ys) (j := j) h)
  have LX := hide lx
  clear lx ly
  by_cases h0 : n = 0
  · subst h0
    have fin := hide ((unhide hsame) (fun j hj => absurd hj (by have := unhide LX; omega)))
    go_enter Try.func62, Try.ntmps62
    go_wp2_with fail
    refine wp_loop_rounds 1 ?_
    rw [rounds_succ]
    go_wp2_with fail
    go_ret
    exact ⟨ret_bool (decide_eq_true (unhide fin)).symm, Below.refl _ _⟩
  · obtain ⟨b, o, rfl, hcx⟩ : ∃ b o, a = some ⟨b, o, none⟩ ∧ ∀ j, j < n → w.cell? ⟨b, o + j, none⟩ = some (.int .i64 (xs.getD j 0)) := by rcases hx with h | h; exact absurd h h0; exact h
    obtain ⟨b', o', rfl, hcy⟩ : ∃ b o, a' = some ⟨b, o, none⟩ ∧ ∀ j, j < n → w.cell? ⟨b, o + j, none⟩ = some (.int .i64 (ys.getD j 0)) := by rcases hy with h | h; exact absurd h h0; exact h
    have hblt : b < w.heap.size := block_lt_of_cell ((hcx 0 (by omega)).trans rfl)
    have hblt' : b' < w.heap.size := block_lt_of_cell ((hcy 0 (by omega)).trans rfl)
    have HX := hide hcx
    have HY := hide hcy
    clear hcx hcy hx hy h0
    go_enter Try.func62, Try.ntmps62
    go_wp2_with fail
    go_loopg [13] n (fun gh s13 wr => ∃ k : Nat, Hid (gh = n - k) ∧ s13 = .int .i64 k ∧ k ≤ n ∧ Hid (∀ j, j < k → xs.getD j 0 = ys.getD j 0) ∧ Below w.heap.size w wr)
    case atStart => exact ⟨0, rfl, rfl, by omega, fun j hj => absurd hj (by omega), Below.refl _ _⟩
    case round =>
      obtain ⟨k, hg, rfl, hk, hall, hbel⟩ := hrel
      by_cases hlt : k < n
      · have f1 := (hbel.cell (by exact hblt)).trans ((unhide HX) k hlt)
        have f2 := (hbel.cell (by exact hblt')).trans ((unhide HY) k hlt)
        have hno := hide ((unhide hoth) k)
        have hnext : Hid (xs.getD k 0 = ys.getD k 0 → ∀ j, j < k + 1 → xs.getD j 0 = ys.getD j 0) := fun h j hj => by
          by_cases e : j = k
          · subst e; exact h
          · exact hall.out j (by omega)
        generalize xs.getD k 0 = x at f1 hno hnext
        generalize ys.getD k 0 = y at f2 hno hnext
        have hltI : (k : Int) < (n : Int) := by omega
        clear hlt
        by_cases hxy : x = y
        · have hn2 := hide (hnext.out hxy)
          have g1 : (x != y) = false := by simp [hxy]
          clear hxy hnext hno
          go_wp2_with fail
          go_quiet (fail)
          go_wp2_with fail
          go_roundg (n - (k + 1))
          case rel => exact ⟨k + 1, rfl, by go_num, by omega, unhide hn2, below_drewN hbel _⟩
          case measure => have := hg.out; omega
        · have fin := hide ((unhide hno) hxy)
          have g1 : (x != y) = true := by simpa using hxy
          clear hxy hnext hno
          go_wp2_with fail
          go_quiet (fail)
          go_wp2_with fail
          go_ret
          exact ⟨ret_bool (decide_eq_false (unhide fin)).symm, below_drewN hbel _⟩
      · have hke : k = n := by omega
        have fin := hide ((unhide hsame) (fun j hj => hall.out j (by have := unhide LX; omega)))
        clear hke
        go_wp2_with fail
        go_ret
        exact ⟨ret_bool (decide_eq_true (unhide fin)).symm, hbel⟩

end Go.Proofs.Ytkjmnkbiflkpdaa
