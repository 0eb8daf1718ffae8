/-
  Reading a value, plainly, step by step: what a round of a list does, what stands by then. No word of the program is used here.
  Rows of lists of cells and rows of texts: spec.l1Parts and spec.l1Keys.
  Lists of lists of cells and lists of texts, wherever their slices lie: what those are told that read them.
  Answers that tell a code and a value, and the small makers of them.
  What the getters tell, plainly, and what those are told that lay slices of slices by a literal.
  The faults of two values, one behind the other.
  impl.layArray and spec.l1Array of parts that are not asked for a fault, of no more cells than a text has bytes.
  impl.layObject of texts and lists that lie anywhere.
  Answers that tell a code, a place and cells.
-/
import Derived.Test.YtikeffckhklhbaaGreatDoorX09
import Derived.Test.YtikeffckhklhbaaGreatDoorX14
import Derived.Test.YtikeffckhklhbaaGreatDoorX16
import Derived.Test.YtikeffckhklhbaaGreatDoorX17
import Derived.Test.YtikeffckhklhbaaGreatDoorX19
import Derived.Test.YtikeffckhklhbaaGreatDoorX20
namespace Go.Proofs.YtikeffckhklhbaaGreatDoor
open Go.RowKit
set_option linter.unusedVariables false

/-- A part that bears no key. -/
def Bare (p : List M.Cl) : Prop := 1 ≤ p.length ∧ setKey p ByteArray.empty = p

namespace J
theorem skip_skip (s : ByteArray) (k : Nat) : skip s (skip s k) = skip s k := by
  generalize h : s.size - k = n
  induction n generalizing k with
  | zero =>
    have h1 : s.size ≤ k := by omega
    rw [skip_end s k h1, skip_end s k h1]
  | succ n ih =>
    have hlt : k < s.size := by omega
    cases hb : blank s[k] with
    | true => rw [skip_go s k hlt hb]; exact ih (k + 1) (by omega)
    | false => rw [skip_stop s k hlt hb, skip_stop s k hlt hb]
/-- Behind an element: the end, or the next one. -/
def tailR (rec : Nat → Rv) (s : ByteArray) (obj : Bool) (g i : Nat) (ks : List ByteArray) (ps : List (List M.Cl)) : Rv :=
  if peek s i = lastB obj then .inr (madeV obj ks ps, i + 1)
  else if peek s i = 44 then elemsR rec s obj g (skip s (i + 1)) ks ps
  else .inl (5, i)
theorem lastB_comma (obj : Bool) : (44 : Int) ≠ lastB obj := by cases obj <;> decide
theorem tail_last {rec : Nat → Rv} {s : ByteArray} {obj : Bool} {g i : Nat} {ks : List ByteArray} {ps : List (List M.Cl)} (h : peek s i = lastB obj) : tailR rec s obj g i ks ps = .inr (madeV obj ks ps, i + 1) := by unfold tailR; rw [if_pos h]
theorem tail_comma {rec : Nat → Rv} {s : ByteArray} {obj : Bool} {g i : Nat} {ks : List ByteArray} {ps : List (List M.Cl)} (h : peek s i = 44) : tailR rec s obj g i ks ps = elemsR rec s obj g (skip s (i + 1)) ks ps := by unfold tailR; rw [if_neg (by rw [h]; exact lastB_comma obj), if_pos h]
theorem tail_no {rec : Nat → Rv} {s : ByteArray} {obj : Bool} {g i : Nat} {ks : List ByteArray} {ps : List (List M.Cl)} (h : peek s i ≠ lastB obj) (h2 : peek s i ≠ 44) : tailR rec s obj g i ks ps = .inl (5, i) := by unfold tailR; rw [if_neg h, if_neg h2]
theorem elems_head_no {rec : Nat → Rv} {s : ByteArray} {obj : Bool} {g i : Nat} {ks : List ByteArray} {ps : List (List M.Cl)} {p : Int × Nat} (h : headR s obj i = .inl p) : elemsR rec s obj (g + 1) i ks ps = .inl p := by rw [elemsR, h]
theorem elems_rec_no {rec : Nat → Rv} {s : ByteArray} {obj : Bool} {g i j : Nat} {key ks : List ByteArray} {ps : List (List M.Cl)} {p : Int × Nat} (h : headR s obj i = .inr (key, j)) (h2 : rec j = .inl p) : elemsR rec s obj (g + 1) i ks ps = .inl p := by rw [elemsR, h]; simp only; rw [h2]
theorem elems_yes {rec : Nat → Rv} {s : ByteArray} {obj : Bool} {g i j e : Nat} {key ks : List ByteArray} {v : List M.Cl} {ps : List (List M.Cl)} (h : headR s obj i = .inr (key, j)) (h2 : rec j = .inr (v, e)) : elemsR rec s obj (g + 1) i ks ps = tailR rec s obj g (skip s e) (ks ++ key) (ps ++ [v]) := by rw [elemsR, h]; simp only; rw [h2]; rfl
theorem many_last {rec : Nat → Rv} {s : ByteArray} {obj : Bool} {i : Nat} (h : peek s i = lastB obj) : manyR rec s obj i = .inr (madeV obj [] [], i + 1) := by unfold manyR; rw [if_pos h]
theorem many_go {rec : Nat → Rv} {s : ByteArray} {obj : Bool} {i : Nat} (h : peek s i ≠ lastB obj) : manyR rec s obj i = elemsR rec s obj (s.size + 1) i [] [] := by unfold manyR; rw [if_neg h]

theorem made_bare (obj : Bool) (ks : List ByteArray) (ps : List (List M.Cl)) : Bare (madeV obj ks ps) := by
  unfold madeV
  cases obj with
  | false => exact ⟨by simp [arrV, arrK], rfl⟩
  | true => exact ⟨by simp [objV, objK], rfl⟩
theorem elems_made (rec : Nat → Rv) (s : ByteArray) (obj : Bool) (g : Nat) : ∀ i ks ps v e, elemsR rec s obj g i ks ps = .inr (v, e) → Bare v := by
  induction g with
  | zero => intro i ks ps v e h; rw [elemsR] at h; exact absurd h (by simp)
  | succ g ih =>
    intro i ks ps v e h
    cases hh : headR s obj i with
    | inl p => rw [elems_head_no hh] at h; exact absurd h (by simp)
    | inr p =>
      obtain ⟨key, j⟩ := p
      cases hr : rec j with
      | inl p => rw [elems_rec_no hh hr] at h; exact absurd h (by simp)
      | inr p =>
        obtain ⟨v', e'⟩ := p
        rw [elems_yes hh hr] at h
        by_cases h1 : peek s (skip s e') = lastB obj
        · rw [tail_last h1] at h
          simp only [Sum.inr.injEq, Prod.mk.injEq] at h
          rw [← h.1]; exact made_bare _ _ _
        · by_cases h2 : peek s (skip s e') = 44
          · rw [tail_comma h2] at h; exact ih _ _ _ _ _ h
          · rw [tail_no h1 h2] at h; exact absurd h (by simp)
theorem many_bare {rec : Nat → Rv} {s : ByteArray} {obj : Bool} {i : Nat} {v : List M.Cl} {e : Nat} (h : manyR rec s obj i = .inr (v, e)) : Bare v := by
  by_cases h1 : peek s i = lastB obj
  · rw [many_last h1] at h
    simp only [Sum.inr.injEq, Prod.mk.injEq] at h
    rw [← h.1]; exact made_bare _ _ _
  · rw [many_go h1] at h; exact elems_made _ _ _ _ _ _ _ _ _ h
theorem one_bare (s : ByteArray) (f d k : Nat) (v : List M.Cl) (e : Nat) (h : oneR f d s k = .inr (v, e)) : Bare v := by
  cases f with
  | zero => rw [oneR] at h; exact absurd h (by simp)
  | succ f =>
    have word : ∀ ws kind, wordV s k ws kind = .inr (v, e) → Bare v := by
      intro ws kind hw
      unfold wordV at hw
      split at hw
      · exact absurd hw (by simp)
      · simp only [Sum.inr.injEq, Prod.mk.injEq] at hw
        rw [← hw.1]; exact ⟨by simp, rfl⟩
    rw [oneR] at h
    split at h
    · exact absurd h (by simp)
    split at h
    · exact absurd h (by simp)
    split at h
    · exact word _ _ h
    split at h
    · exact word _ _ h
    split at h
    · exact word _ _ h
    split at h
    · exact many_bare h
    split at h
    · exact many_bare h
    split at h
    · unfold strV at h
      split at h
      · exact absurd h (by simp)
      · simp only [Sum.inr.injEq, Prod.mk.injEq] at h
        rw [← h.1]; exact ⟨by simp, rfl⟩
    · unfold numV at h
      split at h
      · exact absurd h (by simp)
      · simp only [Sum.inr.injEq, Prod.mk.injEq] at h
        rw [← h.1]; exact ⟨by simp, rfl⟩
/-- What stands when a list was read up to a place. -/
structure Pl (obj : Bool) (i : Nat) (ks : List ByteArray) (ps : List (List M.Cl)) : Prop where
  len : ps.length ≤ i
  tot : tot ps ps.length ≤ i
  bare : ∀ j, j < ps.length → Bare (ps.getD j [])
  keys : ks.length = if obj then ps.length else 0
theorem Pl.start (obj : Bool) (i : Nat) : Pl obj i [] [] := ⟨Nat.zero_le _, Nat.zero_le _, fun j hj => by simp at hj, by cases obj <;> rfl⟩
theorem Pl.mono {obj : Bool} {i i' : Nat} {ks : List ByteArray} {ps : List (List M.Cl)} (h : Pl obj i ks ps) (hi : i ≤ i') : Pl obj i' ks ps := ⟨Nat.le_trans h.len hi, Nat.le_trans h.tot hi, h.bare, h.keys⟩
theorem Pl.next {obj : Bool} {i : Nat} {ks key : List ByteArray} {ps : List (List M.Cl)} {s : ByteArray} {j e : Nat} {v : List M.Cl} (h : Pl obj i ks ps) (hi : i ≤ j) (hf : Fit s j (.inr (v, e))) (hb : Bare v) (hk : key.length = if obj then 1 else 0) : Pl obj (skip s e) (ks ++ key) (ps ++ [v]) := by
  obtain ⟨f1, f2, f3, f4⟩ := hf
  have h1 := h.len
  have h2 := h.tot
  have h3 := skip_ge s e
  have h4 := tot_snoc ps v
  refine ⟨by simp; omega, by omega, fun q hq => ?_, ?_⟩
  · rw [List.length_append] at hq
    simp only [List.length_cons, List.length_nil] at hq
    by_cases c : q < ps.length
    · rw [List.getD_eq_getElem?_getD, List.getElem?_append_left c, ← List.getD_eq_getElem?_getD]; exact h.bare q c
    · obtain rfl : q = ps.length := by omega
      rw [List.getD_eq_getElem?_getD, List.getElem?_append_right (Nat.le_refl _), Nat.sub_self]; exact hb
  · rw [List.length_append, hk, h.keys]
    cases obj <;> simp
theorem head_arr (s : ByteArray) (i : Nat) : headR s false i = .inr ([], i) := rfl
theorem head_obj_no {s : ByteArray} {i : Nat} {p : Int × Nat} (h : keyR s i = .inl p) : headR s true i = .inl p := by unfold headR; rw [if_pos rfl, h]
theorem head_obj {s : ByteArray} {i j : Nat} {key : ByteArray} (h : keyR s i = .inr (key, j)) : headR s true i = .inr ([key], skip s j) := by unfold headR; rw [if_pos rfl, h]
end J
end Go.Proofs.YtikeffckhklhbaaGreatDoor

namespace Go.Proofs.YtikeffckhklhbaaGreatDoor
open Go.RowKit
set_option linter.unusedVariables false

/-- The slice value v is a row of slices, each of which holds the cells of one of the lists ps. -/
def SS (w : World) (B : Nat) (v : Value) (ps : List (List M.Cl)) : Prop :=
  ∃ ss : List Value, ss.length = ps.length ∧ w.ownsRow B 24 1 v ps.length ss ∧ ∀ i, i < ps.length → Res w B (ss.getD i (.slice none 0 0)) (ps.getD i [])
/-- The slice value v is a row of the texts ks. -/
def KS (w : World) (B : Nat) (v : Value) (ks : List ByteArray) : Prop := w.ownsRow B 9 1 v ks.length (ks.map Value.string)

theorem SS.below {w w' : World} {B : Nat} {v : Value} {ps : List (List M.Cl)} (h : SS w B v ps) (hb : Below w.heap.size w w') : SS w' B v ps := by
  obtain ⟨ss, h1, h2, h3⟩ := h
  exact ⟨ss, h1, ownsRow_below (B := 0) h2 hb, fun i hi => (h3 i hi).below hb⟩
theorem KS.below {w w' : World} {B : Nat} {v : Value} {ks : List ByteArray} (h : KS w B v ks) (hb : Below w.heap.size w w') : KS w' B v ks := ownsRow_below (B := 0) h hb

/-- Rows of unlike elements are not one. -/
theorem other_block {w : World} {base : Nat} {e : TypeId} {size : Nat} {v : Value} {n : Nat} {xs : List Value} (h : w.ownsRow base e size v n xs) {b : Nat} {t : TypeId} {ys : List Value} (ho : Own w b t ys) (hne : e ≠ t) : v.ownBlock ≠ some b := by
  obtain ⟨_, ⟨rfl, _⟩ | ⟨g, cap, cur, rfl, hg, hh, _⟩⟩ := h
  · simp [Value.ownBlock]
  · intro hx
    simp only [Value.ownBlock, Option.some.injEq] at hx
    subst hx
    obtain ⟨c, hc, _⟩ := ho
    rw [hh] at hc
    simp only [Option.some.injEq, Obj.cells.injEq] at hc
    exact hne hc.2.1
theorem grown_own {w w' : World} {row : Option Nat} (hg : w.grownBy w' row) {b : Nat} {t : TypeId} {ys : List Value} (ho : Own w b t ys) (hne : row ≠ some b) : Own w' b t ys := by
  obtain ⟨c, hc, e⟩ := ho
  exact ⟨c, (hg.block b (Array.getElem?_eq_some_iff.1 hc).1 (fun h => hne h.symm)).trans hc, e⟩
theorem grown_res {w w' : World} {base : Nat} {e : TypeId} {size : Nat} {v : Value} {n : Nat} {xs : List Value} (h : w.ownsRow base e size v n xs) (hg : w.grownBy w' v.ownBlock) {B : Nat} {s : Value} {l : List M.Cl} (hr : Res w B s l) (hne : e ≠ 41) : Res w' B s l := by
  obtain ⟨hn, g | ⟨b, cap, h1, h2, h3, ⟨ys, h4, h5⟩⟩⟩ := hr
  · exact ⟨hn, .inl g⟩
  · exact ⟨hn, .inr ⟨b, cap, h1, h2, h3, ⟨ys, grown_own hg h4 (other_block h h4 hne), h5⟩⟩⟩

theorem one_val (w : World) (u : Value) (t : TypeId) : ∀ j x, ([u] : List Value)[j]? = some x → (w.alloc (.cells #[u] t)).cell? ((⟨w.heap.size, 0, none⟩ : Addr).add j) = some x := by
  intro j x hu
  match j, hu with
  | 0, hu =>
    simp only [List.getElem?_cons_zero, Option.some.injEq] at hu
    subst hu
    have a0 : (⟨w.heap.size, 0, none⟩ : Addr).add 0 = ⟨w.heap.size, 0, none⟩ := by simp [Addr.add]
    rw [a0]
    exact World.cell?_alloc_mark w #[u] t (0, 0) 0

theorem firstPl_getD (v : List M.Cl) (a k j : Nat) (hj : j < k) : (firstPl v a k).getD j 0 = (M.iter v j (a + 1) : Int) := by
  simp [firstPl, List.getD_eq_getElem?_getD, hj]

end Go.Proofs.YtikeffckhklhbaaGreatDoor

namespace Go.Proofs.YtikeffckhklhbaaGreatDoor
open Go.RowKit
set_option linter.unusedVariables false

/-- The slice from a on holds slices, the i-th of which holds the cells of the i-th list. -/
def LV (w : World) (a : Option Addr) (ps : List (List M.Cl)) : Prop :=
  ∀ i, i < ps.length → ∃ g b off c, a = some ⟨g, 0, none⟩ ∧ g < w.heap.size ∧ w.cell? ⟨g, i, none⟩ = some (.slice (some ⟨b, off, none⟩) (ps.getD i []).length c) ∧ (ps.getD i []).length ≤ c ∧ b < w.heap.size ∧ Row w b off (ps.getD i [])
theorem LV.below {w w' : World} {a : Option Addr} {ps : List (List M.Cl)} (h : LV w a ps) (hb : Below w.heap.size w w') : LV w' a ps := by
  intro i hi
  obtain ⟨g, b, off, c, rfl, h1, h2, h3, h4, h5⟩ := h i hi
  exact ⟨g, b, off, c, rfl, Nat.lt_of_lt_of_le h1 hb.size, (hb.cell h1).trans h2, h3, Nat.lt_of_lt_of_le h4 hb.size, h5.below hb h4⟩
/-- The slice from a on holds the texts. -/
def TV (w : World) (a : Option Addr) (ks : List ByteArray) : Prop := ∀ i, i < ks.length → ∃ g, a = some ⟨g, 0, none⟩ ∧ g < w.heap.size ∧ w.cell? ⟨g, i, none⟩ = some (.string (ks.getD i ByteArray.empty))
theorem row_at {w : World} {base g cap n : Nat} {e : TypeId} {cur : Array Value} {xs : List Value} {i : Nat} (hh : w.heap[g]? = some (.cells cur e (0, 0))) (ht : cur.toList.take (n * 1) = xs) (hi : i < n) : w.cell? ⟨g, i, none⟩ = xs[i]? := by
  rw [cell_of_row w g i cur e (0, 0) hh]
  have h3 : cur.toList[i]? = xs[i]? := by rw [← ht, List.getElem?_take, if_pos (by omega)]
  have h4 : cur[i]? = cur.toList[i]? := by simp
  rw [h4, h3]

theorem SS.lv {w : World} {B : Nat} {v : Value} {ps : List (List M.Cl)} (h : SS w B v ps) (hne : ∀ i, i < ps.length → ps.getD i [] ≠ []) : ∃ a c, v = .slice a ps.length c ∧ ps.length ≤ c ∧ LV w a ps := by
  obtain ⟨ss, hl, ho, hr⟩ := h
  obtain ⟨_, ⟨rfl, h0⟩ | ⟨g, cap, cur, rfl, hg, hh, hnc, hcm, hcs, ht⟩⟩ := ho
  · exact ⟨none, 0, by rw [h0], by omega, fun i hi => by omega⟩
  · refine ⟨_, cap, rfl, hnc, fun i hi => ?_⟩
    obtain ⟨b, c, e, hc, hO⟩ := res_any (hr i hi) (hne i hi)
    refine ⟨g, b, 0, c, rfl, (Array.getElem?_eq_some_iff.1 hh).1, ?_, hc, hO.lt, hO.row⟩
    rw [row_at (base := 0) (cap := 0) hh ht hi, List.getElem?_eq_getElem (by omega)]
    rw [List.getD_eq_getElem?_getD, List.getElem?_eq_getElem (by omega)] at e
    simp only [Option.getD_some] at e
    rw [e]
theorem KS.tv {w : World} {B : Nat} {v : Value} {ks : List ByteArray} (h : KS w B v ks) : ∃ a c, v = .slice a ks.length c ∧ ks.length ≤ c ∧ TV w a ks := by
  obtain ⟨_, ⟨rfl, h0⟩ | ⟨g, cap, cur, rfl, hg, hh, hnc, hcm, hcs, ht⟩⟩ := h
  · exact ⟨none, 0, by rw [h0], by omega, fun i hi => by omega⟩
  · refine ⟨_, cap, rfl, hnc, fun i hi => ⟨g, rfl, (Array.getElem?_eq_some_iff.1 hh).1, ?_⟩⟩
    rw [row_at (base := 0) (cap := 0) hh ht hi, List.getElem?_map, List.getElem?_eq_getElem hi, List.getD_eq_getElem?_getD, List.getElem?_eq_getElem hi]
    rfl

end Go.Proofs.YtikeffckhklhbaaGreatDoor

namespace Go.Proofs.YtikeffckhklhbaaGreatDoor
open Go.RowKit
set_option linter.unusedVariables false

theorem resNil (w : World) (B : Nat) : Res w B (.slice none 0 0) [] := ⟨by simp, .inl ⟨rfl, rfl⟩⟩
/-- A row of one cell, laid by a literal. -/
theorem one_cell (w : World) (B b : Nat) (c : M.Cl) (hb : b = w.heap.size) (hB : B ≤ w.heap.size) : Res (w.alloc (.cells #[.int .i64 c.kind, .int .i64 c.num, .string c.text, .string c.key, .int .i64 c.n] 41)) B (.slice (some ⟨b, 0, none⟩) 1 1) [c] := by
  subst hb
  refine ⟨by simp, .inr ⟨w.heap.size, 1, rfl, hB, by simp, ⟨_, ⟨_, heap_alloc_new _ _, rfl⟩, by simp, fun i hi => ?_⟩⟩⟩
  simp only [List.length_cons, List.length_nil] at hi
  obtain rfl : i = 0 := by omega
  exact ⟨rfl, rfl, rfl, rfl, rfl⟩

end Go.Proofs.YtikeffckhklhbaaGreatDoor

namespace Go.Proofs.YtikeffckhklhbaaGreatDoor
open Go.RowKit
set_option linter.unusedVariables false

theorem code_fields' {c : M.Cl} (h : M.cellCode c = 0) : (c.kind ≠ 3 → c.num = 0) ∧ (c.kind ≠ 4 → c.text.toList = []) ∧ (c.kind ≠ 5 → c.kind ≠ 6 → c.n = 0) := by
  unfold M.cellCode at h
  split at h
  · cases h
  split at h
  · cases h
  rename_i h1
  refine ⟨fun hk => ?_, fun hk => ?_, fun hk hk' => ?_⟩
  · by_cases e : c.num = 0
    · exact e
    · exact absurd (.inl ⟨e, hk⟩) h1
  · by_cases e : c.text.toList = []
    · exact e
    · exact absurd (.inr (.inl ⟨e, hk⟩)) h1
  · by_cases e : c.n = 0
    · exact e
    · exact absurd (.inr (.inr ⟨e, hk, hk'⟩)) h1
/-- An element of a row of slices. -/
theorem SS.at {w : World} {B : Nat} {v : Value} {ps : List (List M.Cl)} (h : SS w B v ps) {i : Nat} (hi : i < ps.length) : ∃ g cap s, v = .slice (some ⟨g, 0, none⟩) ps.length cap ∧ ps.length ≤ cap ∧ w.cell? ⟨g, i, none⟩ = some s ∧ Res w B s (ps.getD i []) := by
  obtain ⟨ss, hl, ho, hr⟩ := h
  obtain ⟨_, ⟨rfl, h0⟩ | ⟨g, cap, cur, rfl, hg, hh, hnc, hcm, hcs, ht⟩⟩ := ho
  · omega
  · refine ⟨g, cap, ss.getD i (.slice none 0 0), rfl, hnc, ?_, hr i hi⟩
    rw [row_at (base := 0) (cap := 0) hh ht hi, List.getElem?_eq_getElem (by omega), List.getD_eq_getElem?_getD, List.getElem?_eq_getElem (by omega)]
    rfl

end Go.Proofs.YtikeffckhklhbaaGreatDoor

namespace Go.Proofs.YtikeffckhklhbaaGreatDoor
open Go.RowKit
set_option linter.unusedVariables false

end Go.Proofs.YtikeffckhklhbaaGreatDoor

namespace Go.Proofs.YtikeffckhklhbaaGreatDoor
open Go.RowKit
set_option linter.unusedVariables false

set_option maxHeartbeats 1000000 in
theorem layArrayB_any (a : Option Addr) (cap : Nat) (ps : List (List M.Cl)) (w : World) (hL : LV w a ps) (hcap : ps.length ≤ cap) (hn : ps.length ≤ 4096) (ht : tot ps ps.length ≤ 8192) (hv : ∀ j, j < ps.length → Bare (ps.getD j [])) :
    Calls Tryz.prog 104 #[.slice a ps.length cap] w fun e w' => ∃ s, e = .returned s ∧ Res w' w.heap.size s (arrV ps) ∧ Below w.heap.size w w' := by
  have HL := hide hL
  have HV := hide hv
  clear hL hv
  go_enter Tryz.func104, Tryz.ntmps104
  go_wp2_with fail
  go_loopg [3, 12] ps.length (fun gh s3 s12 wr => ∃ k : Nat, Hid (gh = ps.length - k) ∧ s12 = .int .i64 k ∧ k ≤ ps.length ∧ wr.ownsRow w.heap.size 41 5 s3 (arrK ps k).length (flat (arrK ps k)) ∧ Below w.heap.size w wr)
  case atStart => exact ⟨0, rfl, rfl, by omega, one_own w w.heap.size _ (headCl 5 ps.length) rfl (Nat.le_refl _), (Below.refl _ _).alloc (Nat.le_refl _) _⟩
  case round =>
    obtain ⟨k, hg, rfl, hk, hown, hbel⟩ := hrel
    by_cases hlt : k < ps.length
    · obtain ⟨g, b, off, c, rfl, hgl, f0, hc, hb, hr⟩ := ((unhide HL).below hbel) k hlt
      have hpf := (unhide HV) k hlt
      have hp := hpf.1
      have hal := arrK_length ps k
      have hts := tot_part ps k hlt
      have hpn : ps.getD k [] ≠ [] := by intro e; rw [e] at hp; simp at hp
      have HAP := hide (appendPart_any w.heap.size u3 (arrK ps k) (ps.getD k []) b off c ByteArray.empty wr hown hr hpn (by omega) hbel.size)
      rw [hpf.2, ← arrK_succ ps k hlt] at HAP
      clear hown hr hpn hpf hal hts
      generalize ps.getD k [] = p at *
      go_wp2_with fail
      refine (unhide HAP).mono ?_
      rintro e2 w2 ⟨v', rfl, ho2, hb2⟩
      have B2 : Below w.heap.size w w2 := hbel.trans hb2
      have HO2 := hide ho2
      clear ho2 hb2 f0 HAP
      go_wp2_with fail
      go_roundg (ps.length - (k + 1))
      case rel => exact ⟨k + 1, rfl, by go_num, by omega, unhide HO2, B2⟩
      case measure => have := hg.out; omega
    · have hke : k = ps.length := by omega
      have hal := arrK_length ps k
      have hts := tot_le ps ps.length k hk (Nat.le_refl _)
      have fin := hide (show Res wr w.heap.size u3 (arrV ps) by unfold arrV; rw [← hke]; exact res_of_owns hown (by omega))
      clear hke hown hal hts
      go_wp2_with fail
      go_ret
      exact ⟨_, rfl, unhide fin, hbel⟩

end Go.Proofs.YtikeffckhklhbaaGreatDoor

namespace Go.Proofs.YtikeffckhklhbaaGreatDoor
open Go.RowKit
set_option linter.unusedVariables false

set_option maxHeartbeats 1000000 in
theorem standing_none (a : Option Addr) (kc : Nat) (w : World) :
    Calls Tryz.prog 117 #[.slice a 0 kc] w fun e w' => e = .returned (.slice none 0 0) ∧ Below w.heap.size w w' := by
  go_enter Tryz.func117, Tryz.ntmps117
  go_wp2_with fail
  refine wp_loop_rounds 1 ?_
  rw [rounds_succ]
  go_wp2_with fail
  refine (sortStable_none _ _).mono ?_
  rintro r w2 ⟨rfl, rfl⟩
  go_wp2_with fail
  refine wp_loop_rounds 1 ?_
  rw [rounds_succ]
  go_wp2_with fail
  go_ret
  exact ⟨rfl, (Below.refl _ _).alloc (Nat.le_refl _) _⟩
theorem objV_nil' : objV [] [] = [headCl 6 0] := rfl
set_option maxHeartbeats 1000000 in
theorem layObject_none (a a' : Option Addr) (kc lc : Nat) (w : World) :
    Calls Tryz.prog 105 #[.slice a 0 kc, .slice a' 0 lc] w fun e w' => ∃ s, e = .returned s ∧ Res w' w.heap.size s (objV [] []) ∧ Below w.heap.size w w' := by
  go_enter Tryz.func105, Tryz.ntmps105
  go_wp2_with fail
  refine (standing_none _ _ _).mono ?_
  rintro e1 w1 ⟨rfl, hb1⟩
  go_wp2_with fail
  refine wp_loop_rounds 1 ?_
  rw [rounds_succ]
  go_wp2_with fail
  go_ret
  refine ⟨_, rfl, ?_, ?_⟩
  · rw [objV_nil']; exact res_of_owns (one_own w1 w.heap.size _ (headCl 6 0) rfl hb1.size) (by simp)
  · exact hb1.alloc hb1.size _

end Go.Proofs.YtikeffckhklhbaaGreatDoor

namespace Go.Proofs.YtikeffckhklhbaaGreatDoor
open Go.RowKit
set_option linter.unusedVariables false
set_option linter.unusedSimpArgs false

/-- The call told the code, the place and the cells of out, these in memory of their own. -/
def AnsR (w : World) (out : Int × Int × List M.Cl) (e : Ending) (w' : World) : Prop := ∃ sv, e = .returned (.agg #[.int .i64 out.1, .int .i64 out.2.1, sv]) ∧ Res w' w.heap.size sv out.2.2 ∧ Below w.heap.size w w'
theorem ansr_of {w w' : World} {out : Int × Int × List M.Cl} {c p : Int} {sv : Value} {l : List M.Cl} (fin : out = (c, p, l)) (hr : Res w' w.heap.size sv l) (hb : Below w.heap.size w w') : AnsR w out (.returned (.agg #[.int .i64 c, .int .i64 p, sv])) w' := by
  subst fin; exact ⟨sv, rfl, hr, hb⟩
theorem sets3 {w w2 : World} (h : Below w.heap.size w w2) (x y z : Value) : Below w.heap.size w (((w2.setCell ⟨w.heap.size, 0, none⟩ x).setCell ⟨w.heap.size, 1, none⟩ y).setCell ⟨w.heap.size, 2, none⟩ z) := ((h.setCell (Nat.le_refl _) _).setCell (Nat.le_refl _) _).setCell (Nat.le_refl _) _
theorem Res.sets3 {w : World} {C b : Nat} {s : Value} {l : List M.Cl} (h : Res w C s l) (hb : b < C) (x0 x1 x2 : Value) : Res (((w.setCell ⟨b, 0, none⟩ x0).setCell ⟨b, 1, none⟩ x1).setCell ⟨b, 2, none⟩ x2) C s l := by
  have hp : ∀ p : Addr, p.block = b → ∀ c, s.ownBlock = some c → c ≠ p.block := fun p hp c hc e => by have := h.base c hc; omega
  exact ((h.setOther _ x0 (hp _ rfl)).setOther _ x1 (hp _ rfl)).setOther _ x2 (hp _ rfl)

end Go.Proofs.YtikeffckhklhbaaGreatDoor
