/-
  The model's small questions of a node: l1In, l5Kids, l5Texts, l5Nums, l5Kid, l5TextFits.
  impl.standInOrder and impl.depthOfLast, over what the nodes name.
-/
import Derived.Test.YtgjbibkppofjfaaDoorTreO
import Derived.Test.YtgjbibkppofjfaaDoorText
namespace Go.Proofs.YtgjbibkppofjfaaDoor
open Go.RowKit
set_option linter.unusedVariables false
set_option linter.unusedSimpArgs false

theorem l1In_tr (a lo hi : Int) (w : World) : Calls Tryd.prog 27 #[.int .i64 a, .int .i64 lo, .int .i64 hi] w fun e w' => e = .returned (.bool (decide (lo ≤ a) && decide (a ≤ hi))) ∧ w' = w := by
  by_cases h1 : lo ≤ a
  · by_cases h2 : a ≤ hi
    · go_enter Tryd.func27, Tryd.ntmps27
      go_wp2
      go_ret
      exact ⟨ret_bool (by first | simp [h1, h2] | (simp; omega)), rfl⟩
    · go_enter Tryd.func27, Tryd.ntmps27
      go_wp2
      go_ret
      exact ⟨ret_bool (by first | simp [h1, h2] | (simp; omega)), rfl⟩
  · go_enter Tryd.func27, Tryd.ntmps27
    go_wp2
    go_ret
    exact ⟨ret_bool (by simp; omega), rfl⟩

namespace Tr
def kidAt (n : Nd) (k : Nat) : Int := if k = 0 then n.a else if k = 1 then n.b else n.c
theorem links_all {n : Nd} {ks i : Nat} (h : ∀ j, j < 3 → one (decide (j < ks)) (kidAt n j) i = true) : linksOk ks n.a n.b n.c i = true := by
  unfold linksOk
  have h0 := h 0 (by omega)
  have h1 := h 1 (by omega)
  have h2 := h 2 (by omega)
  simp only [kidAt] at h0 h1 h2
  simp only [Bool.and_eq_true]
  exact ⟨h0, h1, h2⟩
theorem links_bad {n : Nd} {ks i j : Nat} (hj : j < 3) (h : one (decide (j < ks)) (kidAt n j) i = false) : linksOk ks n.a n.b n.c i = false := by
  unfold linksOk
  have hh : j = 0 ∨ j = 1 ∨ j = 2 := by omega
  rcases hh with rfl | rfl | rfl
  · have h0 : one (decide (0 < ks)) n.a i = false := h
    rw [h0, Bool.false_and]
  · have h0 : one (decide (1 < ks)) n.b i = false := h
    rw [h0, Bool.false_and, Bool.and_false]
  · have h0 : one (decide (2 < ks)) n.c i = false := h
    rw [h0, Bool.and_false, Bool.and_false]
/-- The places that a node names are those of its first kids. -/
theorem links_kidAt (n : Nd) : links n = (List.range (kids n.op)).map (kidAt n) := by
  have hk := kids_le n.op
  unfold links
  match e : kids n.op, hk with
  | 0, _ => rfl
  | 1, _ => rfl
  | 2, _ => rfl
  | 3, _ => rfl
end Tr

end Go.Proofs.YtgjbibkppofjfaaDoor

namespace Go.Proofs.YtgjbibkppofjfaaDoor
open Go.RowKit
set_option linter.unusedVariables false

namespace Tr
theorem inOrder_none {l : List Nd} {k : Nat} (h : stk l k = none) (hk : k ≤ l.length) : inOrder l = false := by
  unfold inOrder; rw [stk_none_le h hk]
theorem inOrder_end {l : List Nd} {st : List Int} (h : stk l l.length = some st) : inOrder l = (st.length == 1) := by
  unfold inOrder; rw [h]
theorem stk_bad {l : List Nd} {k : Nat} {st : List Int} (h : stk l k = some st) (hb : ¬ ((links (l.getD k Nd.zero)).length ≤ st.length ∧ st.drop (st.length - (links (l.getD k Nd.zero)).length) = links (l.getD k Nd.zero))) : stk l (k + 1) = none := by
  rw [stk_step h, if_neg hb]
theorem stk_good {l : List Nd} {k : Nat} {st : List Int} (h : stk l k = some st) (hb : (links (l.getD k Nd.zero)).length ≤ st.length ∧ st.drop (st.length - (links (l.getD k Nd.zero)).length) = links (l.getD k Nd.zero)) : stk l (k + 1) = some (st.take (st.length - (links (l.getD k Nd.zero)).length) ++ [(k : Int)]) := by
  rw [stk_step h, if_pos hb]
theorem map_get (st : List Int) (j : Nat) (hj : j < st.length) : (st.map (Value.int .i64))[j]? = some (.int .i64 (st.getD j 0)) := by
  rw [List.getElem?_map, List.getElem?_eq_getElem hj, List.getD_eq_getElem?_getD, List.getElem?_eq_getElem hj]; rfl
theorem drop_getD (st : List Int) (r j : Nat) : (st.drop r).getD j 0 = st.getD (r + j) 0 := by
  rw [List.getD_eq_getElem?_getD, List.getElem?_drop, List.getD_eq_getElem?_getD]
theorem links_getD (n : Nd) (j : Nat) (hj : j < kids n.op) : (links n).getD j 0 = kidAt n j := by
  rw [links_kidAt, List.getD_eq_getElem?_getD, List.getElem?_map, List.getElem?_range hj]; rfl
theorem abc_get (n : Nd) (j : Nat) (hj : j < 3) : ([Value.int .i64 n.a, Value.int .i64 n.b, Value.int .i64 n.c] : List Value)[j]? = some (.int .i64 (kidAt n j)) := by
  have hh : j = 0 ∨ j = 1 ∨ j = 2 := by omega
  rcases hh with rfl | rfl | rfl <;> rfl
/-- What a node names, read off its row. -/
theorem links_view {w : World} {g : Nat} {n : Nd} (ho : Own w g 2 [.int .i64 n.a, .int .i64 n.b, .int .i64 n.c]) : IV w (some ⟨g, 0, none⟩) (kids n.op) (links n) := by
  refine ⟨links_length n, .inr ⟨g, 0, rfl, fun j hj => ?_⟩⟩
  have := kids_le n.op
  rw [Nat.zero_add, ho.cell, abc_get n j (by omega), links_getD n j hj]
/-- The upper part of the places that are not named yet. -/
theorem loose_view {w : World} {base g cap : Nat} {st : List Int} (h : w.ownsRow base 2 1 (.slice (some ⟨g, 0, none⟩) st.length cap) st.length (st.map (Value.int .i64))) (r : Nat) (hr : r ≤ st.length) (a : Option Addr) (ha : a = some ⟨g, r, none⟩ ∨ r = st.length) : IV w a (st.length - r) (st.drop r) := by
  refine ⟨by simp, ?_⟩
  by_cases e : r = st.length
  · left; omega
  · right
    have ha' : a = some ⟨g, r, none⟩ := by rcases ha with h | h; exact h; exact absurd h e
    refine ⟨g, r, ha', fun j hj => ?_⟩
    rw [owns_cell h (r + j) (by omega), map_get st (r + j) (by omega), drop_getD]
theorem np_cell {w : World} {B g cap m : Nat} {l : List Nd} {gs : List Nat} (h : NP w B (.slice (some ⟨g, 0, none⟩) m cap) l gs) (k : Nat) (hk : k < gs.length) : w.cell? ⟨g, k, none⟩ = some (.slice (some ⟨gs.getD k 0, 0, none⟩) (kids (l.getD k Nd.zero).op) 3) := by
  rw [owns_cell h.1 k hk, npL_get l gs k hk]; rfl
/-- Where there are nodes, the rows lie somewhere. -/
theorem NP.some {w : World} {B : Nat} {v : Value} {l : List Nd} {gs : List Nat} (h : NP w B v l gs) (h0 : 0 < gs.length) : ∃ g cap, v = .slice (some ⟨g, 0, none⟩) gs.length cap ∧ gs.length ≤ cap ∧ g < w.heap.size := by
  obtain ⟨⟨_, ⟨_, h2⟩ | ⟨g, cap, cur, h3, h4, h5, h6, _⟩⟩, _⟩ := h
  · omega
  · exact ⟨g, cap, h3, h6, (Array.getElem?_eq_some_iff.1 h5).1⟩
end Tr

end Go.Proofs.YtgjbibkppofjfaaDoor
