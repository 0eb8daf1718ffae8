/-
  Lists of Nodes: plain, and in memory one behind the other. No word of the program is used here.
-/
import Derived.Test.YtkjmnkbiflkpdaaMem
namespace Go.Proofs.Ytkjmnkbiflkpdaa
open Go.RowKit
set_option linter.unusedVariables false

/-- A Node, by its fields. -/
structure Nd where
  op : Int
  a : Int
  b : Int
  c : Int
  num : Int
  text : ByteArray

namespace Nd
def zero : Nd := ⟨0, 0, 0, 0, 0, ByteArray.empty⟩
/-- What each field must be to lie in memory. -/
def ok (c : Nd) : Prop := (-9223372036854775808 ≤ c.op ∧ c.op ≤ 9223372036854775807) ∧ (-9223372036854775808 ≤ c.a ∧ c.a ≤ 9223372036854775807) ∧ (-9223372036854775808 ≤ c.b ∧ c.b ≤ 9223372036854775807) ∧ (-9223372036854775808 ≤ c.c ∧ c.c ≤ 9223372036854775807) ∧ (-9223372036854775808 ≤ c.num ∧ c.num ≤ 9223372036854775807) ∧ c.text.size ≤ 9223372036854775807
def vals (c : Nd) : List Value := [.int .i64 c.op, .int .i64 c.a, .int .i64 c.b, .int .i64 c.c, .int .i64 c.num, .string c.text]
def agg (c : Nd) : Value := .agg #[.int .i64 c.op, .int .i64 c.a, .int .i64 c.b, .int .i64 c.c, .int .i64 c.num, .string c.text]
def At (w : World) (b o : Nat) (c : Nd) : Prop := w.cell? ⟨b, o, none⟩ = some (.int .i64 c.op) ∧ w.cell? ⟨b, o + 1, none⟩ = some (.int .i64 c.a) ∧ w.cell? ⟨b, o + 2, none⟩ = some (.int .i64 c.b) ∧ w.cell? ⟨b, o + 3, none⟩ = some (.int .i64 c.c) ∧ w.cell? ⟨b, o + 4, none⟩ = some (.int .i64 c.num) ∧ w.cell? ⟨b, o + 5, none⟩ = some (.string c.text)
def Row (w : World) (b off : Nat) (l : List Nd) : Prop := ∀ i, i < l.length → At w b (off + i * 6) (l.getD i zero)
theorem Row.below {B : Nat} {w w' : World} {b off : Nat} {l : List Nd} (h : Row w b off l) (hb : Below B w w') (hB : b < B) : Row w' b off l := by
  intro i hi
  obtain ⟨h0, h1, h2, h3, h4, h5⟩ := h i hi
  exact ⟨(hb.cell (by exact hB)).trans h0, (hb.cell (by exact hB)).trans h1, (hb.cell (by exact hB)).trans h2, (hb.cell (by exact hB)).trans h3, (hb.cell (by exact hB)).trans h4, (hb.cell (by exact hB)).trans h5⟩
/-- The values xs are the words of the first k of l, and as many others as are wanted for the rest. -/
def Words (xs : List Value) (l : List Nd) (k : Nat) : Prop :=
  xs.length = l.length * 6 ∧ ∀ i, i < k → xs[i * 6]? = some (.int .i64 (l.getD i zero).op) ∧ xs[i * 6 + 1]? = some (.int .i64 (l.getD i zero).a) ∧ xs[i * 6 + 2]? = some (.int .i64 (l.getD i zero).b) ∧ xs[i * 6 + 3]? = some (.int .i64 (l.getD i zero).c) ∧ xs[i * 6 + 4]? = some (.int .i64 (l.getD i zero).num) ∧ xs[i * 6 + 5]? = some (.string (l.getD i zero).text)
/-- A row of the call's own that holds the list. -/
def OwnRow (w : World) (b : Nat) (t : TypeId) (l : List Nd) : Prop := ∃ xs, Own w b t xs ∧ Words xs l l.length
theorem OwnRow.row {w : World} {b : Nat} {t : TypeId} {l : List Nd} (h : OwnRow w b t l) : Row w b 0 l := by
  obtain ⟨xs, ho, _, hw⟩ := h
  intro i hi
  obtain ⟨h0, h1, h2, h3, h4, h5⟩ := hw i hi
  unfold At
  simp only [Nat.zero_add]
  exact ⟨(ho.cell _).trans h0, (ho.cell _).trans h1, (ho.cell _).trans h2, (ho.cell _).trans h3, (ho.cell _).trans h4, (ho.cell _).trans h5⟩
theorem OwnRow.lt {w : World} {b : Nat} {t : TypeId} {l : List Nd} (h : OwnRow w b t l) : b < w.heap.size := by
  obtain ⟨xs, ho, _⟩ := h; exact ho.lt
theorem OwnRow.below {B : Nat} {w w' : World} {b : Nat} {t : TypeId} {l : List Nd} (h : OwnRow w b t l) (hb : Below B w w') (hB : b < B) : OwnRow w' b t l := by
  obtain ⟨xs, ho, hw⟩ := h; exact ⟨xs, ho.below hb hB, hw⟩
theorem set_get (xs : List Value) (k : Nat) (v0 v1 v2 v3 v4 v5 : Value) (hk : k * 6 + 5 < xs.length) :
    let ys := (((((xs.set (k * 6) v0).set (k * 6 + 1) v1).set (k * 6 + 2) v2).set (k * 6 + 3) v3).set (k * 6 + 4) v4).set (k * 6 + 5) v5
    ys[k * 6]? = some v0 ∧ ys[k * 6 + 1]? = some v1 ∧ ys[k * 6 + 2]? = some v2 ∧ ys[k * 6 + 3]? = some v3 ∧ ys[k * 6 + 4]? = some v4 ∧ ys[k * 6 + 5]? = some v5 ∧ ∀ j, j < k * 6 → ys[j]? = xs[j]? := by
  simp only [List.getElem?_set, List.length_set]
  refine ⟨?_, ?_, ?_, ?_, ?_, ?_, ?_⟩
  · rw [if_neg (by omega), if_neg (by omega), if_neg (by omega), if_neg (by omega), if_neg (by omega), if_pos trivial, if_pos (by omega)]
  · rw [if_neg (by omega), if_neg (by omega), if_neg (by omega), if_neg (by omega), if_pos trivial, if_pos (by omega)]
  · rw [if_neg (by omega), if_neg (by omega), if_neg (by omega), if_pos trivial, if_pos (by omega)]
  · rw [if_neg (by omega), if_neg (by omega), if_pos trivial, if_pos (by omega)]
  · rw [if_neg (by omega), if_pos trivial, if_pos (by omega)]
  · rw [if_pos trivial, if_pos (by omega)]
  · intro j hj
    rw [if_neg (by omega), if_neg (by omega), if_neg (by omega), if_neg (by omega), if_neg (by omega), if_neg (by omega)]
theorem Words.step {xs : List Value} {l : List Nd} {k : Nat} (h : Words xs l k) (hk : k < l.length) (c : Nd) (hc : c = l.getD k zero) :
    Words ((((((xs.set (k * 6) (.int .i64 c.op)).set (k * 6 + 1) (.int .i64 c.a)).set (k * 6 + 2) (.int .i64 c.b)).set (k * 6 + 3) (.int .i64 c.c)).set (k * 6 + 4) (.int .i64 c.num)).set (k * 6 + 5) (.string c.text)) l (k + 1) := by
  subst hc
  obtain ⟨hl, hw⟩ := h
  have g := set_get xs k (.int .i64 (l.getD k zero).op) (.int .i64 (l.getD k zero).a) (.int .i64 (l.getD k zero).b) (.int .i64 (l.getD k zero).c) (.int .i64 (l.getD k zero).num) (.string (l.getD k zero).text) (by omega)
  refine ⟨by simpa using hl, fun i hi => ?_⟩
  obtain ⟨g0, g1, g2, g3, g4, g5, o⟩ := g
  by_cases e : i = k
  · subst e; exact ⟨g0, g1, g2, g3, g4, g5⟩
  · obtain ⟨q0, q1, q2, q3, q4, q5⟩ := hw i (by omega)
    exact ⟨(o _ (by omega)).trans q0, (o _ (by omega)).trans q1, (o _ (by omega)).trans q2, (o _ (by omega)).trans q3, (o _ (by omega)).trans q4, (o _ (by omega)).trans q5⟩
/-- How much a list takes, as the laws reckon it. -/
def szAll : List Nd → Nat
  | [] => 0
  | c :: r => c.text.size + szAll r
theorem szAll_take (l : List Nd) (k : Nat) (hk : k < l.length) : szAll (l.take (k + 1)) = szAll (l.take k) + (l.getD k zero).text.size := by
  induction l generalizing k with
  | nil => simp at hk
  | cons c r ih =>
    cases k with
    | zero => simp [szAll]
    | succ k => simp only [List.take_succ_cons, szAll, List.getD_cons_succ]; rw [ih k (by simpa using hk)]; omega
theorem szAll_ge (l : List Nd) (i : Nat) (hi : i < l.length) : (l.getD i zero).text.size ≤ szAll l := by
  induction l generalizing i with
  | nil => simp at hi
  | cons c r ih =>
    cases i with
    | zero => simp [szAll]
    | succ i => have := ih i (by simpa using hi); simp only [szAll, List.getD_cons_succ]; omega
theorem getD_mem (l : List Nd) (k : Nat) (hk : k < l.length) : l.getD k zero ∈ l := by
  rw [List.getD_eq_getElem?_getD, List.getElem?_eq_getElem hk]; exact List.getElem_mem hk
end Nd

end Go.Proofs.Ytkjmnkbiflkpdaa
