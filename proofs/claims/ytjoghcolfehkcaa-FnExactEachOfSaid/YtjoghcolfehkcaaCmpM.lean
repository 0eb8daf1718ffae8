/-
  The plain order of values: by kinds, numbers, texts, lists of parts, lists of keys. No word of the program is used here.
-/
import Derived.Test.YtjoghcolfehkcaaPartsB
namespace Go.Proofs.Ytjoghcolfehkcaa
open Go.RowKit

def lex {α : Type} (cmp : α → α → Int) : List α → List α → Int
  | [], [] => 0
  | [], _ :: _ => -1
  | _ :: _, [] => 1
  | x :: xs, y :: ys => if cmp x y ≠ 0 then cmp x y else lex cmp xs ys

theorem lex_hit {α : Type} (cmp : α → α → Int) (d : α) (A B : List α) (i : Nat) (h : ∀ j, j < i → cmp (A.getD j d) (B.getD j d) = 0) (hA : i < A.length) (hB : i < B.length) (hne : cmp (A.getD i d) (B.getD i d) ≠ 0) :
    lex cmp A B = cmp (A.getD i d) (B.getD i d) := by
  induction A generalizing B i with
  | nil => simp at hA
  | cons x xs ih =>
    cases B with
    | nil => simp at hB
    | cons y ys =>
      cases i with
      | zero => simp only [List.getD_cons_zero] at hne ⊢; rw [lex, if_pos hne]
      | succ i =>
        have h0 := h 0 (by omega)
        simp only [List.getD_cons_zero] at h0
        rw [lex, if_neg (by simp [h0])]
        simp only [List.getD_cons_succ] at hne ⊢
        exact ih ys i (fun j hj => by have := h (j + 1) (by omega); simpa only [List.getD_cons_succ] using this) (by simpa using hA) (by simpa using hB) hne

def lenSign (a b : Nat) : Int := if a < b then -1 else if b < a then 1 else 0
theorem lex_end {α : Type} (cmp : α → α → Int) (d : α) (A B : List α) (i : Nat) (h : ∀ j, j < i → cmp (A.getD j d) (B.getD j d) = 0) (hi : A.length ≤ i ∨ B.length ≤ i) :
    lex cmp A B = lenSign A.length B.length := by
  induction A generalizing B i with
  | nil => cases B with
    | nil => rfl
    | cons y ys => simp [lex, lenSign]
  | cons x xs ih =>
    cases B with
    | nil => simp [lex, lenSign]
    | cons y ys =>
      cases i with
      | zero => simp at hi
      | succ i =>
        have h0 := h 0 (by omega)
        simp only [List.getD_cons_zero] at h0
        rw [lex, if_neg (by simp [h0]), ih ys i (fun j hj => by have := h (j + 1) (by omega); simpa only [List.getD_cons_succ] using this) (by simpa using hi)]
        unfold lenSign
        simp

def sgn (a b : Int) : Int := if a < b then -1 else if b < a then 1 else 0
/-- Two texts, byte by byte. -/
def cmpK (a b : ByteArray) : Int := if Op.bytesLess a.toList b.toList = true then -1 else if (a.toList == b.toList) = true then 0 else 1

def cmpL : Nat → List M.Cl → List M.Cl → Int
  | 0, _, _ => 0
  | f + 1, P, Q =>
    if (P.getD 0 M.zero).kind ≠ (Q.getD 0 M.zero).kind then (if (P.getD 0 M.zero).kind < (Q.getD 0 M.zero).kind then -1 else 1)
    else if (P.getD 0 M.zero).kind = 3 then sgn (P.getD 0 M.zero).num (Q.getD 0 M.zero).num
    else if (P.getD 0 M.zero).kind = 4 then cmpK (P.getD 0 M.zero).text (Q.getD 0 M.zero).text
    else if (P.getD 0 M.zero).kind = 5 then lex (cmpL f) (subs P 0) (subs Q 0)
    else if (P.getD 0 M.zero).kind = 6 then (if lex cmpK (keysAt P 0) (keysAt Q 0) ≠ 0 then lex cmpK (keysAt P 0) (keysAt Q 0) else lex (cmpL f) (subs P 0) (subs Q 0))
    else 0

theorem bytesLess_irrefl (l : List UInt8) : Op.bytesLess l l = false := by
  induction l with
  | nil => rfl
  | cons a r ih => simp [Op.bytesLess, ih]

/-- The parts of a value without a fault are values without a fault, shorter than it. -/
theorem subs_ok {v : List M.Cl} (hv : M.valueFault v = 0) (hok : ∀ c ∈ v, c.ok) {a : Nat} (ha : a < v.length) : ∀ p ∈ subs v a, M.valueFault p = 0 ∧ p.length < v.length - a ∧ (∀ c ∈ p, c.ok) := by
  intro p hp
  simp only [subs, List.mem_map, M.places, List.mem_range] at hp
  obtain ⟨q, ⟨j, hj, rfl⟩, rfl⟩ := hp
  have hin := (M.places_in hv a ha).1 j hj
  have hg := (end_gt hv ha).2
  have hlt : M.iter v j (a + 1) < v.length := by omega
  have hg2 := end_gt hv hlt
  have hl := part_len hv hlt
  refine ⟨part_valid hv hlt, by omega, ?_⟩
  intro c hc
  obtain ⟨i, hi, rfl⟩ : ∃ i, i < (part v (M.iter v j (a + 1))).length ∧ (part v (M.iter v j (a + 1))).getD i M.zero = c := by
    obtain ⟨i, hi, he⟩ := List.getElem_of_mem hc
    exact ⟨i, hi, by rw [List.getD_eq_getElem?_getD, List.getElem?_eq_getElem hi]; exact he⟩
  by_cases h0 : i = 0
  · subst h0
    rw [part_zero hv hlt]
    have := hok _ (getD_mem v _ hlt)
    exact ⟨this.1, this.2.1, this.2.2.1, this.2.2.2.1, by show (0 : Nat) ≤ _; omega⟩
  · rw [part_getD i (by omega) (by omega)]
    exact hok _ (getD_mem v _ (by omega))

theorem subs_length (v : List M.Cl) (a : Nat) : (subs v a).length = M.arity v a := by simp [subs, M.places]
theorem keysAt_length (v : List M.Cl) (a : Nat) : (keysAt v a).length = M.arity v a := by simp [keysAt, M.places]

end Go.Proofs.Ytjoghcolfehkcaa
