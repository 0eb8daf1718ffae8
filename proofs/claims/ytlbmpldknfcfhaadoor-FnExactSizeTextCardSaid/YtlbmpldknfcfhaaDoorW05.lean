/-
  The words of a list of cells, one behind the other: how a row that was grown by append holds them.
  impl.appendPart lays a copy of a part behind a row of the call's own and gives its first cell a key.
-/
import Derived.Test.YtlbmpldknfcfhaaDoorW04
namespace Go.Proofs.YtlbmpldknfcfhaaDoor
open Go.RowKit
set_option linter.unusedVariables false

def flat (l : List M.Cl) : List Value := l.flatMap M.Cl.vals
def setKey (l : List M.Cl) (k : ByteArray) : List M.Cl := match l with | [] => [] | c :: r => { c with key := k } :: r

theorem flat_cons (c : M.Cl) (l : List M.Cl) : flat (c :: l) = c.vals ++ flat l := rfl
theorem flat_append (a b : List M.Cl) : flat (a ++ b) = flat a ++ flat b := by simp [flat]
theorem flat_length (l : List M.Cl) : (flat l).length = l.length * 5 := by
  induction l with
  | nil => rfl
  | cons c l ih => rw [flat_cons, List.length_append, ih]; simp [M.Cl.vals]; omega

theorem flat_get (l : List M.Cl) (i j : Nat) (hi : i < l.length) (hj : j < 5) : (flat l)[i * 5 + j]? = ((l.getD i M.zero).vals)[j]? := by
  induction l generalizing i with
  | nil => simp at hi
  | cons c l ih =>
    rw [flat_cons]
    have hl : c.vals.length = 5 := rfl
    cases i with
    | zero => rw [List.getElem?_append_left (by omega)]; simp
    | succ i =>
      rw [List.getElem?_append_right (by omega), show (i + 1) * 5 + j - c.vals.length = i * 5 + j from by omega, List.getD_cons_succ]
      exact ih i (by simpa using hi)

theorem row_words {w : World} {b off : Nat} {l : List M.Cl} (h : Row w b off l) : ∀ j u, (flat l)[j]? = some u → w.cell? ((⟨b, off, none⟩ : Addr).add j) = some u := by
  intro j u hu
  have hj : j < l.length * 5 := by
    have := (List.getElem?_eq_some_iff.1 hu).1
    rwa [flat_length] at this
  have hd : j = (j / 5) * 5 + j % 5 := by omega
  have hi : j / 5 < l.length := by omega
  have hm : j % 5 < 5 := by omega
  rw [hd, flat_get l (j / 5) (j % 5) hi hm] at hu
  have ha : (⟨b, off, none⟩ : Addr).add j = ⟨b, off + j, none⟩ := by simp [Addr.add]
  rw [ha]
  obtain ⟨c0, c1, c2, c3, c4⟩ := h (j / 5) hi
  have e : off + j = off + j / 5 * 5 + j % 5 := by omega
  rw [e]
  generalize j % 5 = r at *
  match r, hm with
  | 0, _ => simp only [M.Cl.vals, List.getElem?_cons_zero, Option.some.injEq] at hu; subst hu; exact c0
  | 1, _ => simp only [M.Cl.vals, List.getElem?_cons_zero, List.getElem?_cons_succ, Option.some.injEq] at hu; subst hu; exact c1
  | 2, _ => simp only [M.Cl.vals, List.getElem?_cons_zero, List.getElem?_cons_succ, Option.some.injEq] at hu; subst hu; exact c2
  | 3, _ => simp only [M.Cl.vals, List.getElem?_cons_zero, List.getElem?_cons_succ, Option.some.injEq] at hu; subst hu; exact c3
  | 4, _ => simp only [M.Cl.vals, List.getElem?_cons_zero, List.getElem?_cons_succ, Option.some.injEq] at hu; subst hu; exact c4

theorem flat_one (l : List M.Cl) : ∀ u ∈ flat l, u.oneCell' = true := by
  intro u hu
  simp only [flat, List.mem_flatMap] at hu
  obtain ⟨c, _, hc⟩ := hu
  simp only [M.Cl.vals, List.mem_cons, List.not_mem_nil, or_false] at hc
  rcases hc with rfl | rfl | rfl | rfl | rfl <;> rfl

/-- An owned row of cells is an answer's row. -/
theorem res_of_owns {w : World} {B : Nat} {v : Value} {l : List M.Cl} (h : w.ownsRow B 44 5 v l.length (flat l)) (hn : l.length ≤ 1048576) : Res w B v l := by
  obtain ⟨h1, ⟨rfl, h2⟩ | ⟨g, cap, cur, rfl, hg, hh, hnc, hcm, hcs, ht⟩⟩ := h
  · exact ⟨hn, .inl ⟨rfl, List.length_eq_zero_iff.1 h2⟩⟩
  · refine ⟨hn, .inr ⟨g, cap, rfl, hg, hnc, ⟨cur.toList, ⟨cur, hh, rfl⟩, ?_, ?_⟩⟩⟩
    · simp only [Array.length_toList]; rw [hcs]; exact Nat.mul_le_mul_right 5 hnc
    · intro i hi
      have key : ∀ j, j < 5 → cur.toList[i * 5 + j]? = ((l.getD i M.zero).vals)[j]? := by
        intro j hj
        rw [← flat_get l i j hi hj, ← ht, List.getElem?_take, if_pos (by omega)]
      exact ⟨key 0 (by omega), key 1 (by omega), key 2 (by omega), key 3 (by omega), key 4 (by omega)⟩

/-- The first cell of what was laid behind l gets a key. -/
theorem flat_setKey (l p : List M.Cl) (k : ByteArray) (hp : p ≠ []) : (flat (l ++ p)).set (l.length * 5 + 3) (.string k) = flat (l ++ setKey p k) := by
  cases p with
  | nil => exact absurd rfl hp
  | cons c r =>
    rw [flat_append, flat_append, List.set_append_right _ _ (by rw [flat_length]; omega), flat_length]
    rw [show l.length * 5 + 3 - l.length * 5 = 3 from by omega]
    simp only [setKey, flat_cons]
    rfl
theorem setKey_length (p : List M.Cl) (k : ByteArray) : (setKey p k).length = p.length := by cases p <;> rfl

end Go.Proofs.YtlbmpldknfcfhaaDoor

namespace Go.Proofs.YtlbmpldknfcfhaaDoor
open Go.RowKit
set_option linter.unusedVariables false

end Go.Proofs.YtlbmpldknfcfhaaDoor
