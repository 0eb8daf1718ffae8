/-
  How many cells lists of cells have together, and what the readers of such lists are told.
-/
import Derived.Test.YtjoghcolfehkcaaMem
namespace Go.Proofs.Ytjoghcolfehkcaa
open Go.RowKit
set_option linter.unusedVariables false

/-- How many cells the first k lists have. -/
def tot (ps : List (List M.Cl)) (k : Nat) : Nat := ((ps.take k).map List.length).sum

theorem tot_zero (ps : List (List M.Cl)) : tot ps 0 = 0 := by simp [tot]

theorem tot_succ (ps : List (List M.Cl)) (k : Nat) (hk : k < ps.length) : tot ps (k + 1) = tot ps k + (ps.getD k []).length := by
  unfold tot
  rw [List.take_add_one, List.getElem?_eq_getElem hk, List.map_append, List.sum_append, List.getD_eq_getElem?_getD, List.getElem?_eq_getElem hk]
  simp

theorem tot_le (ps : List (List M.Cl)) (n k : Nat) (h : k ≤ n) (hn : n ≤ ps.length) : tot ps k ≤ tot ps n := by
  induction n with
  | zero => rw [show k = 0 from by omega]; exact Nat.le_refl _
  | succ n ih =>
    by_cases e : k = n + 1
    · rw [e]; exact Nat.le_refl _
    · have := ih (by omega) (by omega)
      rw [tot_succ ps n (by omega)]
      omega

theorem len_le (ps : List (List M.Cl)) (i : Nat) (hi : i < ps.length) : (ps.getD i []).length ≤ tot ps ps.length := by
  have h1 := tot_succ ps i hi
  have h2 := tot_le ps ps.length (i + 1) (by omega) (Nat.le_refl _)
  omega

/-- What the readers are told of it. -/
def LR (w : World) (g : Nat) (ps : List (List M.Cl)) : Prop :=
  g < w.heap.size ∧ ∀ i, i < ps.length → ∃ b, w.cell? ⟨g, i, none⟩ = some (.slice (some ⟨b, 0, none⟩) (ps.getD i []).length (ps.getD i []).length) ∧ b < w.heap.size ∧ Row w b 0 (ps.getD i [])

theorem LR.below {w w' : World} {g : Nat} {ps : List (List M.Cl)} (h : LR w g ps) (hb : Below w.heap.size w w') : LR w' g ps := by
  refine ⟨Nat.lt_of_lt_of_le h.1 hb.size, fun i hi => ?_⟩
  obtain ⟨b, h1, h2, h3⟩ := h.2 i hi
  exact ⟨b, (hb.cell h.1).trans h1, Nat.lt_of_lt_of_le h2 hb.size, h3.below hb h2⟩

end Go.Proofs.Ytjoghcolfehkcaa
