/-
  How many cells lists of cells have together, and what the readers of such lists are told.
  An array of values: what both ArrayValue answer, as a plain function of the lists.
  spec.ArrayValue.
-/
import Derived.Test.YthbiclpifeobkaaQ00
import Derived.Test.YthbiclpifeobkaaQ08
import Derived.Test.YthbiclpifeobkaaQ14
import Derived.Test.YthbiclpifeobkaaQ15
namespace Go.Proofs.Ythbiclpifeobkaa
open Go.RowKit
set_option linter.unusedVariables false

/-- How many cells the first k lists have. -/
def tot (ps : List (List M.Cl)) (k : Nat) : Nat := ((ps.take k).map List.length).sum

theorem tot_zero (ps : List (List M.Cl)) : tot ps 0 = 0 := by simp [tot]

theorem tot_succ (ps : List (List M.Cl)) (k : Nat) (hk : k < ps.length) : tot ps (k + 1) = tot ps k + (ps.getD k []).length := by
  unfold tot
  rw [List.take_add_one, List.getElem?_eq_getElem hk, List.map_append, List.sum_append, List.getD_eq_getElem?_getD, List.getElem?_eq_getElem hk]
  simp

theorem tot_le (ps : List (List M.Cl)) (n k : Nat) (h : k ≤ n) (hn : n ≤ ps.length) : tot ps k ≤ tot ps n := by
  induction n with
  | zero => rw [show k = 0 from by omega]; exact Nat.le_refl _
  | succ n ih =>
    by_cases e : k = n + 1
    · rw [e]; exact Nat.le_refl _
    · have := ih (by omega) (by omega)
      rw [tot_succ ps n (by omega)]
      omega

end Go.Proofs.Ythbiclpifeobkaa

namespace Go.Proofs.Ythbiclpifeobkaa
open Go.RowKit
set_option linter.unusedVariables false

theorem fault_len {v : List M.Cl} (h : M.valueFault v = 0) : 1 ≤ v.length ∧ v.length ≤ 200 := ⟨(M.fault_zero h).1, (M.fault_zero h).2.1⟩
def headCl (kind : Int) (n : Nat) : M.Cl := ⟨kind, 0, ByteArray.empty, ByteArray.empty, n⟩
def arrK (ps : List (List M.Cl)) (k : Nat) : List M.Cl := headCl 5 ps.length :: (ps.take k).flatten
def arrV (ps : List (List M.Cl)) : List M.Cl := arrK ps ps.length
theorem arrK_succ (ps : List (List M.Cl)) (k : Nat) (hk : k < ps.length) : arrK ps (k + 1) = arrK ps k ++ ps.getD k [] := by
  unfold arrK
  have e : (ps.take (k + 1)).flatten = (ps.take k).flatten ++ ps.getD k [] := by
    rw [List.take_add_one, List.getElem?_eq_getElem hk, List.getD_eq_getElem?_getD, List.getElem?_eq_getElem hk, List.flatten_append]
    simp only [Option.toList_some, Option.getD_some, List.flatten_cons, List.flatten_nil, List.append_nil]
  rw [e, List.cons_append]
theorem arrK_length (ps : List (List M.Cl)) (k : Nat) : (arrK ps k).length = tot ps k + 1 := by
  unfold arrK tot
  rw [List.length_cons, List.length_flatten]
theorem tot_small (ps : List (List M.Cl)) (k : Nat) (hk : k ≤ ps.length) (h : ∀ j, j < k → (ps.getD j []).length ≤ 200) : tot ps k ≤ 200 * k := by
  induction k with
  | zero => rw [tot_zero]; omega
  | succ k ih =>
    have := ih (by omega) (fun j hj => h j (by omega))
    have := h k (by omega)
    rw [tot_succ ps k (by omega)]
    omega

def told (l : List M.Cl) : Int × List M.Cl := if M.valueFault l = 0 then (0, l) else (M.valueFault l, [])
/-- The cells of lists that are right to be laid are so. -/
def OkS (ps : List (List M.Cl)) : Prop := ∀ i, i < ps.length → ∀ c ∈ ps.getD i [], c.ok
theorem arrK_ok (ps : List (List M.Cl)) (hn : ps.length ≤ 4096) (h : OkS ps) (k : Nat) (hk : k ≤ ps.length) : ∀ c ∈ arrK ps k, c.ok := by
  induction k with
  | zero =>
    intro c hc
    simp only [arrK, List.take_zero, List.flatten_nil, List.mem_cons, List.not_mem_nil, or_false] at hc
    subst hc
    unfold M.Cl.ok headCl
    refine ⟨?_, ?_, ?_, ?_, ?_⟩ <;> simp <;> omega
  | succ k ih =>
    rw [arrK_succ ps k (by omega)]
    intro c hc
    rcases List.mem_append.1 hc with hc | hc
    · exact ih (by omega) c hc
    · exact h k (by omega) c hc

/-- A row of one cell, laid by a literal. -/
theorem one_own (w : World) (B b : Nat) (c : M.Cl) (hb : b = w.heap.size) (hB : B ≤ w.heap.size) : (w.alloc (.cells #[.int .i64 c.kind, .int .i64 c.num, .string c.text, .string c.key, .int .i64 c.n] 44)).ownsRow B 44 5 (.slice (some ⟨b, 0, none⟩) 1 1) 1 (flat [c]) := by
  subst hb
  exact ⟨rfl, .inr ⟨w.heap.size, 1, _, rfl, hB, heap_alloc_new _ _, Nat.le_refl _, by simp [maxLen], rfl, rfl⟩⟩

theorem res_any {w : World} {B : Nat} {s : Value} {l : List M.Cl} (h : Res w B s l) (hl : l ≠ []) : ∃ b cap, s = .slice (some ⟨b, 0, none⟩) l.length cap ∧ l.length ≤ cap ∧ OwnG w b 44 l := by
  obtain ⟨_, ⟨_, rfl⟩ | ⟨b, cap, h1, _, h3, h4⟩⟩ := h
  · exact absurd rfl hl
  · exact ⟨b, cap, h1, h3, h4⟩
end Go.Proofs.Ythbiclpifeobkaa

namespace Go.Proofs.Ythbiclpifeobkaa
open Go.RowKit
set_option linter.unusedVariables false

end Go.Proofs.Ythbiclpifeobkaa
