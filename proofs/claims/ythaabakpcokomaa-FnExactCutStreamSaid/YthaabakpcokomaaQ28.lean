/-
  impl.setSteps, impl.setMember and impl.setElement.
  impl.setElement.
-/
import Derived.Test.YthaabakpcokomaaQ19
import Derived.Test.YthaabakpcokomaaQ20
import Derived.Test.YthaabakpcokomaaQ21
import Derived.Test.YthaabakpcokomaaQ22
import Derived.Test.YthaabakpcokomaaQ23
import Derived.Test.YthaabakpcokomaaQ27
namespace Go.Proofs.Ythaabakpcokomaa
open Go.RowKit
set_option linter.unusedVariables false

end Go.Proofs.Ythaabakpcokomaa

namespace Go.Proofs.Ythaabakpcokomaa
open Go.RowKit
set_option linter.unusedVariables false
set_option linter.unusedSimpArgs false

theorem SS.put {w : World} {B g cap j : Nat} {ps : List (List M.Cl)} {s2 : Value} {x : List M.Cl} (h : SS w B (.slice (some ⟨g, 0, none⟩) ps.length cap) ps) (hj : j < ps.length) (hne : ∀ i, i < ps.length → ps.getD i [] ≠ []) (hr : Res w B s2 x) (hx : x ≠ []) : SS (w.setCell ⟨g, j, none⟩ s2) B (.slice (some ⟨g, 0, none⟩) ps.length cap) (ps.set j x) := by
  obtain ⟨ss, h1, h2, h3⟩ := h
  have far : ∀ (s : Value) (l : List M.Cl), Res w B s l → l ≠ [] → Res (w.setCell ⟨g, j, none⟩ s2) B s l := by
    intro s l hs hl
    refine hs.setOther _ _ (fun b hb e => ?_)
    obtain ⟨_, ⟨_, q2⟩ | ⟨c, cc, q3, q4, q5, ⟨xs, q6, _⟩⟩⟩ := hs
    · exact hl q2
    · rw [q3] at hb
      simp only [Value.ownBlock, Option.some.injEq] at hb
      have hcg : c = g := by rw [hb]; exact e
      obtain ⟨_, ⟨r2, _⟩ | ⟨g', cap', cur, r2, r4, r5, _⟩⟩ := h2
      · cases r2
      · simp only [Value.slice.injEq, Option.some.injEq, Addr.mk.injEq, and_true, true_and] at r2
        rw [← r2.1, ← hcg] at r5
        obtain ⟨c2, q7, _⟩ := q6
        rw [r5] at q7
        simp at q7
  refine ⟨ss.set j s2, by rw [List.length_set, List.length_set, h1], ?_, fun i hi => ?_⟩
  · rw [List.length_set]
    exact (h2.stored j s2).1
  · rw [List.length_set] at hi
    rw [List.getD_eq_getElem?_getD, List.getElem?_set, List.getD_eq_getElem?_getD, List.getElem?_set]
    by_cases e : j = i
    · rw [if_pos e, if_pos e, if_pos (by omega), if_pos (by omega)]
      exact far _ _ hr hx
    · rw [if_neg e, if_neg e, ← List.getD_eq_getElem?_getD, ← List.getD_eq_getElem?_getD]
      exact far _ _ (h3 i hi) (hne i hi)

end Go.Proofs.Ythaabakpcokomaa
