/-
  spec.l1KeyLists and spec.l1Lists: lists held against one another.
  spec.l1Lists and spec.l1Compare, by induction on the length of the first value.
  spec.l1Compare returns the plain order of values.
-/
import Derived.Test.YtlbmpldknfcfhaaDoorV15
import Derived.Test.YtlbmpldknfcfhaaDoorV19
import Derived.BigQuiet
import Derived.Deep.QuietTactic
namespace Go.Proofs.YtlbmpldknfcfhaaDoor
open Go.RowKit
set_option linter.unusedVariables false

theorem ownsRow_form {w : World} {base : Nat} {e : TypeId} {v : Value} {n : Nat} {xs : List Value} (h : w.ownsRow base e 1 v n xs) : (n = 0 ∧ ∃ a c, v = .slice a 0 c) ∨ (0 < n ∧ ∃ g c, v = .slice (some ⟨g, 0, none⟩) n c ∧ n ≤ c ∧ base ≤ g) := by
  rcases h.2 with ⟨rfl, rfl⟩ | ⟨g, c, cur, rfl, hg, _, hn, _⟩
  · exact .inl ⟨rfl, _, _, rfl⟩
  · by_cases h0 : n = 0
    · subst h0; exact .inl ⟨rfl, _, _, rfl⟩
    · exact .inr ⟨by omega, g, c, rfl, hn, hg⟩

/-- Which of two slices is the shorter one, told by spec.l1Sign at the end. -/
theorem shape_len {w : World} {base : Nat} {e : TypeId} {v : Value} {n : Nat} {xs : List Value} (h : w.ownsRow base e 1 v n xs) : ∃ a c, v = .slice a n c := by
  rcases ownsRow_form h with ⟨h0, a, c, h⟩ | ⟨_, g, c, h, _⟩
  · exact ⟨a, c, by rw [h, h0]⟩
  · exact ⟨_, c, h⟩

end Go.Proofs.YtlbmpldknfcfhaaDoor

namespace Go.Proofs.YtlbmpldknfcfhaaDoor
open Go.RowKit
set_option linter.unusedVariables false

theorem res_some {w : World} {B : Nat} {s : Value} {l : List M.Cl} (h : Res w B s l) (hv : M.valueFault l = 0) : ∃ b cap, s = .slice (some ⟨b, 0, none⟩) l.length cap ∧ l.length ≤ cap ∧ OwnG w b 44 l := by
  obtain ⟨_, ⟨_, rfl⟩ | ⟨b, cap, h1, _, h3, h4⟩⟩ := h
  · have := (M.fault_zero hv).1; simp at this
  · exact ⟨b, cap, h1, h3, h4⟩

end Go.Proofs.YtlbmpldknfcfhaaDoor

namespace Go.Proofs.YtlbmpldknfcfhaaDoor
open Go.RowKit
set_option linter.unusedVariables false

section
variable (f : Nat) (A C : List M.Cl)
end

end Go.Proofs.YtlbmpldknfcfhaaDoor
