/-
  Lists that are summed up, one behind the other.
-/
import Derived.Test.YtjoghcolfehkcaaAdd0
import Derived.Test.YtjoghcolfehkcaaEachM
namespace Go.Proofs.Ytjoghcolfehkcaa
open Go.RowKit
set_option linter.unusedVariables false

theorem PS.form {w : World} {lo hi : Nat} {s : Value} {ps : List (List M.Cl)} (h : PS w lo hi s ps) : ∃ a c, s = .slice a ps.length c := by
  rcases h with ⟨rfl, rfl⟩ | ⟨g, cap, xs, β, γ, rfl, _⟩
  · exact ⟨_, _, rfl⟩
  · exact ⟨_, _, rfl⟩
theorem PS.at {w : World} {lo hi : Nat} {a : Option Addr} {c n : Nat} {ps : List (List M.Cl)} (h : PS w lo hi (.slice a n c) ps) {i : Nat} (hi' : i < ps.length) : ∃ g b cc, a = some ⟨g, 0, none⟩ ∧ w.cell? ⟨g, i, none⟩ = some (.slice (some ⟨b, 0, none⟩) (ps.getD i []).length cc) ∧ (ps.getD i []).length ≤ cc ∧ b < w.heap.size ∧ Row w b 0 (ps.getD i []) := by
  rcases h with ⟨_, rfl⟩ | ⟨g, cap, xs, β, γ, h1, h2, h3, h4, h5, h6⟩
  · simp at hi'
  · cases h1
    obtain ⟨q1, q2, q3, q4, q5⟩ := h6 i hi'
    exact ⟨g, β i, γ i, rfl, (h5.cell i).trans q1, q2, q5.lt, q5.row⟩
/-- What the loop of a sum holds: the cell of the sum. -/
def Acc (w : World) (base bs : Nat) (ps : List (List M.Cl)) (k : Nat) : Prop :=
  ∃ ba ca : Nat, Own w bs 26 [.int .i64 0, .slice (some ⟨ba, 0, none⟩) (sumK ps k).2.length ca] ∧ (sumK ps k).2.length ≤ ca ∧ base ≤ ba ∧ ba ≠ bs ∧ OwnG w ba 55 (sumK ps k).2 ∧ (sumK ps k).1 = 0 ∧ M.valueFault (sumK ps k).2 = 0 ∧ ∀ c ∈ (sumK ps k).2, c.ok
theorem acc_step {ps : List (List M.Cl)} {k : Nat} (hv : M.valueFault (sumK ps k).2 = 0) (hok : ∀ c ∈ (sumK ps k).2, c.ok) (hp : M.valueFault (ps.getD k []) = 0) (hok' : ∀ c ∈ ps.getD k [], c.ok) (h0 : (sumK ps k).1 = 0) (hz : (addIn (sumK ps k).2 (ps.getD k [])).1 = 0) : (sumK ps (k + 1)).1 = 0 ∧ M.valueFault (sumK ps (k + 1)).2 = 0 ∧ ∀ c ∈ (sumK ps (k + 1)).2, c.ok := by
  rw [sumK_go h0]
  exact ⟨hz, add_valid hv hp hok hok' hz⟩
theorem OwnG.setFar {w : World} {b : Nat} {t : TypeId} {l : List M.Cl} (h : OwnG w b t l) (p q : Addr) (x y : Value) (hp : b ≠ p.block) (hq : b ≠ q.block) : OwnG ((w.setCell p x).setCell q y) b t l := (h.setOther p x hp).setOther q y hq
theorem res_nonempty {w : World} {B : Nat} {s : Value} {l : List M.Cl} (h : Res w B s l) (hv : M.valueFault l = 0) : ∃ b c, s = .slice (some ⟨b, 0, none⟩) l.length c ∧ l.length ≤ c ∧ B ≤ b ∧ OwnG w b 55 l := by
  obtain ⟨_, ⟨_, rfl⟩ | ⟨b, cap, h1, h2, h3, h4⟩⟩ := h
  · have := (fault_len hv).1; simp at this
  · exact ⟨b, cap, h1, h3, h2, h4⟩

end Go.Proofs.Ytjoghcolfehkcaa
