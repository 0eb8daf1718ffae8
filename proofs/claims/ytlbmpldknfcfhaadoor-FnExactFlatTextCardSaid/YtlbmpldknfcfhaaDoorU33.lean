/-
  An answer that holds lists of cells: what the laws' helpers find, mark and find again in it.
  spec.EachOf and impl.EachOf.
-/
import Derived.Test.YtlbmpldknfcfhaaDoorU06
import Derived.Test.YtlbmpldknfcfhaaDoorU18
import Derived.Test.YtlbmpldknfcfhaaDoorU23
import Derived.Deep.RegionHeld
import Derived.Deep.Slices
namespace Go.Proofs.YtlbmpldknfcfhaaDoor
open Go.RowKit
set_option linter.unusedVariables false

/-- The slice v holds slices, each in a block of its own; all blocks lie from lo on and ahead of hi. -/
def PR (w : World) (lo hi : Nat) (v : Value) (ps : List (List M.Cl)) : Prop :=
  (v = .slice none 0 0 ∧ ps = []) ∨ ∃ (g cap : Nat) (xs : List Value) (β γ : Nat → Nat), v = .slice (some ⟨g, 0, none⟩) ps.length cap ∧ ps.length ≤ cap ∧ lo ≤ g ∧ g < hi ∧ Own w g 27 xs ∧
    (∀ i, i < ps.length → xs[i]? = some (.slice (some ⟨β i, 0, none⟩) (ps.getD i []).length (γ i)) ∧ (ps.getD i []).length ≤ γ i ∧ lo ≤ β i ∧ β i < hi ∧ β i ≠ g ∧ OwnG w (β i) 44 (ps.getD i [])) ∧
    ∀ i j, i < j → j < ps.length → β i ≠ β j
/-- The same, without a word of what is shared. -/
def PS (w : World) (lo hi : Nat) (v : Value) (ps : List (List M.Cl)) : Prop :=
  (v = .slice none 0 0 ∧ ps = []) ∨ ∃ (g cap : Nat) (xs : List Value) (β γ : Nat → Nat), v = .slice (some ⟨g, 0, none⟩) ps.length cap ∧ ps.length ≤ cap ∧ lo ≤ g ∧ g < hi ∧ Own w g 27 xs ∧
    (∀ i, i < ps.length → xs[i]? = some (.slice (some ⟨β i, 0, none⟩) (ps.getD i []).length (γ i)) ∧ (ps.getD i []).length ≤ γ i ∧ lo ≤ β i ∧ β i < hi ∧ OwnG w (β i) 44 (ps.getD i []))
theorem PR.ps {w : World} {lo hi : Nat} {v : Value} {ps : List (List M.Cl)} (h : PR w lo hi v ps) : PS w lo hi v ps := by
  rcases h with h | ⟨g, cap, xs, β, γ, h1, h2, h3, h4, h5, h6, _⟩
  · exact .inl h
  · exact .inr ⟨g, cap, xs, β, γ, h1, h2, h3, h4, h5, fun i hi => ⟨(h6 i hi).1, (h6 i hi).2.1, (h6 i hi).2.2.1, (h6 i hi).2.2.2.1, (h6 i hi).2.2.2.2.2⟩⟩
theorem OwnG.keep {w w' : World} {b : Nat} {t : TypeId} {l : List M.Cl} (h : OwnG w b t l) (hk : w'.heap[b]? = w.heap[b]?) : OwnG w' b t l := by
  obtain ⟨xs, ⟨c, h1, h2⟩, h3⟩ := h; exact ⟨xs, ⟨c, hk.trans h1, h2⟩, h3⟩
theorem Own.keep {w w' : World} {b : Nat} {t : TypeId} {xs : List Value} (h : Own w b t xs) (hk : w'.heap[b]? = w.heap[b]?) : Own w' b t xs := by
  obtain ⟨c, h1, h2⟩ := h; exact ⟨c, hk.trans h1, h2⟩
theorem PR.keep {w w' : World} {lo hi : Nat} {v : Value} {ps : List (List M.Cl)} (h : PR w lo hi v ps) (hk : ∀ k, lo ≤ k → k < hi → k < w.heap.size → w'.heap[k]? = w.heap[k]?) : PR w' lo hi v ps := by
  rcases h with h | ⟨g, cap, xs, β, γ, h1, h2, h3, h4, h5, h6, h7⟩
  · exact .inl h
  · exact .inr ⟨g, cap, xs, β, γ, h1, h2, h3, h4, h5.keep (hk g h3 h4 h5.lt), fun i hi => ⟨(h6 i hi).1, (h6 i hi).2.1, (h6 i hi).2.2.1, (h6 i hi).2.2.2.1, (h6 i hi).2.2.2.2.1, (h6 i hi).2.2.2.2.2.keep (hk _ (h6 i hi).2.2.1 (h6 i hi).2.2.2.1 (h6 i hi).2.2.2.2.2.lt)⟩, h7⟩
theorem PS.keep {w w' : World} {lo hi : Nat} {v : Value} {ps : List (List M.Cl)} (h : PS w lo hi v ps) (hk : ∀ k, lo ≤ k → k < hi → k < w.heap.size → w'.heap[k]? = w.heap[k]?) : PS w' lo hi v ps := by
  rcases h with h | ⟨g, cap, xs, β, γ, h1, h2, h3, h4, h5, h6⟩
  · exact .inl h
  · exact .inr ⟨g, cap, xs, β, γ, h1, h2, h3, h4, h5.keep (hk g h3 h4 h5.lt), fun i hi => ⟨(h6 i hi).1, (h6 i hi).2.1, (h6 i hi).2.2.1, (h6 i hi).2.2.2.1, (h6 i hi).2.2.2.2.keep (hk _ (h6 i hi).2.2.1 (h6 i hi).2.2.2.1 (h6 i hi).2.2.2.2.lt)⟩⟩
theorem PR.below {w w' : World} {lo hi : Nat} {v : Value} {ps : List (List M.Cl)} (h : PR w lo hi v ps) (hb : Below w.heap.size w w') : PR w' lo hi v ps := h.keep fun k _ _ hk => hb.block k hk
theorem PS.below {w w' : World} {lo hi : Nat} {v : Value} {ps : List (List M.Cl)} (h : PS w lo hi v ps) (hb : Below w.heap.size w w') : PS w' lo hi v ps := h.keep fun k _ _ hk => hb.block k hk
theorem PS.shape {w : World} {lo hi : Nat} {v : Value} {ps : List (List M.Cl)} (h : PS w lo hi v ps) : ∃ a n c, v = .slice a n c := by
  rcases h with ⟨rfl, _⟩ | ⟨g, cap, xs, β, γ, rfl, _⟩
  · exact ⟨_, _, _, rfl⟩
  · exact ⟨_, _, _, rfl⟩
theorem PS.mono {w : World} {lo hi lo' hi' : Nat} {v : Value} {ps : List (List M.Cl)} (h : PS w lo hi v ps) (h1 : lo' ≤ lo) (h2 : hi ≤ hi') : PS w lo' hi' v ps := by
  rcases h with h | ⟨g, cap, xs, β, γ, q1, q2, q3, q4, q5, q6⟩
  · exact .inl h
  · exact .inr ⟨g, cap, xs, β, γ, q1, q2, by omega, by omega, q5, fun i hi => ⟨(q6 i hi).1, (q6 i hi).2.1, by have := (q6 i hi).2.2.1; omega, by have := (q6 i hi).2.2.2.1; omega, (q6 i hi).2.2.2.2⟩⟩

theorem SS.ps {w : World} {B : Nat} {v : Value} {ps : List (List M.Cl)} (h : SS w B v ps) (hne : ∀ i, i < ps.length → ps.getD i [] ≠ []) : PS w B w.heap.size v ps := by
  obtain ⟨ss, hl, ho, hr⟩ := h
  obtain ⟨_, ⟨rfl, h0⟩ | ⟨g, cap, cur, rfl, hg, hh, hnc, hcm, hcs, ht⟩⟩ := ho
  · exact .inl ⟨rfl, List.length_eq_zero_iff.1 h0⟩
  · haveI : Inhabited (Nat × Nat) := ⟨(0, 0)⟩
    obtain ⟨σ, hσ⟩ := Go.Deep.choose_lt (n := ps.length) (p := fun i (t : Nat × Nat) => ss.getD i (.slice none 0 0) = .slice (some ⟨t.1, 0, none⟩) (ps.getD i []).length t.2 ∧ (ps.getD i []).length ≤ t.2 ∧ B ≤ t.1 ∧ OwnG w t.1 44 (ps.getD i [])) (fun i hi => by
      obtain ⟨_, ⟨_, e⟩ | ⟨b, c, h1, h2, h3, h4⟩⟩ := hr i hi
      · exact absurd e (hne i hi)
      · exact ⟨(b, c), h1, h3, h2, h4⟩)
    refine .inr ⟨g, cap, cur.toList, fun i => (σ i).1, fun i => (σ i).2, rfl, hnc, hg, (Array.getElem?_eq_some_iff.1 hh).1, ⟨cur, hh, rfl⟩, fun i hi => ⟨?_, (hσ i hi).2.1, (hσ i hi).2.2.1, (hσ i hi).2.2.2.lt, (hσ i hi).2.2.2⟩⟩
    have h3 : cur.toList[i]? = ss[i]? := by rw [← ht, List.getElem?_take, if_pos (by omega)]
    have e := (hσ i hi).1
    rw [List.getD_eq_getElem?_getD, List.getElem?_eq_getElem (by omega)] at e
    simp only [Option.getD_some] at e
    rw [h3, List.getElem?_eq_getElem (by omega), e]
end Go.Proofs.YtlbmpldknfcfhaaDoor

namespace Go.Proofs.YtlbmpldknfcfhaaDoor
open Go.RowKit
set_option linter.unusedVariables false

/-- The call told the code and the lists of out. -/
def AnsS (w : World) (out : Int × List (List M.Cl)) (e : Ending) (w' : World) : Prop := ∃ s, e = .returned (.agg #[.int .i64 out.1, s]) ∧ PS w' w.heap.size w'.heap.size s out.2 ∧ Below w.heap.size w w'
theorem ansS_of {w w' : World} {out : Int × List (List M.Cl)} {c : Int} {s : Value} {l : List (List M.Cl)} (fin : out = (c, l)) (hr : PS w' w.heap.size w'.heap.size s l) (hb : Below w.heap.size w w') : AnsS w out (.returned (.agg #[.int .i64 c, s])) w' := by
  subst fin; exact ⟨s, rfl, hr, hb⟩
theorem size_setCell2 (w : World) (p q : Addr) (x y : Value) : ((w.setCell p x).setCell q y).heap.size = w.heap.size := by simp
theorem heap_setCell2 (w : World) (b : Nat) (x y : Value) (k : Nat) (hk : k ≠ b) : ((w.setCell ⟨b, 0, none⟩ x).setCell ⟨b, 1, none⟩ y).heap[k]? = w.heap[k]? := (heap_setCell_other _ ⟨b, 1, none⟩ k y hk).trans (heap_setCell_other _ ⟨b, 0, none⟩ k x hk)
theorem PR.mono {w : World} {lo hi lo' hi' : Nat} {v : Value} {ps : List (List M.Cl)} (h : PR w lo hi v ps) (h1 : lo' ≤ lo) (h2 : hi ≤ hi') : PR w lo' hi' v ps := by
  rcases h with h | ⟨g, cap, xs, β, γ, q1, q2, q3, q4, q5, q6, q7⟩
  · exact .inl h
  · exact .inr ⟨g, cap, xs, β, γ, q1, q2, by omega, by omega, q5, fun i hi => ⟨(q6 i hi).1, (q6 i hi).2.1, by have := (q6 i hi).2.2.1; omega, by have := (q6 i hi).2.2.2.1; omega, (q6 i hi).2.2.2.2⟩, q7⟩
end Go.Proofs.YtlbmpldknfcfhaaDoor
