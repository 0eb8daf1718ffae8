/-
  Words for spec.l3Sort and impl.SortOf: lists in a row, each in a block of its own.
-/
import Derived.Test.YtcolohilnmikiaaGreatSrtM
import Derived.Test.YtcolohilnmikiaaGreatObjN
import Derived.Test.YtcolohilnmikiaaGreatPrtI
import Derived.Test.YtcolohilnmikiaaGreatEachT
import Derived.Test.YtcolohilnmikiaaGreatBoth
import Derived.Deep.RegionHeld3
import Derived.Deep.LoopGhost
import Derived.RegionTactic
import Derived.BigRegion
import Derived.Deep.DeepCutAuto
import Derived.Deep.Slices
namespace Go.Proofs.YtcolohilnmikiaaGreat
open Go.RowKit Go.WideShapes
set_option linter.unusedVariables false

/-- A row of lists opened: where each lies. -/
theorem SS.opened {w : World} {B : Nat} {s : Value} {ps : List (List M.Cl)} (h : SS w B s ps) (hne : ∀ i, i < ps.length → ps.getD i [] ≠ []) :
    ∃ (a : Option Addr) (c : Nat) (β γ : Nat → Nat), s = .slice a ps.length c ∧ ps.length ≤ c ∧ ∀ i, i < ps.length → ∃ g, a = some ⟨g, 0, none⟩ ∧ B ≤ g ∧ g < w.heap.size ∧ w.cell? ⟨g, i, none⟩ = some (.slice (some ⟨β i, 0, none⟩) (ps.getD i []).length (γ i)) ∧ β i < w.heap.size ∧ β i ≠ g ∧ (ps.getD i []).length ≤ γ i ∧ Row w (β i) 0 (ps.getD i []) := by
  have hat : ∀ i, i < ps.length → ∃ t : Nat × Nat, ∃ g cap, s = .slice (some ⟨g, 0, none⟩) ps.length cap ∧ ps.length ≤ cap ∧ B ≤ g ∧ g < w.heap.size ∧ w.cell? ⟨g, i, none⟩ = some (.slice (some ⟨t.1, 0, none⟩) (ps.getD i []).length t.2) ∧ t.1 < w.heap.size ∧ t.1 ≠ g ∧ (ps.getD i []).length ≤ t.2 ∧ Row w t.1 0 (ps.getD i []) := by
    intro i hi
    obtain ⟨g, cap, s', e, hc, f, hr⟩ := h.at hi
    obtain ⟨xs, hxs⟩ : ∃ xs, w.ownsRow B 24 1 s ps.length xs := by obtain ⟨ss, _, h2, _⟩ := h; exact ⟨ss, h2⟩
    have hg := hxs.lt g (by rw [e]; rfl)
    obtain ⟨_, ⟨_, h2⟩ | ⟨c, cc, h3, h4, h5, h6⟩⟩ := hr
    · exact absurd h2 (hne i hi)
    · refine ⟨(c, cc), g, cap, e, hc, hg.1, hg.2, by rw [f, h3], h6.lt, ?_, h5, h6.row⟩
      obtain ⟨ys, hy1, hy2⟩ := h6
      intro e2
      subst e2
      exact other_block hxs hy1 (by decide) (by rw [e]; rfl)
  haveI : Inhabited (Nat × Nat) := ⟨(0, 0)⟩
  obtain ⟨σ, hσ⟩ := Go.Deep.choose_lt (n := ps.length) hat
  by_cases h0 : ps.length = 0
  · obtain ⟨a, c, e, hc, _⟩ := h.lv hne
    exact ⟨a, c, fun i => (σ i).1, fun i => (σ i).2, e, hc, fun i hi => by omega⟩
  · obtain ⟨g, cap, e, hc, _⟩ := hσ 0 (by omega)
    refine ⟨some ⟨g, 0, none⟩, cap, fun i => (σ i).1, fun i => (σ i).2, e, hc, fun i hi => ?_⟩
    obtain ⟨g', cap', e', _, q⟩ := hσ i hi
    rw [e] at e'
    cases e'
    exact ⟨g, rfl, q⟩

/-- What the loops of l3Sort hold: the row of what is put in so far. -/
structure Sl (wp wr : World) (lv : Nat → Value) (L : List Nat) (s4 : Value) (vb vc : Nat) : Prop where
  e4 : s4 = .slice (some ⟨vb, 0, none⟩) L.length vc
  v : wr.ownsRow wp.heap.size 24 1 (.slice (some ⟨vb, 0, none⟩) L.length vc) L.length (valsV lv L)
  b : Below wp.heap.size wp wr
theorem Sl.below {wp wr w' : World} {lv : Nat → Value} {L : List Nat} {s4 : Value} {vb vc : Nat} (h : Sl wp wr lv L s4 vb vc) (hb : Below wr.heap.size wr w') : Sl wp w' lv L s4 vb vc := ⟨h.e4, owns_below h.v hb, h.b.trans (hb.mono h.b.size)⟩
theorem Sl.drew {wp wr : World} {lv : Nat → Value} {L : List Nat} {s4 : Value} {vb vc : Nat} (h : Sl wp wr lv L s4 vb vc) : Sl wp wr.drew lv L s4 vb vc := ⟨h.e4, h.v, h.b.drew⟩
theorem Sl.drewN {wp wr : World} {lv : Nat → Value} {L : List Nat} {s4 : Value} {vb vc : Nat} (h : Sl wp wr lv L s4 vb vc) (q : Nat) : Sl wp (wr.drewN q) lv L s4 vb vc := ⟨h.e4, h.v, below_drewN h.b q⟩

theorem Good_new {ps : List (List M.Cl)} {i k : Nat} {L S : List Nat} (h : St.Good ps i L) (hS : St.Good ps (i + 1) S) (hk : k ≤ L.length) (hR : ∀ j, k ≤ j → j < L.length → 0 < St.cmpV ps (L.getD j 0) i) (hst : k = 0 ∨ ¬ 0 < St.cmpV ps (L.getD (k - 1) 0) i) : L.take k ++ [i] ++ L.drop k = S := (h.step hk hR hst).unique hS

end Go.Proofs.YtcolohilnmikiaaGreat
