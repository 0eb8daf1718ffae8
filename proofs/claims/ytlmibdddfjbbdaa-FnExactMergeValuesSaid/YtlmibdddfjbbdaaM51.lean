/-
  A slice of cells that came in as an argument, opened: the list of its cells, which lie in memory one behind the other.
  The laws' helpers over a slice of cells that came in, whatever it is: nil, empty or with cells.
-/
import Derived.Test.YtlmibdddfjbbdaaM02
import Derived.Deep.Slices
import Derived.OpenShut
import Derived.ProofKit
namespace Go.Proofs.Ytlmibdddfjbbdaa
open Go.RowKit Go.ChangeShapes Go.WideShapes
set_option linter.unusedVariables false

theorem Try.cells36 : Try.prog.cellsOf 36 = 5 := by kernel_rfl
theorem Try.cells2 : Try.prog.cellsOf 2 = 1 := by kernel_rfl
theorem Try.cells9 : Try.prog.cellsOf 9 = 1 := by kernel_rfl

/-- What the walks are told of a slice of cells: a its head, cap its capacity, l its cells. -/
def Cells (w : World) (a : Option Addr) (cap : Nat) (l : List M.Cl) : Prop :=
  cap ≤ 9223372036854775807 ∧ l.length ≤ cap ∧ (∀ c ∈ l, c.ok) ∧ (l = [] ∨ ∃ b off, a = some ⟨b, off, none⟩ ∧ b < w.heap.size ∧ Row w b off l)

theorem Cells.below {w w' : World} {a : Option Addr} {cap : Nat} {l : List M.Cl} (h : Cells w a cap l) (hb : Below w.heap.size w w') : Cells w' a cap l := by
  obtain ⟨h1, h2, h3, h4⟩ := h
  refine ⟨h1, h2, h3, ?_⟩
  rcases h4 with h4 | ⟨b, off, e, hlt, hr⟩
  · exact .inl h4
  · exact .inr ⟨b, off, e, Nat.lt_of_lt_of_le hlt hb.size, hr.below hb hlt⟩

section
variable {H : Type} {enc : TypeId × Value → H} {w : World} {base : Nat} {spare : Nat → Bool} {held : Bool}

set_option maxRecDepth 100000 in
/-- One cell, read. -/
theorem open_cell {n : Nat} {cs : List Value} {x : DataW H × List MemPlace} (h : DataW.trod enc Try.prog w base spare held n 36 cs = some x) :
    ∃ c : M.Cl, cs = c.vals ∧ c.ok := by
  obtain ⟨xs, m, _, _, hl, hlen, hf⟩ := DataW.trod_struct Try.underlying36 h
  rw [Try.cells36] at hl
  match cs, hl, xs, hlen with
  | [c0, c1, c2, c3, c4], _, [y0, y1, y2, y3, y4], _ =>
    have a0 : DataW.trod enc Try.prog w base spare held m 2 (([c0, c1, c2, c3, c4].drop 0).take (Try.prog.cellsOf 2)) = some y0 := hf 0 _ rfl
    rw [Try.cells2] at a0
    have h0 : DataW.trod enc Try.prog w base spare held m 2 [c0] = some y0 := a0
    have a1 : DataW.trod enc Try.prog w base spare held m 2 (([c0, c1, c2, c3, c4].drop 1).take (Try.prog.cellsOf 2)) = some y1 := hf 1 _ rfl
    rw [Try.cells2] at a1
    have h1 : DataW.trod enc Try.prog w base spare held m 2 [c1] = some y1 := a1
    have a2 : DataW.trod enc Try.prog w base spare held m 9 (([c0, c1, c2, c3, c4].drop 2).take (Try.prog.cellsOf 9)) = some y2 := hf 2 _ rfl
    rw [Try.cells9] at a2
    have h2 : DataW.trod enc Try.prog w base spare held m 9 [c2] = some y2 := a2
    have a3 : DataW.trod enc Try.prog w base spare held m 9 (([c0, c1, c2, c3, c4].drop 3).take (Try.prog.cellsOf 9)) = some y3 := hf 3 _ rfl
    rw [Try.cells9] at a3
    have h3 : DataW.trod enc Try.prog w base spare held m 9 [c3] = some y3 := a3
    have a4 : DataW.trod enc Try.prog w base spare held m 2 (([c0, c1, c2, c3, c4].drop 4).take (Try.prog.cellsOf 2)) = some y4 := hf 4 _ rfl
    rw [Try.cells2] at a4
    have h4 : DataW.trod enc Try.prog w base spare held m 2 [c4] = some y4 := a4
    obtain ⟨n0, e0, _, w0⟩ := DataW.trod_int Try.underlying2 h0
    obtain ⟨n1, e1, _, w1⟩ := DataW.trod_int Try.underlying2 h1
    obtain ⟨s2, e2, _, w2⟩ := DataW.trod_string Try.underlying9 h2
    obtain ⟨s3, e3, _, w3⟩ := DataW.trod_string Try.underlying9 h3
    obtain ⟨n4, e4, _, w4⟩ := DataW.trod_int Try.underlying2 h4
    simp only [List.cons.injEq, and_true] at e0 e1 e2 e3 e4
    subst e0 e1 e2 e3 e4
    unfold maxLen at w2 w3
    exact ⟨⟨n0, n1, s2, s3, n4⟩, rfl, bounds_i64 w0, bounds_i64 w1, bounds_i64 w4, w2, w3⟩

set_option maxRecDepth 100000 in
/-- The whole slice, read. -/
theorem open_cells {a : Option Addr} {len cap fuel : Nat} {x : DataW H × List MemPlace} (h : DataW.trod enc Try.prog w base spare held fuel 22 [.slice a len cap] = some x) (hbl : ∀ p ∈ x.2, p.block < w.heap.size) :
    ∃ l : List M.Cl, l.length = len ∧ Cells w a cap l := by
  rcases Go.Deep.open_slice Try.underlying22 h with ⟨hcs, _⟩ | ⟨ad, len', cap', m, n, D, Pl, hcs, _, hl, hm, hmm, hx, hel⟩
  · simp only [List.cons.injEq, Value.slice.injEq, and_true] at hcs
    obtain ⟨rfl, rfl, rfl⟩ := hcs
    exact ⟨[], rfl, by omega, by simp, by simp, .inl rfl⟩
  · simp only [List.cons.injEq, Value.slice.injEq, and_true] at hcs
    obtain ⟨rfl, rfl, rfl⟩ := hcs
    unfold maxLen at hm
    rw [Try.cells36] at hel
    have hlm : len ≤ m := by rw [hmm]; split <;> omega
    have key : ∀ i, i < len → ∃ c : M.Cl, w.cells? base (ad.add (i * 5)) 5 = some c.vals ∧ c.ok := by
      intro i hi
      obtain ⟨cs', h1, h2⟩ := hel i (by omega)
      obtain ⟨c, rfl, ho⟩ := open_cell h2
      exact ⟨c, h1, ho⟩
    haveI : Inhabited M.Cl := ⟨M.zero⟩
    obtain ⟨C, hC⟩ := Go.Deep.choose_lt key
    refine ⟨(List.range len).map C, by simp, hm, by simpa using hl, ?_, ?_⟩
    · intro c hc
      simp only [List.mem_map, List.mem_range] at hc
      obtain ⟨i, hi, rfl⟩ := hc
      exact (hC i hi).2
    · by_cases h0 : len = 0
      · left; subst h0; rfl
      · right
        obtain ⟨b, off, spot⟩ := ad
        have c0 := (World.cells?_some (hC 0 (by omega)).1).2.2 0 (by omega)
        have hs : spot = none := by
          have := World.cell?_spot (c0.trans rfl)
          simpa [Addr.add] using this
        subst hs
        have hblk : b < w.heap.size := by
          have := block_lt_of_cell (c0.trans rfl)
          rw [add_plain, add_plain] at this
          exact this
        refine ⟨b, off, rfl, hblk, ?_⟩
        intro i hi
        have hi' : i < len := by simpa using hi
        have e : ((List.range len).map C).getD i M.zero = C i := by simp [List.getD_eq_getElem?_getD, hi']
        rw [e]
        have cc := (World.cells?_some (hC i hi').1).2.2
        simp only [add_plain] at cc
        exact ⟨cc 0 (by omega), cc 1 (by omega), cc 2 (by omega), cc 3 (by omega), cc 4 (by omega)⟩

end
end Go.Proofs.Ytlmibdddfjbbdaa

namespace Go.Proofs.Ytlmibdddfjbbdaa
open Go.RowKit
set_option linter.unusedVariables false

theorem sz_arg (a : Option Addr) (cap : Nat) (l : List M.Cl) (left : Int) (w : World) (h : Cells w a cap l) (h0 : 0 ≤ left) (h1 : left ≤ 1048576) :
    Calls Try.prog 4 #[.slice a l.length cap, .int .i64 left] w fun e w' => ∃ r : Int, e = .returned (.int .i64 r) ∧ ((r < 0) ∨ (0 ≤ r ∧ r = left - l.length - szAll l)) ∧ Below w.heap.size w w' := by
  obtain ⟨c1, c2, c3, rfl | ⟨b, off, rfl, hb, hr⟩⟩ := h
  · refine (szCellS_none a cap left w c1 h0 h1).mono ?_
    rintro e w' ⟨rfl, hb⟩
    exact ⟨_, rfl, .inr ⟨h0, by simp [szAll]⟩, hb⟩
  · exact szCellS_any b off cap l left w hr hb c1 c2 c3 h0 h1

theorem to_arg (a : Option Addr) (cap : Nat) (l : List M.Cl) (w : World) (h : Cells w a cap l) (hn : l.length ≤ 1048576) :
    Calls Try.prog 6 #[.slice a l.length cap] w fun e w' => e = .returned (.slice (some ⟨w.heap.size, 0, none⟩) l.length l.length) ∧ OwnRow w' w.heap.size 41 l ∧ Below w.heap.size w w' := by
  obtain ⟨c1, c2, c3, rfl | ⟨b, off, rfl, hb, hr⟩⟩ := h
  · exact toCellS_none a cap w c1
  · exact toCellS_any b off cap l w hr hb c1 c2 hn

end Go.Proofs.Ytlmibdddfjbbdaa
