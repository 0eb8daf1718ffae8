/-
  The laws' helpers over a slice of cells that came in, whatever it is: nil, empty or with cells.
-/
import Derived.Test.YtjoghcolfehkcaaOpen
namespace Go.Proofs.Ytjoghcolfehkcaa
open Go.RowKit
set_option linter.unusedVariables false

theorem sz_arg (a : Option Addr) (cap : Nat) (l : List M.Cl) (left : Int) (w : World) (h : Cells w a cap l) (h0 : 0 ≤ left) (h1 : left ≤ 1048576) :
    Calls Try.prog 16 #[.slice a l.length cap, .int .i64 left] w fun e w' => ∃ r : Int, e = .returned (.int .i64 r) ∧ ((r < 0) ∨ (0 ≤ r ∧ r = left - l.length - szAll l)) ∧ Below w.heap.size w w' := by
  obtain ⟨c1, c2, c3, rfl | ⟨b, off, rfl, hb, hr⟩⟩ := h
  · refine (szCellS_none a cap left w c1 h0 h1).mono ?_
    rintro e w' ⟨rfl, hb⟩
    exact ⟨_, rfl, .inr ⟨h0, by simp [szAll]⟩, hb⟩
  · exact szCellS_any b off cap l left w hr hb c1 c2 c3 h0 h1

theorem to_arg (a : Option Addr) (cap : Nat) (l : List M.Cl) (w : World) (h : Cells w a cap l) (hn : l.length ≤ 1048576) :
    Calls Try.prog 18 #[.slice a l.length cap] w fun e w' => e = .returned (.slice (some ⟨w.heap.size, 0, none⟩) l.length l.length) ∧ OwnRow w' w.heap.size 55 l ∧ Below w.heap.size w w' := by
  obtain ⟨c1, c2, c3, rfl | ⟨b, off, rfl, hb, hr⟩⟩ := h
  · exact toCellS_none a cap w c1
  · exact toCellS_any b off cap l w hr hb c1 c2 hn

end Go.Proofs.Ytjoghcolfehkcaa
