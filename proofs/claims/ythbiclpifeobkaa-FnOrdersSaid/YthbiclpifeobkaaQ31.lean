/-
  A row of cells that can be appended to, as an answer.
-/
import Derived.Test.YthbiclpifeobkaaQ23
import Derived.Test.YthbiclpifeobkaaQ29
namespace Go.Proofs.Ythbiclpifeobkaa
open Go.RowKit
set_option linter.unusedVariables false
set_option linter.unusedSimpArgs false

/-- A row of cells of one's own, with its room. -/
def Rs (w : World) (B : Nat) (s : Value) (l : List M.Cl) : Prop := w.ownsRow B 44 5 s l.length (flat l) ∧ l.length ≤ 1048576
theorem Rs.res {w : World} {B : Nat} {s : Value} {l : List M.Cl} (h : Rs w B s l) : Res w B s l := res_of_owns h.1 h.2
theorem owns_mono {w : World} {B B' : Nat} {e : TypeId} {k : Nat} {v : Value} {n : Nat} {xs : List Value} (h : w.ownsRow B e k v n xs) (hB : B' ≤ B) : w.ownsRow B' e k v n xs := by
  obtain ⟨h1, h2 | ⟨g, cap, cur, h3, h4, h5⟩⟩ := h
  · exact ⟨h1, .inl h2⟩
  · exact ⟨h1, .inr ⟨g, cap, cur, h3, by omega, h5⟩⟩
theorem Rs.mono {w : World} {B B' : Nat} {s : Value} {l : List M.Cl} (h : Rs w B s l) (hB : B' ≤ B) : Rs w B' s l := ⟨owns_mono h.1 hB, h.2⟩
theorem Rs.shape {w : World} {B : Nat} {s : Value} {l : List M.Cl} (h : Rs w B s l) : ∃ a n c, s = .slice a n c := h.res.shape
set_option maxHeartbeats 400000 in
theorem l1NumberO_any (n : Int) (w : World) : Calls Try.prog 102 #[.int .i64 n] w fun e w' => ∃ s, e = .returned s ∧ Rs w' w.heap.size s [⟨3, n, ByteArray.empty, ByteArray.empty, 0⟩] ∧ Below w.heap.size w w' := by
  go_enter Try.func102, Try.ntmps102
  go_wp2_with fail
  go_ret
  exact ⟨_, rfl, ⟨one_own w w.heap.size w.heap.size ⟨3, n, ByteArray.empty, ByteArray.empty, 0⟩ rfl (Nat.le_refl _), by simp⟩, (Below.refl _ _).alloc (Nat.le_refl _) _⟩
set_option maxHeartbeats 400000 in
theorem l1StringO_any (s : ByteArray) (w : World) : Calls Try.prog 103 #[.string s] w fun e w' => ∃ r, e = .returned r ∧ Rs w' w.heap.size r [⟨4, 0, s, ByteArray.empty, 0⟩] ∧ Below w.heap.size w w' := by
  go_enter Try.func103, Try.ntmps103
  go_wp2_with fail
  go_ret
  exact ⟨_, rfl, ⟨one_own w w.heap.size w.heap.size ⟨4, 0, s, ByteArray.empty, 0⟩ rfl (Nat.le_refl _), by simp⟩, (Below.refl _ _).alloc (Nat.le_refl _) _⟩

end Go.Proofs.Ythbiclpifeobkaa
