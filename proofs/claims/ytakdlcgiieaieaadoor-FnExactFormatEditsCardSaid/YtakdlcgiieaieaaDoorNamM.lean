/-
  Names, plainly: how many bytes of a text go on as a name.
-/
import Derived.Test.YtakdlcgiieaieaaDoorText
import Derived.Deep.LoopGhost
import Derived.Deep.QuietTactic
import Derived.BigQuiet
import Derived.RegionTactic
import Derived.BigRegion
import Derived.Laws.RangeAny
namespace Go.Proofs.YtakdlcgiieaieaaDoor
open Go.RowKit
set_option linter.unusedVariables false

namespace J
def letC (c : Int) : Bool := (decide (97 ≤ c) && decide (c ≤ 122)) || c == 95
def digC (c : Int) : Bool := decide (48 ≤ c) && decide (c ≤ 57)
/-- The byte at a place may stand there in a name. -/
def okC (k : Nat) (c : Int) : Bool := letC c || (k != 0 && digC c)
def okAt (s : ByteArray) (k : Nat) : Bool := if h : k < s.size then okC k (s[k].toNat : Int) else false
def nrunF : Nat → ByteArray → Nat → Nat
  | 0, _, k => k
  | f + 1, s, k => if okAt s k = true then nrunF f s (k + 1) else k
def nrun (s : ByteArray) (k : Nat) : Nat := nrunF (s.size - k) s k
theorem okAt_in {s : ByteArray} {k : Nat} (h : k < s.size) : okAt s k = okC k (s[k].toNat : Int) := by unfold okAt; rw [dif_pos h]
theorem nrun_end (s : ByteArray) (k : Nat) (h : s.size ≤ k) : nrun s k = k := by unfold nrun; rw [show s.size - k = 0 by omega]; rfl
theorem nrun_stop (s : ByteArray) (k : Nat) (h : k < s.size) (ho : okC k (s[k].toNat : Int) = false) : nrun s k = k := by
  unfold nrun
  rw [show s.size - k = (s.size - (k + 1)) + 1 by omega, nrunF, okAt_in h, ho]; rfl
theorem nrun_go (s : ByteArray) (k : Nat) (h : k < s.size) (ho : okC k (s[k].toNat : Int) = true) : nrun s k = nrun s (k + 1) := by
  unfold nrun
  rw [show s.size - k = (s.size - (k + 1)) + 1 by omega, nrunF, okAt_in h, ho, if_pos rfl]
theorem nrunF_le (f : Nat) (s : ByteArray) (k : Nat) : k ≤ nrunF f s k ∧ nrunF f s k ≤ k + f := by
  induction f generalizing k with
  | zero => exact ⟨Nat.le_refl _, Nat.le_refl _⟩
  | succ f ih =>
    rw [nrunF]
    split
    · have := ih (k + 1); omega
    · omega
theorem nrun_le (s : ByteArray) (k : Nat) (h : k ≤ s.size) : k ≤ nrun s k ∧ nrun s k ≤ s.size := by
  have := nrunF_le (s.size - k) s k
  unfold nrun
  omega
/-- A text is a name. -/
def isName (s : ByteArray) : Bool := decide (0 < nrun s 0) && (decide (nrun s 0 ≤ 12) && nrun s 0 == s.size)
theorem isName_long {s : ByteArray} (h : s.size < 1 ∨ 12 < s.size) : isName s = false := by
  unfold isName
  have := nrun_le s 0 (by omega)
  rw [Bool.and_eq_false_iff, Bool.and_eq_false_iff]
  by_cases e : nrun s 0 = s.size
  · rcases h with h | h
    · left; simp; omega
    · right; left; simp; omega
  · right; right; simp [e]
theorem isName_stop {s : ByteArray} {k : Nat} (h : k < s.size) (h1 : nrun s k = nrun s 0) (h2 : nrun s k = k) : isName s = false := by
  unfold isName
  rw [Bool.and_eq_false_iff, Bool.and_eq_false_iff]
  right; right
  rw [← h1, h2]; simp; omega
theorem isName_all {s : ByteArray} (h0 : 1 ≤ s.size) (h12 : s.size ≤ 12) (h1 : nrun s s.size = nrun s 0) : isName s = true := by
  rw [nrun_end s s.size (Nat.le_refl _)] at h1
  unfold isName
  rw [← h1]
  simp
  omega
end J

end Go.Proofs.YtakdlcgiieaieaaDoor
