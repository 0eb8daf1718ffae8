/-
  Names, plainly: how many bytes of a text go on as a name.
  Names: spec.IsName and impl.IsName.
  Words: spec.IsWord and impl.IsWord.
-/
import Derived.Test.YtgjbibkppofjfaaDoorText
import Derived.Test.YtgjbibkppofjfaaDoorMem
import Derived.Deep.LoopGhost
import Derived.Deep.QuietTactic
import Derived.BigQuiet
import Derived.RegionTactic
import Derived.BigRegion
import Derived.Laws.RangeAny
namespace Go.Proofs.YtgjbibkppofjfaaDoor
open Go.RowKit
set_option linter.unusedVariables false

namespace J
def letC (c : Int) : Bool := (decide (97 ≤ c) && decide (c ≤ 122)) || c == 95
def digC (c : Int) : Bool := decide (48 ≤ c) && decide (c ≤ 57)
/-- The byte at a place may stand there in a name. -/
def okC (k : Nat) (c : Int) : Bool := letC c || (k != 0 && digC c)
def okAt (s : ByteArray) (k : Nat) : Bool := if h : k < s.size then okC k (s[k].toNat : Int) else false
def nrunF : Nat → ByteArray → Nat → Nat
  | 0, _, k => k
  | f + 1, s, k => if okAt s k = true then nrunF f s (k + 1) else k
def nrun (s : ByteArray) (k : Nat) : Nat := nrunF (s.size - k) s k
theorem okAt_in {s : ByteArray} {k : Nat} (h : k < s.size) : okAt s k = okC k (s[k].toNat : Int) := by unfold okAt; rw [dif_pos h]
theorem nrun_end (s : ByteArray) (k : Nat) (h : s.size ≤ k) : nrun s k = k := by unfold nrun; rw [show s.size - k = 0 by omega]; rfl
theorem nrun_stop (s : ByteArray) (k : Nat) (h : k < s.size) (ho : okC k (s[k].toNat : Int) = false) : nrun s k = k := by
  unfold nrun
  rw [show s.size - k = (s.size - (k + 1)) + 1 by omega, nrunF, okAt_in h, ho]; rfl
theorem nrun_go (s : ByteArray) (k : Nat) (h : k < s.size) (ho : okC k (s[k].toNat : Int) = true) : nrun s k = nrun s (k + 1) := by
  unfold nrun
  rw [show s.size - k = (s.size - (k + 1)) + 1 by omega, nrunF, okAt_in h, ho, if_pos rfl]
theorem nrunF_le (f : Nat) (s : ByteArray) (k : Nat) : k ≤ nrunF f s k ∧ nrunF f s k ≤ k + f := by
  induction f generalizing k with
  | zero => exact ⟨Nat.le_refl _, Nat.le_refl _⟩
  | succ f ih =>
    rw [nrunF]
    split
    · have := ih (k + 1); omega
    · omega
theorem nrun_le (s : ByteArray) (k : Nat) (h : k ≤ s.size) : k ≤ nrun s k ∧ nrun s k ≤ s.size := by
  have := nrunF_le (s.size - k) s k
  unfold nrun
  omega
/-- A text is a name. -/
def isName (s : ByteArray) : Bool := decide (0 < nrun s 0) && (decide (nrun s 0 ≤ 12) && nrun s 0 == s.size)
theorem isName_long {s : ByteArray} (h : s.size < 1 ∨ 12 < s.size) : isName s = false := by
  unfold isName
  have := nrun_le s 0 (by omega)
  rw [Bool.and_eq_false_iff, Bool.and_eq_false_iff]
  by_cases e : nrun s 0 = s.size
  · rcases h with h | h
    · left; simp; omega
    · right; left; simp; omega
  · right; right; simp [e]
theorem isName_stop {s : ByteArray} {k : Nat} (h : k < s.size) (h1 : nrun s k = nrun s 0) (h2 : nrun s k = k) : isName s = false := by
  unfold isName
  rw [Bool.and_eq_false_iff, Bool.and_eq_false_iff]
  right; right
  rw [← h1, h2]; simp; omega
theorem isName_all {s : ByteArray} (h0 : 1 ≤ s.size) (h12 : s.size ≤ 12) (h1 : nrun s s.size = nrun s 0) : isName s = true := by
  rw [nrun_end s s.size (Nat.le_refl _)] at h1
  unfold isName
  rw [← h1]
  simp
  omega
end J

end Go.Proofs.YtgjbibkppofjfaaDoor

namespace Go.Proofs.YtgjbibkppofjfaaDoor
open Go.RowKit
set_option linter.unusedVariables false
set_option linter.unusedSimpArgs false

theorem letC_low {c : Int} (h : c < 97) (h2 : c ≠ 95) : J.letC c = false := by unfold J.letC; rw [Bool.or_eq_false_iff, Bool.and_eq_false_iff]; exact ⟨.inl (decide_eq_false (by omega)), by simpa using h2⟩
theorem letC_high {c : Int} (h : 122 < c) : J.letC c = false := by unfold J.letC; rw [Bool.or_eq_false_iff, Bool.and_eq_false_iff]; exact ⟨.inr (decide_eq_false (by omega)), by simp; omega⟩
theorem letC_in {c : Int} (h : 97 ≤ c) (h2 : c ≤ 122) : J.letC c = true := by unfold J.letC; rw [decide_eq_true h, decide_eq_true h2]; rfl
theorem letC_line : J.letC 95 = true := rfl
theorem digC_in {c : Int} (h : 48 ≤ c) (h2 : c ≤ 57) : J.digC c = true := by unfold J.digC; rw [decide_eq_true h, decide_eq_true h2]; rfl
theorem digC_low {c : Int} (h : c < 48) : J.digC c = false := by unfold J.digC; rw [Bool.and_eq_false_iff]; exact .inl (decide_eq_false (by omega))
theorem digC_high {c : Int} (h : 57 < c) : J.digC c = false := by unfold J.digC; rw [Bool.and_eq_false_iff]; exact .inr (decide_eq_false (by omega))
theorem okC_let {k : Nat} {c : Int} (h : J.letC c = true) : J.okC k c = true := by unfold J.okC; rw [h]; rfl
theorem okC_zero {c : Int} (h : J.letC c = false) : J.okC 0 c = false := by unfold J.okC; rw [h]; rfl
theorem okC_rest {k : Nat} {c : Int} (h : J.letC c = false) (hk : k ≠ 0) : J.okC k c = J.digC c := by unfold J.okC; rw [h]; simp [hk]

end Go.Proofs.YtgjbibkppofjfaaDoor

namespace Go.Proofs.YtgjbibkppofjfaaDoor
open Go.RowKit
set_option linter.unusedVariables false
set_option linter.unusedSimpArgs false

/-- A text is among others. -/
def oneOf (ss : List ByteArray) (s : ByteArray) : Bool := ss.any fun t => t.toList == s.toList
theorem oneOf_hit {ss : List ByteArray} {s : ByteArray} {k : Nat} (hk : k < ss.length) (h : ((ss.getD k ByteArray.empty).toList == s.toList) = true) : oneOf ss s = true := by
  unfold oneOf
  rw [List.any_eq_true]
  refine ⟨ss.getD k ByteArray.empty, ?_, h⟩
  rw [List.getD_eq_getElem?_getD, List.getElem?_eq_getElem hk]
  exact List.getElem_mem hk
theorem oneOf_none {ss : List ByteArray} {s : ByteArray} (h : ∀ k, k < ss.length → ((ss.getD k ByteArray.empty).toList == s.toList) = false) : oneOf ss s = false := by
  unfold oneOf
  rw [List.any_eq_false]
  intro p hp
  obtain ⟨k, hk, rfl⟩ := List.getElem_of_mem hp
  have := h k hk
  rw [List.getD_eq_getElem?_getD, List.getElem?_eq_getElem hk] at this
  simpa using this

def theWords : List ByteArray := [⟨#[105, 102]⟩, ⟨#[116, 104, 101, 110]⟩, ⟨#[101, 108, 105, 102]⟩, ⟨#[101, 108, 115, 101]⟩, ⟨#[101, 110, 100]⟩, ⟨#[97, 115]⟩, ⟨#[97, 110, 100]⟩, ⟨#[111, 114]⟩, ⟨#[114, 101, 100, 117, 99, 101]⟩, ⟨#[116, 114, 121]⟩, ⟨#[110, 117, 108, 108]⟩, ⟨#[116, 114, 117, 101]⟩, ⟨#[102, 97, 108, 115, 101]⟩]

theorem words_at (w : World) : ∀ k, k < theWords.length → (w.alloc (.cells (theWords.map Value.string).toArray 9)).cell? ⟨w.heap.size, k, none⟩ = some (.string (theWords.getD k ByteArray.empty)) := by
  intro k hk
  have ho : Own (w.alloc (.cells (theWords.map Value.string).toArray 9)) w.heap.size 9 (theWords.map Value.string) := ⟨_, heap_alloc_new _ _, by simp⟩
  rw [ho.cell k, List.getElem?_map, List.getElem?_eq_getElem hk, List.getD_eq_getElem?_getD, List.getElem?_eq_getElem hk]
  rfl

theorem word_0 : (theWords.getD 0 ByteArray.empty).toList = [105, 102] := by first | rfl | decide | simp [theWords] | simp [theWords, go_sem]
theorem word_1 : (theWords.getD 1 ByteArray.empty).toList = [116, 104, 101, 110] := by first | rfl | decide | simp [theWords] | simp [theWords, go_sem]
theorem word_2 : (theWords.getD 2 ByteArray.empty).toList = [101, 108, 105, 102] := by first | rfl | decide | simp [theWords] | simp [theWords, go_sem]
theorem word_3 : (theWords.getD 3 ByteArray.empty).toList = [101, 108, 115, 101] := by first | rfl | decide | simp [theWords] | simp [theWords, go_sem]
theorem word_4 : (theWords.getD 4 ByteArray.empty).toList = [101, 110, 100] := by first | rfl | decide | simp [theWords] | simp [theWords, go_sem]
theorem word_5 : (theWords.getD 5 ByteArray.empty).toList = [97, 115] := by first | rfl | decide | simp [theWords] | simp [theWords, go_sem]
theorem word_6 : (theWords.getD 6 ByteArray.empty).toList = [97, 110, 100] := by first | rfl | decide | simp [theWords] | simp [theWords, go_sem]
theorem word_7 : (theWords.getD 7 ByteArray.empty).toList = [111, 114] := by first | rfl | decide | simp [theWords] | simp [theWords, go_sem]
theorem word_8 : (theWords.getD 8 ByteArray.empty).toList = [114, 101, 100, 117, 99, 101] := by first | rfl | decide | simp [theWords] | simp [theWords, go_sem]
theorem word_9 : (theWords.getD 9 ByteArray.empty).toList = [116, 114, 121] := by first | rfl | decide | simp [theWords] | simp [theWords, go_sem]
theorem word_10 : (theWords.getD 10 ByteArray.empty).toList = [110, 117, 108, 108] := by first | rfl | decide | simp [theWords] | simp [theWords, go_sem]
theorem word_11 : (theWords.getD 11 ByteArray.empty).toList = [116, 114, 117, 101] := by first | rfl | decide | simp [theWords] | simp [theWords, go_sem]
theorem word_12 : (theWords.getD 12 ByteArray.empty).toList = [102, 97, 108, 115, 101] := by first | rfl | decide | simp [theWords] | simp [theWords, go_sem]

end Go.Proofs.YtgjbibkppofjfaaDoor
