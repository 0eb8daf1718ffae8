/-
  Words: spec.IsWord and impl.IsWord.
-/
import Derived.Test.YtkjmnkbiflkpdaaNamM
import Derived.Test.YtkjmnkbiflkpdaaMem
namespace Go.Proofs.Ytkjmnkbiflkpdaa
open Go.RowKit
set_option linter.unusedVariables false
set_option linter.unusedSimpArgs false

/-- A text is among others. -/
def oneOf (ss : List ByteArray) (s : ByteArray) : Bool := ss.any fun t => t.toList == s.toList
theorem oneOf_hit {ss : List ByteArray} {s : ByteArray} {k : Nat} (hk : k < ss.length) (h : ((ss.getD k ByteArray.empty).toList == s.toList) = true) : oneOf ss s = true := by
  unfold oneOf
  rw [List.any_eq_true]
  refine ⟨ss.getD k ByteArray.empty, ?_, h⟩
  rw [List.getD_eq_getElem?_getD, List.getElem?_eq_getElem hk]
  exact List.getElem_mem hk
theorem oneOf_none {ss : List ByteArray} {s : ByteArray} (h : ∀ k, k < ss.length → ((ss.getD k ByteArray.empty).toList == s.toList) = false) : oneOf ss s = false := by
  unfold oneOf
  rw [List.any_eq_false]
  intro p hp
  obtain ⟨k, hk, rfl⟩ := List.getElem_of_mem hp
  have := h k hk
  rw [List.getD_eq_getElem?_getD, List.getElem?_eq_getElem hk] at this
  simpa using this

def theWords : List ByteArray := [⟨#[105, 102]⟩, ⟨#[116, 104, 101, 110]⟩, ⟨#[101, 108, 105, 102]⟩, ⟨#[101, 108, 115, 101]⟩, ⟨#[101, 110, 100]⟩, ⟨#[97, 115]⟩, ⟨#[97, 110, 100]⟩, ⟨#[111, 114]⟩, ⟨#[114, 101, 100, 117, 99, 101]⟩, ⟨#[116, 114, 121]⟩, ⟨#[110, 117, 108, 108]⟩, ⟨#[116, 114, 117, 101]⟩, ⟨#[102, 97, 108, 115, 101]⟩]

theorem words_at (w : World) : ∀ k, k < theWords.length → (w.alloc (.cells (theWords.map Value.string).toArray 9)).cell? ⟨w.heap.size, k, none⟩ = some (.string (theWords.getD k ByteArray.empty)) := by
  intro k hk
  have ho : Own (w.alloc (.cells (theWords.map Value.string).toArray 9)) w.heap.size 9 (theWords.map Value.string) := ⟨_, heap_alloc_new _ _, by simp⟩
  rw [ho.cell k, List.getElem?_map, List.getElem?_eq_getElem hk, List.getD_eq_getElem?_getD, List.getElem?_eq_getElem hk]
  rfl

theorem word_0 : (theWords.getD 0 ByteArray.empty).toList = [105, 102] := by first | rfl | decide | simp [theWords] | simp [theWords, go_sem]
theorem word_1 : (theWords.getD 1 ByteArray.empty).toList = [116, 104, 101, 110] := by first | rfl | decide | simp [theWords] | simp [theWords, go_sem]
theorem word_2 : (theWords.getD 2 ByteArray.empty).toList = [101, 108, 105, 102] := by first | rfl | decide | simp [theWords] | simp [theWords, go_sem]
theorem word_3 : (theWords.getD 3 ByteArray.empty).toList = [101, 108, 115, 101] := by first | rfl | decide | simp [theWords] | simp [theWords, go_sem]
theorem word_4 : (theWords.getD 4 ByteArray.empty).toList = [101, 110, 100] := by first | rfl | decide | simp [theWords] | simp [theWords, go_sem]
theorem word_5 : (theWords.getD 5 ByteArray.empty).toList = [97, 115] := by first | rfl | decide | simp [theWords] | simp [theWords, go_sem]
theorem word_6 : (theWords.getD 6 ByteArray.empty).toList = [97, 110, 100] := by first | rfl | decide | simp [theWords] | simp [theWords, go_sem]
theorem word_7 : (theWords.getD 7 ByteArray.empty).toList = [111, 114] := by first | rfl | decide | simp [theWords] | simp [theWords, go_sem]
theorem word_8 : (theWords.getD 8 ByteArray.empty).toList = [114, 101, 100, 117, 99, 101] := by first | rfl | decide | simp [theWords] | simp [theWords, go_sem]
theorem word_9 : (theWords.getD 9 ByteArray.empty).toList = [116, 114, 121] := by first | rfl | decide | simp [theWords] | simp [theWords, go_sem]
theorem word_10 : (theWords.getD 10 ByteArray.empty).toList = [110, 117, 108, 108] := by first | rfl | decide | simp [theWords] | simp [theWords, go_sem]
theorem word_11 : (theWords.getD 11 ByteArray.empty).toList = [116, 114, 117, 101] := by first | rfl | decide | simp [theWords] | simp [theWords, go_sem]
theorem word_12 : (theWords.getD 12 ByteArray.empty).toList = [102, 97, 108, 115, 101] := by first | rfl | decide | simp [theWords] | simp [theWords, go_sem]

end Go.Proofs.Ytkjmnkbiflkpdaa
