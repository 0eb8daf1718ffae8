/-
  Words: spec.IsWord and impl.IsWord.
-/
import Derived.Test.YtokcefcjkjhnbaaNamM
import Derived.Test.YtokcefcjkjhnbaaMem
namespace Go.Proofs.Ytokcefcjkjhnbaa
open Go.RowKit
set_option linter.unusedVariables false
set_option linter.unusedSimpArgs false

/-- A text is among others. -/
def oneOf (ss : List ByteArray) (s : ByteArray) : Bool := ss.any fun t => t.toList == s.toList
theorem oneOf_hit {ss : List ByteArray} {s : ByteArray} {k : Nat} (hk : k < ss.length) (h : ((ss.getD k ByteArray.empty).toList == s.toList) = true) : oneOf ss s = true := by
  unfold oneOf
  rw [List.any_eq_true]
  refine ⟨ss.getD k ByteArray.empty, ?_, h⟩
  rw [List.getD_eq_getElem?_getD, List.getElem?_eq_getElem hk]
  exact List.getElem_mem hk
theorem oneOf_none {ss : List ByteArray} {s : ByteArray} (h : ∀ k, k < ss.length → ((ss.getD k ByteArray.empty).toList == s.toList) = false) : oneOf ss s = false := by
  unfold oneOf
  rw [List.any_eq_false]
  intro p hp
  obtain ⟨k, hk, rfl⟩ := List.getElem_of_mem hp
  have := h k hk
  rw [List.getD_eq_getElem?_getD, List.getElem?_eq_getElem hk] at this
  simpa using this

set_option maxHeartbeats 1000000 in
theorem l4Among_any (b n cap : Nat) (ss : List ByteArray) (s : ByteArray) (w : World) (hn : ss.length = n) (h4 : n ≤ 4096) (hc : ∀ k, k < ss.length → w.cell? ⟨b, k, none⟩ = some (.string (ss.getD k ByteArray.empty))) (hcap : n ≤ cap) :
    Calls Try.prog 42 #[.slice (some ⟨b, 0, none⟩) n cap, .string s] w fun e w' => e = .returned (.bool (oneOf ss s)) ∧ w' = w := by
  have HIT := hide (fun k hk h => oneOf_hit (ss := ss) (s := s) (k := k) hk h)
  have NON := hide (fun h => oneOf_none (ss := ss) (s := s) h)
  have HC := hide hc
  have HN := hide hn
  clear hc hn
  go_enter Try.func42, Try.ntmps42
  go_wp2_with fail
  go_loopg [5] n (fun gh s5 wr => ∃ k : Nat, Hid (gh = n - k) ∧ s5 = .int .i64 k ∧ k ≤ n ∧ Hid (∀ j, j < k → ((ss.getD j ByteArray.empty).toList == s.toList) = false) ∧ wr = w)
  case atStart => exact ⟨0, rfl, rfl, by omega, fun j hj => absurd hj (by omega), rfl⟩
  case round =>
    obtain ⟨k, hg, rfl, hk, hall, rfl⟩ := hrel
    by_cases hlt : k < n
    · have hlt2 : k < ss.length := by rw [unhide HN]; exact hlt
      have f := (unhide HC) k hlt2
      have hhit := hide ((unhide HIT) k hlt2)
      have hnext : Hid (((ss.getD k ByteArray.empty).toList == s.toList) = false → ∀ j, j < k + 1 → ((ss.getD j ByteArray.empty).toList == s.toList) = false) := fun h j hj => by
        by_cases e : j = k
        · subst e; exact h
        · exact hall.out j (by omega)
      clear hlt2
      generalize ss.getD k ByteArray.empty = t at f hhit hnext
      cases he : (t.toList == s.toList) with
      | true =>
        have fin := hide ((unhide hhit) he)
        clear hhit hnext
        go_wp2_with fail
        go_ret
        exact ⟨ret_bool (unhide fin).symm, rfl⟩
      | false =>
        have hn2 := hide (hnext.out he)
        clear hhit hnext
        go_wp2_with fail
        go_roundg (n - (k + 1))
        case rel => exact ⟨k + 1, rfl, by go_num, by omega, unhide hn2, rfl⟩
        case measure => have := hg.out; omega
    · have hke : k = n := by omega
      subst hke
      have fin := hide ((unhide NON) (by rw [unhide HN]; exact hall.out))
      go_wp2_with fail
      go_ret
      exact ⟨ret_bool (unhide fin).symm, rfl⟩

def theWords : List ByteArray := [⟨#[105, 102]⟩, ⟨#[116, 104, 101, 110]⟩, ⟨#[101, 108, 105, 102]⟩, ⟨#[101, 108, 115, 101]⟩, ⟨#[101, 110, 100]⟩, ⟨#[97, 115]⟩, ⟨#[97, 110, 100]⟩, ⟨#[111, 114]⟩, ⟨#[114, 101, 100, 117, 99, 101]⟩, ⟨#[116, 114, 121]⟩, ⟨#[110, 117, 108, 108]⟩, ⟨#[116, 114, 117, 101]⟩, ⟨#[102, 97, 108, 115, 101]⟩]

set_option maxHeartbeats 1000000 in
theorem l4Words_any (w : World) : Calls Try.prog 152 #[] w fun e w' => e = .returned (.slice (some ⟨w.heap.size, 0, none⟩) 13 13) ∧ w' = w.alloc (.cells (theWords.map Value.string).toArray 9) := by
  go_enter Try.func152, Try.ntmps152
  go_wp2_with fail
  go_ret
  exact ⟨rfl, rfl⟩
theorem words_at (w : World) : ∀ k, k < theWords.length → (w.alloc (.cells (theWords.map Value.string).toArray 9)).cell? ⟨w.heap.size, k, none⟩ = some (.string (theWords.getD k ByteArray.empty)) := by
  intro k hk
  have ho : Own (w.alloc (.cells (theWords.map Value.string).toArray 9)) w.heap.size 9 (theWords.map Value.string) := ⟨_, heap_alloc_new _ _, by simp⟩
  rw [ho.cell k, List.getElem?_map, List.getElem?_eq_getElem hk, List.getD_eq_getElem?_getD, List.getElem?_eq_getElem hk]
  rfl

set_option maxHeartbeats 1000000 in
theorem specIsWord_any (s : ByteArray) (w : World) : Calls Try.prog 120 #[.string s] w fun e w' => e = .returned (.bool (oneOf theWords s)) ∧ Below w.heap.size w w' := by
  have HA := hide (l4Among_any w.heap.size 13 13 theWords s _ rfl (by decide) (words_at w) (Nat.le_refl _))
  have HB : Hid (∀ o, Below w.heap.size w (w.alloc o)) := fun o => (Below.refl _ _).alloc (Nat.le_refl _) o
  go_enter Try.func120, Try.ntmps120
  go_wp2_with fail
  refine (l4Words_any _).mono ?_
  rintro e w1 ⟨rfl, hw1⟩
  rw [hw1]
  clear hw1
  generalize hx : (Obj.cells (theWords.map Value.string).toArray 9) = x at *
  clear hx
  go_wp2_with fail
  refine (unhide HA).mono ?_
  rintro e w2 ⟨rfl, rfl⟩
  go_wp2_with fail
  go_ret
  exact ⟨rfl, HB.out _⟩

theorem word_0 : (theWords.getD 0 ByteArray.empty).toList = [105, 102] := by first | rfl | decide | simp [theWords] | simp [theWords, go_sem]
theorem word_1 : (theWords.getD 1 ByteArray.empty).toList = [116, 104, 101, 110] := by first | rfl | decide | simp [theWords] | simp [theWords, go_sem]
theorem word_2 : (theWords.getD 2 ByteArray.empty).toList = [101, 108, 105, 102] := by first | rfl | decide | simp [theWords] | simp [theWords, go_sem]
theorem word_3 : (theWords.getD 3 ByteArray.empty).toList = [101, 108, 115, 101] := by first | rfl | decide | simp [theWords] | simp [theWords, go_sem]
theorem word_4 : (theWords.getD 4 ByteArray.empty).toList = [101, 110, 100] := by first | rfl | decide | simp [theWords] | simp [theWords, go_sem]
theorem word_5 : (theWords.getD 5 ByteArray.empty).toList = [97, 115] := by first | rfl | decide | simp [theWords] | simp [theWords, go_sem]
theorem word_6 : (theWords.getD 6 ByteArray.empty).toList = [97, 110, 100] := by first | rfl | decide | simp [theWords] | simp [theWords, go_sem]
theorem word_7 : (theWords.getD 7 ByteArray.empty).toList = [111, 114] := by first | rfl | decide | simp [theWords] | simp [theWords, go_sem]
theorem word_8 : (theWords.getD 8 ByteArray.empty).toList = [114, 101, 100, 117, 99, 101] := by first | rfl | decide | simp [theWords] | simp [theWords, go_sem]
theorem word_9 : (theWords.getD 9 ByteArray.empty).toList = [116, 114, 121] := by first | rfl | decide | simp [theWords] | simp [theWords, go_sem]
theorem word_10 : (theWords.getD 10 ByteArray.empty).toList = [110, 117, 108, 108] := by first | rfl | decide | simp [theWords] | simp [theWords, go_sem]
theorem word_11 : (theWords.getD 11 ByteArray.empty).toList = [116, 114, 117, 101] := by first | rfl | decide | simp [theWords] | simp [theWords, go_sem]
theorem word_12 : (theWords.getD 12 ByteArray.empty).toList = [102, 97, 108, 115, 101] := by first | rfl | decide | simp [theWords] | simp [theWords, go_sem]

set_option maxHeartbeats 4000000 in
theorem implIsWord_any (s : ByteArray) (w : World) : Calls Try.prog 154 #[.string s] w fun e w' => e = .returned (.bool (oneOf theWords s)) ∧ w' = w := by
  by_cases h0 : s.toList = [105, 102]
  · have fin := hide (oneOf_hit (ss := theWords) (s := s) (k := 0) (by decide) (by rw [word_0, h0]; exact beq_self_eq_true _))
    have g0 : (s.toList == [105, 102]) = true := by rw [h0]; exact beq_self_eq_true _
    clear h0
    go_enter Try.func154, Try.ntmps154
    go_wp2_with fail
    go_ret
    exact ⟨ret_bool (unhide fin).symm, rfl⟩
  by_cases h1 : s.toList = [116, 104, 101, 110]
  · have fin := hide (oneOf_hit (ss := theWords) (s := s) (k := 1) (by decide) (by rw [word_1, h1]; exact beq_self_eq_true _))
    have g0 : (s.toList == [105, 102]) = false := beq_eq_false_iff_ne.2 h0
    have g1 : (s.toList == [116, 104, 101, 110]) = true := by rw [h1]; exact beq_self_eq_true _
    clear h0 h1
    go_enter Try.func154, Try.ntmps154
    go_wp2_with fail
    go_ret
    exact ⟨ret_bool (unhide fin).symm, rfl⟩
  by_cases h2 : s.toList = [101, 108, 105, 102]
  · have fin := hide (oneOf_hit (ss := theWords) (s := s) (k := 2) (by decide) (by rw [word_2, h2]; exact beq_self_eq_true _))
    have g0 : (s.toList == [105, 102]) = false := beq_eq_false_iff_ne.2 h0
    have g1 : (s.toList == [116, 104, 101, 110]) = false := beq_eq_false_iff_ne.2 h1
    have g2 : (s.toList == [101, 108, 105, 102]) = true := by rw [h2]; exact beq_self_eq_true _
    clear h0 h1 h2
    go_enter Try.func154, Try.ntmps154
    go_wp2_with fail
    go_ret
    exact ⟨ret_bool (unhide fin).symm, rfl⟩
  by_cases h3 : s.toList = [101, 108, 115, 101]
  · have fin := hide (oneOf_hit (ss := theWords) (s := s) (k := 3) (by decide) (by rw [word_3, h3]; exact beq_self_eq_true _))
    have g0 : (s.toList == [105, 102]) = false := beq_eq_false_iff_ne.2 h0
    have g1 : (s.toList == [116, 104, 101, 110]) = false := beq_eq_false_iff_ne.2 h1
    have g2 : (s.toList == [101, 108, 105, 102]) = false := beq_eq_false_iff_ne.2 h2
    have g3 : (s.toList == [101, 108, 115, 101]) = true := by rw [h3]; exact beq_self_eq_true _
    clear h0 h1 h2 h3
    go_enter Try.func154, Try.ntmps154
    go_wp2_with fail
    go_ret
    exact ⟨ret_bool (unhide fin).symm, rfl⟩
  by_cases h4 : s.toList = [101, 110, 100]
  · have fin := hide (oneOf_hit (ss := theWords) (s := s) (k := 4) (by decide) (by rw [word_4, h4]; exact beq_self_eq_true _))
    have g0 : (s.toList == [105, 102]) = false := beq_eq_false_iff_ne.2 h0
    have g1 : (s.toList == [116, 104, 101, 110]) = false := beq_eq_false_iff_ne.2 h1
    have g2 : (s.toList == [101, 108, 105, 102]) = false := beq_eq_false_iff_ne.2 h2
    have g3 : (s.toList == [101, 108, 115, 101]) = false := beq_eq_false_iff_ne.2 h3
    have g4 : (s.toList == [101, 110, 100]) = true := by rw [h4]; exact beq_self_eq_true _
    clear h0 h1 h2 h3 h4
    go_enter Try.func154, Try.ntmps154
    go_wp2_with fail
    go_ret
    exact ⟨ret_bool (unhide fin).symm, rfl⟩
  by_cases h5 : s.toList = [97, 115]
  · have fin := hide (oneOf_hit (ss := theWords) (s := s) (k := 5) (by decide) (by rw [word_5, h5]; exact beq_self_eq_true _))
    have g0 : (s.toList == [105, 102]) = false := beq_eq_false_iff_ne.2 h0
    have g1 : (s.toList == [116, 104, 101, 110]) = false := beq_eq_false_iff_ne.2 h1
    have g2 : (s.toList == [101, 108, 105, 102]) = false := beq_eq_false_iff_ne.2 h2
    have g3 : (s.toList == [101, 108, 115, 101]) = false := beq_eq_false_iff_ne.2 h3
    have g4 : (s.toList == [101, 110, 100]) = false := beq_eq_false_iff_ne.2 h4
    have g5 : (s.toList == [97, 115]) = true := by rw [h5]; exact beq_self_eq_true _
    clear h0 h1 h2 h3 h4 h5
    go_enter Try.func154, Try.ntmps154
    go_wp2_with fail
    go_ret
    exact ⟨ret_bool (unhide fin).symm, rfl⟩
  by_cases h6 : s.toList = [97, 110, 100]
  · have fin := hide (oneOf_hit (ss := theWords) (s := s) (k := 6) (by decide) (by rw [word_6, h6]; exact beq_self_eq_true _))
    have g0 : (s.toList == [105, 102]) = false := beq_eq_false_iff_ne.2 h0
    have g1 : (s.toList == [116, 104, 101, 110]) = false := beq_eq_false_iff_ne.2 h1
    have g2 : (s.toList == [101, 108, 105, 102]) = false := beq_eq_false_iff_ne.2 h2
    have g3 : (s.toList == [101, 108, 115, 101]) = false := beq_eq_false_iff_ne.2 h3
    have g4 : (s.toList == [101, 110, 100]) = false := beq_eq_false_iff_ne.2 h4
    have g5 : (s.toList == [97, 115]) = false := beq_eq_false_iff_ne.2 h5
    have g6 : (s.toList == [97, 110, 100]) = true := by rw [h6]; exact beq_self_eq_true _
    clear h0 h1 h2 h3 h4 h5 h6
    go_enter Try.func154, Try.ntmps154
    go_wp2_with fail
    go_ret
    exact ⟨ret_bool (unhide fin).symm, rfl⟩
  by_cases h7 : s.toList = [111, 114]
  · have fin := hide (oneOf_hit (ss := theWords) (s := s) (k := 7) (by decide) (by rw [word_7, h7]; exact beq_self_eq_true _))
    have g0 : (s.toList == [105, 102]) = false := beq_eq_false_iff_ne.2 h0
    have g1 : (s.toList == [116, 104, 101, 110]) = false := beq_eq_false_iff_ne.2 h1
    have g2 : (s.toList == [101, 108, 105, 102]) = false := beq_eq_false_iff_ne.2 h2
    have g3 : (s.toList == [101, 108, 115, 101]) = false := beq_eq_false_iff_ne.2 h3
    have g4 : (s.toList == [101, 110, 100]) = false := beq_eq_false_iff_ne.2 h4
    have g5 : (s.toList == [97, 115]) = false := beq_eq_false_iff_ne.2 h5
    have g6 : (s.toList == [97, 110, 100]) = false := beq_eq_false_iff_ne.2 h6
    have g7 : (s.toList == [111, 114]) = true := by rw [h7]; exact beq_self_eq_true _
    clear h0 h1 h2 h3 h4 h5 h6 h7
    go_enter Try.func154, Try.ntmps154
    go_wp2_with fail
    go_ret
    exact ⟨ret_bool (unhide fin).symm, rfl⟩
  by_cases h8 : s.toList = [114, 101, 100, 117, 99, 101]
  · have fin := hide (oneOf_hit (ss := theWords) (s := s) (k := 8) (by decide) (by rw [word_8, h8]; exact beq_self_eq_true _))
    have g0 : (s.toList == [105, 102]) = false := beq_eq_false_iff_ne.2 h0
    have g1 : (s.toList == [116, 104, 101, 110]) = false := beq_eq_false_iff_ne.2 h1
    have g2 : (s.toList == [101, 108, 105, 102]) = false := beq_eq_false_iff_ne.2 h2
    have g3 : (s.toList == [101, 108, 115, 101]) = false := beq_eq_false_iff_ne.2 h3
    have g4 : (s.toList == [101, 110, 100]) = false := beq_eq_false_iff_ne.2 h4
    have g5 : (s.toList == [97, 115]) = false := beq_eq_false_iff_ne.2 h5
    have g6 : (s.toList == [97, 110, 100]) = false := beq_eq_false_iff_ne.2 h6
    have g7 : (s.toList == [111, 114]) = false := beq_eq_false_iff_ne.2 h7
    have g8 : (s.toList == [114, 101, 100, 117, 99, 101]) = true := by rw [h8]; exact beq_self_eq_true _
    clear h0 h1 h2 h3 h4 h5 h6 h7 h8
    go_enter Try.func154, Try.ntmps154
    go_wp2_with fail
    go_ret
    exact ⟨ret_bool (unhide fin).symm, rfl⟩
  by_cases h9 : s.toList = [116, 114, 121]
  · have fin := hide (oneOf_hit (ss := theWords) (s := s) (k := 9) (by decide) (by rw [word_9, h9]; exact beq_self_eq_true _))
    have g0 : (s.toList == [105, 102]) = false := beq_eq_false_iff_ne.2 h0
    have g1 : (s.toList == [116, 104, 101, 110]) = false := beq_eq_false_iff_ne.2 h1
    have g2 : (s.toList == [101, 108, 105, 102]) = false := beq_eq_false_iff_ne.2 h2
    have g3 : (s.toList == [101, 108, 115, 101]) = false := beq_eq_false_iff_ne.2 h3
    have g4 : (s.toList == [101, 110, 100]) = false := beq_eq_false_iff_ne.2 h4
    have g5 : (s.toList == [97, 115]) = false := beq_eq_false_iff_ne.2 h5
    have g6 : (s.toList == [97, 110, 100]) = false := beq_eq_false_iff_ne.2 h6
    have g7 : (s.toList == [111, 114]) = false := beq_eq_false_iff_ne.2 h7
    have g8 : (s.toList == [114, 101, 100, 117, 99, 101]) = false := beq_eq_false_iff_ne.2 h8
    have g9 : (s.toList == [116, 114, 121]) = true := by rw [h9]; exact beq_self_eq_true _
    clear h0 h1 h2 h3 h4 h5 h6 h7 h8 h9
    go_enter Try.func154, Try.ntmps154
    go_wp2_with fail
    go_ret
    exact ⟨ret_bool (unhide fin).symm, rfl⟩
  by_cases h10 : s.toList = [110, 117, 108, 108]
  · have fin := hide (oneOf_hit (ss := theWords) (s := s) (k := 10) (by decide) (by rw [word_10, h10]; exact beq_self_eq_true _))
    have g0 : (s.toList == [105, 102]) = false := beq_eq_false_iff_ne.2 h0
    have g1 : (s.toList == [116, 104, 101, 110]) = false := beq_eq_false_iff_ne.2 h1
    have g2 : (s.toList == [101, 108, 105, 102]) = false := beq_eq_false_iff_ne.2 h2
    have g3 : (s.toList == [101, 108, 115, 101]) = false := beq_eq_false_iff_ne.2 h3
    have g4 : (s.toList == [101, 110, 100]) = false := beq_eq_false_iff_ne.2 h4
    have g5 : (s.toList == [97, 115]) = false := beq_eq_false_iff_ne.2 h5
    have g6 : (s.toList == [97, 110, 100]) = false := beq_eq_false_iff_ne.2 h6
    have g7 : (s.toList == [111, 114]) = false := beq_eq_false_iff_ne.2 h7
    have g8 : (s.toList == [114, 101, 100, 117, 99, 101]) = false := beq_eq_false_iff_ne.2 h8
    have g9 : (s.toList == [116, 114, 121]) = false := beq_eq_false_iff_ne.2 h9
    have g10 : (s.toList == [110, 117, 108, 108]) = true := by rw [h10]; exact beq_self_eq_true _
    clear h0 h1 h2 h3 h4 h5 h6 h7 h8 h9 h10
    go_enter Try.func154, Try.ntmps154
    go_wp2_with fail
    go_ret
    exact ⟨ret_bool (unhide fin).symm, rfl⟩
  by_cases h11 : s.toList = [116, 114, 117, 101]
  · have fin := hide (oneOf_hit (ss := theWords) (s := s) (k := 11) (by decide) (by rw [word_11, h11]; exact beq_self_eq_true _))
    have g0 : (s.toList == [105, 102]) = false := beq_eq_false_iff_ne.2 h0
    have g1 : (s.toList == [116, 104, 101, 110]) = false := beq_eq_false_iff_ne.2 h1
    have g2 : (s.toList == [101, 108, 105, 102]) = false := beq_eq_false_iff_ne.2 h2
    have g3 : (s.toList == [101, 108, 115, 101]) = false := beq_eq_false_iff_ne.2 h3
    have g4 : (s.toList == [101, 110, 100]) = false := beq_eq_false_iff_ne.2 h4
    have g5 : (s.toList == [97, 115]) = false := beq_eq_false_iff_ne.2 h5
    have g6 : (s.toList == [97, 110, 100]) = false := beq_eq_false_iff_ne.2 h6
    have g7 : (s.toList == [111, 114]) = false := beq_eq_false_iff_ne.2 h7
    have g8 : (s.toList == [114, 101, 100, 117, 99, 101]) = false := beq_eq_false_iff_ne.2 h8
    have g9 : (s.toList == [116, 114, 121]) = false := beq_eq_false_iff_ne.2 h9
    have g10 : (s.toList == [110, 117, 108, 108]) = false := beq_eq_false_iff_ne.2 h10
    have g11 : (s.toList == [116, 114, 117, 101]) = true := by rw [h11]; exact beq_self_eq_true _
    clear h0 h1 h2 h3 h4 h5 h6 h7 h8 h9 h10 h11
    go_enter Try.func154, Try.ntmps154
    go_wp2_with fail
    go_ret
    exact ⟨ret_bool (unhide fin).symm, rfl⟩
  by_cases h12 : s.toList = [102, 97, 108, 115, 101]
  · have fin := hide (oneOf_hit (ss := theWords) (s := s) (k := 12) (by decide) (by rw [word_12, h12]; exact beq_self_eq_true _))
    have g0 : (s.toList == [105, 102]) = false := beq_eq_false_iff_ne.2 h0
    have g1 : (s.toList == [116, 104, 101, 110]) = false := beq_eq_false_iff_ne.2 h1
    have g2 : (s.toList == [101, 108, 105, 102]) = false := beq_eq_false_iff_ne.2 h2
    have g3 : (s.toList == [101, 108, 115, 101]) = false := beq_eq_false_iff_ne.2 h3
    have g4 : (s.toList == [101, 110, 100]) = false := beq_eq_false_iff_ne.2 h4
    have g5 : (s.toList == [97, 115]) = false := beq_eq_false_iff_ne.2 h5
    have g6 : (s.toList == [97, 110, 100]) = false := beq_eq_false_iff_ne.2 h6
    have g7 : (s.toList == [111, 114]) = false := beq_eq_false_iff_ne.2 h7
    have g8 : (s.toList == [114, 101, 100, 117, 99, 101]) = false := beq_eq_false_iff_ne.2 h8
    have g9 : (s.toList == [116, 114, 121]) = false := beq_eq_false_iff_ne.2 h9
    have g10 : (s.toList == [110, 117, 108, 108]) = false := beq_eq_false_iff_ne.2 h10
    have g11 : (s.toList == [116, 114, 117, 101]) = false := beq_eq_false_iff_ne.2 h11
    have g12 : (s.toList == [102, 97, 108, 115, 101]) = true := by rw [h12]; exact beq_self_eq_true _
    clear h0 h1 h2 h3 h4 h5 h6 h7 h8 h9 h10 h11 h12
    go_enter Try.func154, Try.ntmps154
    go_wp2_with fail
    go_ret
    exact ⟨ret_bool (unhide fin).symm, rfl⟩
  have g0 : (s.toList == [105, 102]) = false := beq_eq_false_iff_ne.2 h0
  have g1 : (s.toList == [116, 104, 101, 110]) = false := beq_eq_false_iff_ne.2 h1
  have g2 : (s.toList == [101, 108, 105, 102]) = false := beq_eq_false_iff_ne.2 h2
  have g3 : (s.toList == [101, 108, 115, 101]) = false := beq_eq_false_iff_ne.2 h3
  have g4 : (s.toList == [101, 110, 100]) = false := beq_eq_false_iff_ne.2 h4
  have g5 : (s.toList == [97, 115]) = false := beq_eq_false_iff_ne.2 h5
  have g6 : (s.toList == [97, 110, 100]) = false := beq_eq_false_iff_ne.2 h6
  have g7 : (s.toList == [111, 114]) = false := beq_eq_false_iff_ne.2 h7
  have g8 : (s.toList == [114, 101, 100, 117, 99, 101]) = false := beq_eq_false_iff_ne.2 h8
  have g9 : (s.toList == [116, 114, 121]) = false := beq_eq_false_iff_ne.2 h9
  have g10 : (s.toList == [110, 117, 108, 108]) = false := beq_eq_false_iff_ne.2 h10
  have g11 : (s.toList == [116, 114, 117, 101]) = false := beq_eq_false_iff_ne.2 h11
  have g12 : (s.toList == [102, 97, 108, 115, 101]) = false := beq_eq_false_iff_ne.2 h12
  have fin : Hid (oneOf theWords s = false) := by
    refine oneOf_none fun k hk => ?_
    match k, hk with
    | 0, _ => rw [word_0]; exact beq_eq_false_iff_ne.2 (fun e => h0 e.symm)
    | 1, _ => rw [word_1]; exact beq_eq_false_iff_ne.2 (fun e => h1 e.symm)
    | 2, _ => rw [word_2]; exact beq_eq_false_iff_ne.2 (fun e => h2 e.symm)
    | 3, _ => rw [word_3]; exact beq_eq_false_iff_ne.2 (fun e => h3 e.symm)
    | 4, _ => rw [word_4]; exact beq_eq_false_iff_ne.2 (fun e => h4 e.symm)
    | 5, _ => rw [word_5]; exact beq_eq_false_iff_ne.2 (fun e => h5 e.symm)
    | 6, _ => rw [word_6]; exact beq_eq_false_iff_ne.2 (fun e => h6 e.symm)
    | 7, _ => rw [word_7]; exact beq_eq_false_iff_ne.2 (fun e => h7 e.symm)
    | 8, _ => rw [word_8]; exact beq_eq_false_iff_ne.2 (fun e => h8 e.symm)
    | 9, _ => rw [word_9]; exact beq_eq_false_iff_ne.2 (fun e => h9 e.symm)
    | 10, _ => rw [word_10]; exact beq_eq_false_iff_ne.2 (fun e => h10 e.symm)
    | 11, _ => rw [word_11]; exact beq_eq_false_iff_ne.2 (fun e => h11 e.symm)
    | 12, _ => rw [word_12]; exact beq_eq_false_iff_ne.2 (fun e => h12 e.symm)
    | k + 13, h => exact absurd h (by show ¬ k + 13 < 13; omega)
  clear h0 h1 h2 h3 h4 h5 h6 h7 h8 h9 h10 h11 h12
  go_enter Try.func154, Try.ntmps154
  go_wp2_with fail
  go_ret
  exact ⟨ret_bool (unhide fin).symm, rfl⟩

end Go.Proofs.Ytokcefcjkjhnbaa
