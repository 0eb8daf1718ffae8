/-
  A string read out of a text, byte by byte: plain functions. No word of the program is used here.
-/
import Derived.Test.YtikeffckhklhbaaGreatDoorX02
namespace Go.Proofs.YtikeffckhklhbaaGreatDoor
open Go.RowKit
set_option linter.unusedVariables false
namespace J
/-- The value of a hex digit; -1: it is none. -/
def hexI (c : Int) : Int := if 48 ≤ c ∧ c ≤ 57 then c - 48 else if 97 ≤ c ∧ c ≤ 102 then c - 87 else if 65 ≤ c ∧ c ≤ 70 then c - 55 else -1
theorem hexI_bd (c : Int) : -1 ≤ hexI c ∧ hexI c ≤ 15 := by unfold hexI; repeat' split; all_goals omega
theorem hexI_in (s : ByteArray) (k : Nat) (h : 0 ≤ hexI (peek s k)) : k < s.size := by
  by_cases hk : k < s.size
  · exact hk
  · rw [peek_out s k hk] at h; simp [hexI] at h
/-- A word, byte by byte: where it ends, or where the text is another. -/
def wordR (s : ByteArray) : Nat → List UInt8 → Nat ⊕ Nat
  | k, [] => .inr k
  | k, c :: r => if peek s k = (c.toNat : Int) then wordR s (k + 1) r else .inl k
/-- What stands behind a backslash (k: the place behind it): a code and a place, or a byte and where it ends. -/
def escR (s : ByteArray) (k : Nat) : (Int × Nat) ⊕ (Int × Nat) :=
  if peek s k = 34 ∨ peek s k = 92 ∨ peek s k = 47 then .inr (peek s k, k + 1)
  else if peek s k ≠ 117 then .inl (5, k)
  else if peek s (k + 1) ≠ 48 then .inl (5, k + 1)
  else if peek s (k + 2) ≠ 48 then .inl (5, k + 2)
  else if hexI (peek s (k + 3)) < 0 then .inl (5, k + 3)
  else if hexI (peek s (k + 4)) < 0 then .inl (5, k + 4)
  else if 16 * hexI (peek s (k + 3)) + hexI (peek s (k + 4)) < 32 ∨ 126 < 16 * hexI (peek s (k + 3)) + hexI (peek s (k + 4)) then .inl (5, k + 3)
  else .inr (16 * hexI (peek s (k + 3)) + hexI (peek s (k + 4)), k + 5)
/-- One byte of a string. -/
def sbR (s : ByteArray) (k : Nat) : (Int × Nat) ⊕ (Int × Nat) :=
  if peek s k = 92 then escR s (k + 1) else if peek s k < 32 ∨ 126 < peek s k then .inl (5, k) else .inr (peek s k, k + 1)
theorem wordR_yes {s : ByteArray} {k : Nat} {c : UInt8} {r : List UInt8} (h : peek s k = (c.toNat : Int)) : wordR s k (c :: r) = wordR s (k + 1) r := by rw [wordR, if_pos h]
theorem wordR_not {s : ByteArray} {k : Nat} {c : UInt8} {r : List UInt8} (h : peek s k ≠ (c.toNat : Int)) : wordR s k (c :: r) = .inl k := by rw [wordR, if_neg h]
theorem wordR_u00 (s : ByteArray) (k : Nat) : wordR s k [117, 48, 48] = if peek s k ≠ 117 then .inl k else if peek s (k + 1) ≠ 48 then .inl (k + 1) else if peek s (k + 2) ≠ 48 then .inl (k + 2) else .inr (k + 3) := by
  rw [wordR]
  by_cases h1 : peek s k = 117
  · rw [if_pos (by exact h1), if_neg (by simpa using h1), wordR]
    by_cases h2 : peek s (k + 1) = 48
    · rw [if_pos (by exact h2), if_neg (by simpa using h2), wordR]
      by_cases h3 : peek s (k + 1 + 1) = 48
      · rw [if_pos (by exact h3), if_neg (by simpa using h3), wordR]
      · rw [if_neg (by exact h3), if_pos (by simpa using h3)]
    · rw [if_neg (by exact h2), if_pos (by simpa using h2)]
  · rw [if_neg (by exact h1), if_pos (by simpa using h1)]
theorem escR_plain {s : ByteArray} {k : Nat} (h : peek s k = 34 ∨ peek s k = 92 ∨ peek s k = 47) : escR s k = .inr (peek s k, k + 1) := by unfold escR; rw [if_pos h]
theorem escR_word {s : ByteArray} {k m : Nat} (h : ¬ (peek s k = 34 ∨ peek s k = 92 ∨ peek s k = 47)) (hw : wordR s k [117, 48, 48] = .inl m) : escR s k = .inl (5, m) := by
  rw [wordR_u00] at hw
  unfold escR
  rw [if_neg h]
  split at hw
  · rename_i h1; rw [if_pos h1]; simp only [Sum.inl.injEq] at hw; rw [hw]
  rename_i h1; rw [if_neg h1]
  split at hw
  · rename_i h2; rw [if_pos h2]; simp only [Sum.inl.injEq] at hw; rw [hw]
  rename_i h2; rw [if_neg h2]
  split at hw
  · rename_i h3; rw [if_pos h3]; simp only [Sum.inl.injEq] at hw; rw [hw]
  · cases hw
theorem escR_u {s : ByteArray} {k m : Nat} (h : ¬ (peek s k = 34 ∨ peek s k = 92 ∨ peek s k = 47)) (hw : wordR s k [117, 48, 48] = .inr m) : m = k + 3 ∧ escR s k = (if hexI (peek s (k + 3)) < 0 then .inl (5, k + 3)
  else if hexI (peek s (k + 4)) < 0 then .inl (5, k + 4)
  else if 16 * hexI (peek s (k + 3)) + hexI (peek s (k + 4)) < 32 ∨ 126 < 16 * hexI (peek s (k + 3)) + hexI (peek s (k + 4)) then .inl (5, k + 3)
  else .inr (16 * hexI (peek s (k + 3)) + hexI (peek s (k + 4)), k + 5)) := by
  rw [wordR_u00] at hw
  unfold escR
  rw [if_neg h]
  split at hw
  · cases hw
  rename_i h1; rw [if_neg h1]
  split at hw
  · cases hw
  rename_i h2; rw [if_neg h2]
  split at hw
  · cases hw
  rename_i h3; rw [if_neg h3]
  simp only [Sum.inr.injEq] at hw
  exact ⟨hw.symm, rfl⟩
theorem escR_ok {s : ByteArray} {k : Nat} (hk : k ≤ s.size) {c : Int} {e : Nat} (h : escR s k = .inr (c, e)) : 32 ≤ c ∧ c ≤ 126 ∧ k < e ∧ e ≤ s.size := by
  unfold escR at h
  split at h
  · rename_i h1
    simp only [Sum.inr.injEq, Prod.mk.injEq] at h
    obtain ⟨rfl, rfl⟩ := h
    have : k < s.size := by
      by_cases hk : k < s.size
      · exact hk
      · rw [peek_out s k hk] at h1; omega
    omega
  repeat (split at h; · cases h)
  rename_i h1 h2 h3 h4 h5 h6 h7
  simp only [Sum.inr.injEq, Prod.mk.injEq] at h
  obtain ⟨rfl, rfl⟩ := h
  have := hexI_in s (k + 4) (by omega)
  omega
theorem escR_no {s : ByteArray} {k : Nat} (hk : k ≤ s.size) {c : Int} {e : Nat} (h : escR s k = .inl (c, e)) : c = 5 ∧ k ≤ e ∧ e ≤ s.size := by
  have g : ∀ j : Nat, ∀ x : Int, 0 < x → peek s j = x → j + 1 ≤ s.size := fun j x hx hj => by have := peek_lt s j x hx hj; omega
  have q : ∀ j : Nat, 0 ≤ hexI (peek s j) → j + 1 ≤ s.size := fun j hj => by have := hexI_in s j hj; omega
  unfold escR at h
  split at h
  · cases h
  split at h
  · simp only [Sum.inl.injEq, Prod.mk.injEq] at h; omega
  rename_i h2
  have a1 := g k 117 (by decide) (by omega)
  split at h
  · simp only [Sum.inl.injEq, Prod.mk.injEq] at h; omega
  rename_i h3
  have a2 := g (k + 1) 48 (by decide) (by omega)
  split at h
  · simp only [Sum.inl.injEq, Prod.mk.injEq] at h; omega
  rename_i h4
  have a3 := g (k + 2) 48 (by decide) (by omega)
  split at h
  · simp only [Sum.inl.injEq, Prod.mk.injEq] at h; omega
  rename_i h5
  have a4 := q (k + 3) (by omega)
  split at h
  · simp only [Sum.inl.injEq, Prod.mk.injEq] at h; omega
  split at h
  · simp only [Sum.inl.injEq, Prod.mk.injEq] at h; omega
  · cases h
theorem sbR_ok {s : ByteArray} {k : Nat} (hk : k ≤ s.size) {c : Int} {e : Nat} (h : sbR s k = .inr (c, e)) : 32 ≤ c ∧ c ≤ 126 ∧ k < e ∧ e ≤ s.size := by
  unfold sbR at h
  split at h
  · rename_i h1
    have := peek_lt s k 92 (by decide) h1
    have := escR_ok (by omega) h
    omega
  split at h
  · cases h
  · rename_i h1 h2
    simp only [Sum.inr.injEq, Prod.mk.injEq] at h
    obtain ⟨rfl, rfl⟩ := h
    have := peek_lt s k (peek s k) (by omega) rfl
    omega
theorem sbR_no {s : ByteArray} {k : Nat} (hk : k ≤ s.size) {c : Int} {e : Nat} (h : sbR s k = .inl (c, e)) : c = 5 ∧ k ≤ e ∧ e ≤ s.size := by
  unfold sbR at h
  split at h
  · rename_i h1
    have := peek_lt s k 92 (by decide) h1
    have := escR_no (by omega) h
    omega
  split at h
  · simp only [Sum.inl.injEq, Prod.mk.injEq] at h; omega
  · cases h
/-- The bytes of a string up to its last quote, by fuel. -/
def qF (s : ByteArray) : Nat → Nat → List UInt8 → (Int × Nat) ⊕ (List UInt8 × Nat)
  | 0, i, _ => .inl (5, i)
  | f + 1, i, acc => if peek s i = 34 then .inr (acc, i + 1) else match sbR s i with
    | .inl e => .inl e
    | .inr (b, e) => qF s f e (acc ++ [UInt8.ofNat b.toNat])
/-- A string in quotes at a place. -/
def quotR (s : ByteArray) (k : Nat) : (Int × Nat) ⊕ (List UInt8 × Nat) :=
  if peek s k ≠ 34 then .inl (5, k) else match qF s (s.size + 1) (k + 1) [] with
    | .inl e => .inl e
    | .inr (l, e) => if 60 < l.length then .inl (2, k) else .inr (l, e)
theorem quotR_no {s : ByteArray} {k : Nat} (hp : peek s k ≠ 34) : quotR s k = .inl (5, k) := by unfold quotR; rw [if_pos hp]
theorem quotR_bad {s : ByteArray} {k : Nat} (hp : peek s k = 34) {p : Int × Nat} (h : qF s (s.size + 1) (k + 1) [] = .inl p) : quotR s k = .inl p := by unfold quotR; rw [if_neg (by simpa using hp), h]
theorem quotR_big {s : ByteArray} {k : Nat} (hp : peek s k = 34) {l : List UInt8} {e : Nat} (h : qF s (s.size + 1) (k + 1) [] = .inr (l, e)) (hb : 60 < l.length) : quotR s k = .inl (2, k) := by unfold quotR; rw [if_neg (by simpa using hp), h]; simp only; rw [if_pos hb]
theorem quotR_ok {s : ByteArray} {k : Nat} (hp : peek s k = 34) {l : List UInt8} {e : Nat} (h : qF s (s.size + 1) (k + 1) [] = .inr (l, e)) (hb : ¬ 60 < l.length) : quotR s k = .inr (l, e) := by unfold quotR; rw [if_neg (by simpa using hp), h]; simp only; rw [if_neg hb]
/-- The fuel does not matter where it suffices. -/
theorem qF_fuel (s : ByteArray) : ∀ f g i acc, i ≤ s.size → s.size < i + f → s.size < i + g → qF s f i acc = qF s g i acc := by
  intro f
  induction f with
  | zero => intro g i acc h1 h2; omega
  | succ f ih =>
    intro g i acc h1 h2 h3
    cases g with
    | zero => omega
    | succ g =>
      rw [qF, qF]
      split
      · rfl
      cases hs : sbR s i with
      | inl e => rfl
      | inr p =>
        obtain ⟨b, e⟩ := p
        have := sbR_ok h1 hs
        exact ih g e _ (by omega) (by omega) (by omega)
theorem qF_end {s : ByteArray} {i : Nat} (hi : i ≤ s.size) (acc : List UInt8) (h : peek s i = 34) : qF s (s.size + 1 - i) i acc = .inr (acc, i + 1) := by
  have e : s.size + 1 - i = (s.size - i) + 1 := by omega
  rw [e, qF, if_pos h]
theorem qF_bad {s : ByteArray} {i : Nat} (hi : i ≤ s.size) (acc : List UInt8) (h : peek s i ≠ 34) {p : Int × Nat} (hs : sbR s i = .inl p) : qF s (s.size + 1 - i) i acc = .inl p := by
  have e : s.size + 1 - i = (s.size - i) + 1 := by omega
  rw [e, qF, if_neg h, hs]
theorem qF_next {s : ByteArray} {i : Nat} (hi : i ≤ s.size) (acc : List UInt8) (h : peek s i ≠ 34) {c : Int} {j : Nat} (hs : sbR s i = .inr (c, j)) : qF s (s.size + 1 - i) i acc = qF s (s.size + 1 - j) j (acc ++ [UInt8.ofNat c.toNat]) := by
  have e : s.size + 1 - i = (s.size - i) + 1 := by omega
  have hj := sbR_ok hi hs
  rw [e, qF, if_neg h, hs]
  exact qF_fuel s _ _ j _ (by omega) (by omega) (by omega)
end J

end Go.Proofs.YtikeffckhklhbaaGreatDoor
