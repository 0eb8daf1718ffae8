/-
  One cell's code: impl.cellFault and spec.l1Cell both return the plain function M.cellCode of the cell, and write nothing that was there.
-/
import Derived.Test.YtlmibdddfjbbdaaM01
import Derived.Deep.RegionWith
namespace Go.Proofs.Ytlmibdddfjbbdaa
open Go.RowKit
set_option linter.unusedVariables false

theorem code_low (kind num n : Int) (text key : ByteArray) (h0 : kind < 0) : M.cellCode ⟨kind, num, text, key, n⟩ = 6 := by
  simp only [M.cellCode]
  rw [if_pos (by omega)]

theorem code_high (kind num n : Int) (text key : ByteArray) (h0 : 6 < kind) : M.cellCode ⟨kind, num, text, key, n⟩ = 6 := by
  simp only [M.cellCode]
  rw [if_pos (by omega)]

theorem code_numA (kind num n : Int) (text key : ByteArray) (h0 : 0 ≤ kind) (h1 : kind ≤ 6) (h2 : num ≠ 0) (h3 : kind ≠ 3) : M.cellCode ⟨kind, num, text, key, n⟩ = 1 := by
  simp only [M.cellCode]
  rw [if_neg (by omega)]
  rw [if_pos (Or.inl ⟨by omega, by omega⟩)]

theorem code_txtA (kind num n : Int) (text key : ByteArray) (h0 : 0 ≤ kind) (h1 : kind ≤ 6) (h2 : num = 0) (h3 : text.toList ≠ []) (h4 : kind ≠ 4) : M.cellCode ⟨kind, num, text, key, n⟩ = 1 := by
  simp only [M.cellCode]
  rw [if_neg (by omega)]
  rw [if_pos (Or.inr (Or.inl ⟨h3, by omega⟩))]

theorem code_txtB (kind num n : Int) (text key : ByteArray) (h0 : kind = 3) (h1 : num ≠ 0) (h2 : text.toList ≠ []) : M.cellCode ⟨kind, num, text, key, n⟩ = 1 := by
  simp only [M.cellCode]
  rw [if_neg (by omega)]
  rw [if_pos (Or.inr (Or.inl ⟨h2, by omega⟩))]

theorem code_nA (kind num n : Int) (text key : ByteArray) (h0 : 0 ≤ kind) (h1 : kind ≤ 4) (h2 : num = 0) (h3 : text.toList = []) (h4 : n ≠ 0) : M.cellCode ⟨kind, num, text, key, n⟩ = 1 := by
  simp only [M.cellCode]
  rw [if_neg (by omega)]
  rw [if_pos (Or.inr (Or.inr ⟨by omega, by omega, by omega⟩))]

theorem code_nB (kind num n : Int) (text key : ByteArray) (h0 : kind = 3) (h1 : num ≠ 0) (h2 : text.toList = []) (h3 : n ≠ 0) : M.cellCode ⟨kind, num, text, key, n⟩ = 1 := by
  simp only [M.cellCode]
  rw [if_neg (by omega)]
  rw [if_pos (Or.inr (Or.inr ⟨by omega, by omega, by omega⟩))]

theorem code_nC (kind num n : Int) (text key : ByteArray) (h0 : kind = 4) (h1 : num = 0) (h2 : text.toList ≠ []) (h3 : n ≠ 0) : M.cellCode ⟨kind, num, text, key, n⟩ = 1 := by
  simp only [M.cellCode]
  rw [if_neg (by omega)]
  rw [if_pos (Or.inr (Or.inr ⟨by omega, by omega, by omega⟩))]

theorem code_r3a (kind num n : Int) (text key : ByteArray) (h0 : kind = 3) (h1 : num < -1000000000000000) (h2 : text.toList = []) (h3 : n = 0) : M.cellCode ⟨kind, num, text, key, n⟩ = 3 := by
  simp only [M.cellCode]
  rw [if_neg (by omega)]
  rw [if_neg (by rintro (h | h | h); (exact absurd h (by omega)); (exact (match h with | ⟨h, _⟩ => h h2)); (exact absurd h (by omega)))]
  rw [if_pos (by omega)]

theorem code_r3b (kind num n : Int) (text key : ByteArray) (h0 : kind = 3) (h1 : 1000000000000000 < num) (h2 : text.toList = []) (h3 : n = 0) : M.cellCode ⟨kind, num, text, key, n⟩ = 3 := by
  simp only [M.cellCode]
  rw [if_neg (by omega)]
  rw [if_neg (by rintro (h | h | h); (exact absurd h (by omega)); (exact (match h with | ⟨h, _⟩ => h h2)); (exact absurd h (by omega)))]
  rw [if_pos (by omega)]

theorem code_r5a (kind num n : Int) (text key : ByteArray) (h0 : kind = 5) (h1 : num = 0) (h2 : text.toList = []) (h3 : n < 0) : M.cellCode ⟨kind, num, text, key, n⟩ = 3 := by
  simp only [M.cellCode]
  rw [if_neg (by omega)]
  rw [if_neg (by rintro (h | h | h); (exact absurd h (by omega)); (exact (match h with | ⟨h, _⟩ => h h2)); (exact absurd h (by omega)))]
  rw [if_pos (by omega)]

theorem code_r5b (kind num n : Int) (text key : ByteArray) (h0 : kind = 5) (h1 : num = 0) (h2 : text.toList = []) (h3 : 200 < n) : M.cellCode ⟨kind, num, text, key, n⟩ = 3 := by
  simp only [M.cellCode]
  rw [if_neg (by omega)]
  rw [if_neg (by rintro (h | h | h); (exact absurd h (by omega)); (exact (match h with | ⟨h, _⟩ => h h2)); (exact absurd h (by omega)))]
  rw [if_pos (by omega)]

theorem code_r6a (kind num n : Int) (text key : ByteArray) (h0 : kind = 6) (h1 : num = 0) (h2 : text.toList = []) (h3 : n < 0) : M.cellCode ⟨kind, num, text, key, n⟩ = 3 := by
  simp only [M.cellCode]
  rw [if_neg (by omega)]
  rw [if_neg (by rintro (h | h | h); (exact absurd h (by omega)); (exact (match h with | ⟨h, _⟩ => h h2)); (exact absurd h (by omega)))]
  rw [if_pos (by omega)]

theorem code_r6b (kind num n : Int) (text key : ByteArray) (h0 : kind = 6) (h1 : num = 0) (h2 : text.toList = []) (h3 : 200 < n) : M.cellCode ⟨kind, num, text, key, n⟩ = 3 := by
  simp only [M.cellCode]
  rw [if_neg (by omega)]
  rw [if_neg (by rintro (h | h | h); (exact absurd h (by omega)); (exact (match h with | ⟨h, _⟩ => h h2)); (exact absurd h (by omega)))]
  rw [if_pos (by omega)]

theorem code_g0t (kind num n : Int) (text key : ByteArray) (h0 : 0 ≤ kind) (h1 : kind ≤ 6) (h2 : num = 0) (h3 : text.toList = []) (h4 : n = 0) (h5 : M.textOk text = false) : M.cellCode ⟨kind, num, text, key, n⟩ = 5 := by
  simp only [M.cellCode]
  rw [if_neg (by omega)]
  rw [if_neg (by rintro (h | h | h); (exact absurd h (by omega)); (exact (match h with | ⟨h, _⟩ => h h3)); (exact absurd h (by omega)))]
  rw [if_neg (by omega)]
  rw [if_neg (by simp [h5])]

theorem code_g0k (kind num n : Int) (text key : ByteArray) (h0 : 0 ≤ kind) (h1 : kind ≤ 6) (h2 : num = 0) (h3 : text.toList = []) (h4 : n = 0) (h5 : M.textOk text = true) (h6 : M.textOk key = false) : M.cellCode ⟨kind, num, text, key, n⟩ = 5 := by
  simp only [M.cellCode]
  rw [if_neg (by omega)]
  rw [if_neg (by rintro (h | h | h); (exact absurd h (by omega)); (exact (match h with | ⟨h, _⟩ => h h3)); (exact absurd h (by omega)))]
  rw [if_neg (by omega)]
  rw [if_neg (by simp [h6])]

theorem code_g0o (kind num n : Int) (text key : ByteArray) (h0 : 0 ≤ kind) (h1 : kind ≤ 6) (h2 : num = 0) (h3 : text.toList = []) (h4 : n = 0) (h5 : M.textOk text = true) (h6 : M.textOk key = true) : M.cellCode ⟨kind, num, text, key, n⟩ = 0 := by
  simp only [M.cellCode]
  rw [if_neg (by omega)]
  rw [if_neg (by rintro (h | h | h); (exact absurd h (by omega)); (exact (match h with | ⟨h, _⟩ => h h3)); (exact absurd h (by omega)))]
  rw [if_neg (by omega)]
  rw [if_pos ⟨h5, h6⟩]

theorem code_g3t (kind num n : Int) (text key : ByteArray) (h0 : kind = 3) (h1 : num ≠ 0) (h2 : -1000000000000000 ≤ num) (h3 : num ≤ 1000000000000000) (h4 : text.toList = []) (h5 : n = 0) (h6 : M.textOk text = false) : M.cellCode ⟨kind, num, text, key, n⟩ = 5 := by
  simp only [M.cellCode]
  rw [if_neg (by omega)]
  rw [if_neg (by rintro (h | h | h); (exact absurd h (by omega)); (exact (match h with | ⟨h, _⟩ => h h4)); (exact absurd h (by omega)))]
  rw [if_neg (by omega)]
  rw [if_neg (by simp [h6])]

theorem code_g3k (kind num n : Int) (text key : ByteArray) (h0 : kind = 3) (h1 : num ≠ 0) (h2 : -1000000000000000 ≤ num) (h3 : num ≤ 1000000000000000) (h4 : text.toList = []) (h5 : n = 0) (h6 : M.textOk text = true) (h7 : M.textOk key = false) : M.cellCode ⟨kind, num, text, key, n⟩ = 5 := by
  simp only [M.cellCode]
  rw [if_neg (by omega)]
  rw [if_neg (by rintro (h | h | h); (exact absurd h (by omega)); (exact (match h with | ⟨h, _⟩ => h h4)); (exact absurd h (by omega)))]
  rw [if_neg (by omega)]
  rw [if_neg (by simp [h7])]

theorem code_g3o (kind num n : Int) (text key : ByteArray) (h0 : kind = 3) (h1 : num ≠ 0) (h2 : -1000000000000000 ≤ num) (h3 : num ≤ 1000000000000000) (h4 : text.toList = []) (h5 : n = 0) (h6 : M.textOk text = true) (h7 : M.textOk key = true) : M.cellCode ⟨kind, num, text, key, n⟩ = 0 := by
  simp only [M.cellCode]
  rw [if_neg (by omega)]
  rw [if_neg (by rintro (h | h | h); (exact absurd h (by omega)); (exact (match h with | ⟨h, _⟩ => h h4)); (exact absurd h (by omega)))]
  rw [if_neg (by omega)]
  rw [if_pos ⟨h6, h7⟩]

theorem code_g4t (kind num n : Int) (text key : ByteArray) (h0 : kind = 4) (h1 : num = 0) (h2 : text.toList ≠ []) (h3 : n = 0) (h4 : M.textOk text = false) : M.cellCode ⟨kind, num, text, key, n⟩ = 5 := by
  simp only [M.cellCode]
  rw [if_neg (by omega)]
  rw [if_neg (by rintro (h | h | h); (exact absurd h (by omega)); (exact (match h with | ⟨_, h⟩ => by omega)); (exact absurd h (by omega)))]
  rw [if_neg (by omega)]
  rw [if_neg (by simp [h4])]

theorem code_g4k (kind num n : Int) (text key : ByteArray) (h0 : kind = 4) (h1 : num = 0) (h2 : text.toList ≠ []) (h3 : n = 0) (h4 : M.textOk text = true) (h5 : M.textOk key = false) : M.cellCode ⟨kind, num, text, key, n⟩ = 5 := by
  simp only [M.cellCode]
  rw [if_neg (by omega)]
  rw [if_neg (by rintro (h | h | h); (exact absurd h (by omega)); (exact (match h with | ⟨_, h⟩ => by omega)); (exact absurd h (by omega)))]
  rw [if_neg (by omega)]
  rw [if_neg (by simp [h5])]

theorem code_g4o (kind num n : Int) (text key : ByteArray) (h0 : kind = 4) (h1 : num = 0) (h2 : text.toList ≠ []) (h3 : n = 0) (h4 : M.textOk text = true) (h5 : M.textOk key = true) : M.cellCode ⟨kind, num, text, key, n⟩ = 0 := by
  simp only [M.cellCode]
  rw [if_neg (by omega)]
  rw [if_neg (by rintro (h | h | h); (exact absurd h (by omega)); (exact (match h with | ⟨_, h⟩ => by omega)); (exact absurd h (by omega)))]
  rw [if_neg (by omega)]
  rw [if_pos ⟨h4, h5⟩]

theorem code_g5t (kind num n : Int) (text key : ByteArray) (h0 : kind = 5) (h1 : num = 0) (h2 : text.toList = []) (h3 : 0 < n) (h4 : n ≤ 200) (h5 : M.textOk text = false) : M.cellCode ⟨kind, num, text, key, n⟩ = 5 := by
  simp only [M.cellCode]
  rw [if_neg (by omega)]
  rw [if_neg (by rintro (h | h | h); (exact absurd h (by omega)); (exact (match h with | ⟨h, _⟩ => h h2)); (exact absurd h (by omega)))]
  rw [if_neg (by omega)]
  rw [if_neg (by simp [h5])]

theorem code_g5k (kind num n : Int) (text key : ByteArray) (h0 : kind = 5) (h1 : num = 0) (h2 : text.toList = []) (h3 : 0 < n) (h4 : n ≤ 200) (h5 : M.textOk text = true) (h6 : M.textOk key = false) : M.cellCode ⟨kind, num, text, key, n⟩ = 5 := by
  simp only [M.cellCode]
  rw [if_neg (by omega)]
  rw [if_neg (by rintro (h | h | h); (exact absurd h (by omega)); (exact (match h with | ⟨h, _⟩ => h h2)); (exact absurd h (by omega)))]
  rw [if_neg (by omega)]
  rw [if_neg (by simp [h6])]

theorem code_g5o (kind num n : Int) (text key : ByteArray) (h0 : kind = 5) (h1 : num = 0) (h2 : text.toList = []) (h3 : 0 < n) (h4 : n ≤ 200) (h5 : M.textOk text = true) (h6 : M.textOk key = true) : M.cellCode ⟨kind, num, text, key, n⟩ = 0 := by
  simp only [M.cellCode]
  rw [if_neg (by omega)]
  rw [if_neg (by rintro (h | h | h); (exact absurd h (by omega)); (exact (match h with | ⟨h, _⟩ => h h2)); (exact absurd h (by omega)))]
  rw [if_neg (by omega)]
  rw [if_pos ⟨h5, h6⟩]

theorem code_g6t (kind num n : Int) (text key : ByteArray) (h0 : kind = 6) (h1 : num = 0) (h2 : text.toList = []) (h3 : 0 < n) (h4 : n ≤ 200) (h5 : M.textOk text = false) : M.cellCode ⟨kind, num, text, key, n⟩ = 5 := by
  simp only [M.cellCode]
  rw [if_neg (by omega)]
  rw [if_neg (by rintro (h | h | h); (exact absurd h (by omega)); (exact (match h with | ⟨h, _⟩ => h h2)); (exact absurd h (by omega)))]
  rw [if_neg (by omega)]
  rw [if_neg (by simp [h5])]

theorem code_g6k (kind num n : Int) (text key : ByteArray) (h0 : kind = 6) (h1 : num = 0) (h2 : text.toList = []) (h3 : 0 < n) (h4 : n ≤ 200) (h5 : M.textOk text = true) (h6 : M.textOk key = false) : M.cellCode ⟨kind, num, text, key, n⟩ = 5 := by
  simp only [M.cellCode]
  rw [if_neg (by omega)]
  rw [if_neg (by rintro (h | h | h); (exact absurd h (by omega)); (exact (match h with | ⟨h, _⟩ => h h2)); (exact absurd h (by omega)))]
  rw [if_neg (by omega)]
  rw [if_neg (by simp [h6])]

theorem code_g6o (kind num n : Int) (text key : ByteArray) (h0 : kind = 6) (h1 : num = 0) (h2 : text.toList = []) (h3 : 0 < n) (h4 : n ≤ 200) (h5 : M.textOk text = true) (h6 : M.textOk key = true) : M.cellCode ⟨kind, num, text, key, n⟩ = 0 := by
  simp only [M.cellCode]
  rw [if_neg (by omega)]
  rw [if_neg (by rintro (h | h | h); (exact absurd h (by omega)); (exact (match h with | ⟨h, _⟩ => h h2)); (exact absurd h (by omega)))]
  rw [if_neg (by omega)]
  rw [if_pos ⟨h5, h6⟩]

theorem split_cell (kind num n : Int) (text key : ByteArray) (P : Prop)
    (c_low : kind < 0 → P)
    (c_high : 6 < kind → P)
    (c_numA : 0 ≤ kind → kind ≤ 6 → num ≠ 0 → kind ≠ 3 → P)
    (c_txtA : 0 ≤ kind → kind ≤ 6 → num = 0 → text.toList ≠ [] → kind ≠ 4 → P)
    (c_txtB : kind = 3 → num ≠ 0 → text.toList ≠ [] → P)
    (c_nA : 0 ≤ kind → kind ≤ 4 → num = 0 → text.toList = [] → n ≠ 0 → P)
    (c_nB : kind = 3 → num ≠ 0 → text.toList = [] → n ≠ 0 → P)
    (c_nC : kind = 4 → num = 0 → text.toList ≠ [] → n ≠ 0 → P)
    (c_r3a : kind = 3 → num < -1000000000000000 → text.toList = [] → n = 0 → P)
    (c_r3b : kind = 3 → 1000000000000000 < num → text.toList = [] → n = 0 → P)
    (c_r5a : kind = 5 → num = 0 → text.toList = [] → n < 0 → P)
    (c_r5b : kind = 5 → num = 0 → text.toList = [] → 200 < n → P)
    (c_r6a : kind = 6 → num = 0 → text.toList = [] → n < 0 → P)
    (c_r6b : kind = 6 → num = 0 → text.toList = [] → 200 < n → P)
    (c_g0t : 0 ≤ kind → kind ≤ 6 → num = 0 → text.toList = [] → n = 0 → M.textOk text = false → P)
    (c_g0k : 0 ≤ kind → kind ≤ 6 → num = 0 → text.toList = [] → n = 0 → M.textOk text = true → M.textOk key = false → P)
    (c_g0o : 0 ≤ kind → kind ≤ 6 → num = 0 → text.toList = [] → n = 0 → M.textOk text = true → M.textOk key = true → P)
    (c_g3t : kind = 3 → num ≠ 0 → -1000000000000000 ≤ num → num ≤ 1000000000000000 → text.toList = [] → n = 0 → M.textOk text = false → P)
    (c_g3k : kind = 3 → num ≠ 0 → -1000000000000000 ≤ num → num ≤ 1000000000000000 → text.toList = [] → n = 0 → M.textOk text = true → M.textOk key = false → P)
    (c_g3o : kind = 3 → num ≠ 0 → -1000000000000000 ≤ num → num ≤ 1000000000000000 → text.toList = [] → n = 0 → M.textOk text = true → M.textOk key = true → P)
    (c_g4t : kind = 4 → num = 0 → text.toList ≠ [] → n = 0 → M.textOk text = false → P)
    (c_g4k : kind = 4 → num = 0 → text.toList ≠ [] → n = 0 → M.textOk text = true → M.textOk key = false → P)
    (c_g4o : kind = 4 → num = 0 → text.toList ≠ [] → n = 0 → M.textOk text = true → M.textOk key = true → P)
    (c_g5t : kind = 5 → num = 0 → text.toList = [] → 0 < n → n ≤ 200 → M.textOk text = false → P)
    (c_g5k : kind = 5 → num = 0 → text.toList = [] → 0 < n → n ≤ 200 → M.textOk text = true → M.textOk key = false → P)
    (c_g5o : kind = 5 → num = 0 → text.toList = [] → 0 < n → n ≤ 200 → M.textOk text = true → M.textOk key = true → P)
    (c_g6t : kind = 6 → num = 0 → text.toList = [] → 0 < n → n ≤ 200 → M.textOk text = false → P)
    (c_g6k : kind = 6 → num = 0 → text.toList = [] → 0 < n → n ≤ 200 → M.textOk text = true → M.textOk key = false → P)
    (c_g6o : kind = 6 → num = 0 → text.toList = [] → 0 < n → n ≤ 200 → M.textOk text = true → M.textOk key = true → P) : P := by
  by_cases a1 : kind < 0
  · exact c_low a1
  by_cases a2 : 6 < kind
  · exact c_high a2
  have b1 : 0 ≤ kind := by omega
  have b2 : kind ≤ 6 := by omega
  by_cases n0 : num = 0
  · by_cases t0 : text.toList = []
    · by_cases m0 : n = 0
      · cases x : M.textOk text
        · exact c_g0t b1 b2 n0 t0 m0 x
        · cases y : M.textOk key
          · exact c_g0k b1 b2 n0 t0 m0 x y
          · exact c_g0o b1 b2 n0 t0 m0 x y
      · by_cases k5 : kind = 5
        · by_cases r1 : n < 0
          · exact c_r5a k5 n0 t0 r1
          by_cases r2 : 200 < n
          · exact c_r5b k5 n0 t0 r2
          cases x : M.textOk text
          · exact c_g5t k5 n0 t0 (by omega) (by omega) x
          · cases y : M.textOk key
            · exact c_g5k k5 n0 t0 (by omega) (by omega) x y
            · exact c_g5o k5 n0 t0 (by omega) (by omega) x y
        by_cases k6 : kind = 6
        · by_cases r1 : n < 0
          · exact c_r6a k6 n0 t0 r1
          by_cases r2 : 200 < n
          · exact c_r6b k6 n0 t0 r2
          cases x : M.textOk text
          · exact c_g6t k6 n0 t0 (by omega) (by omega) x
          · cases y : M.textOk key
            · exact c_g6k k6 n0 t0 (by omega) (by omega) x y
            · exact c_g6o k6 n0 t0 (by omega) (by omega) x y
        exact c_nA b1 (by omega) n0 t0 m0
    · by_cases k4 : kind = 4
      · by_cases m0 : n = 0
        · cases x : M.textOk text
          · exact c_g4t k4 n0 t0 m0 x
          · cases y : M.textOk key
            · exact c_g4k k4 n0 t0 m0 x y
            · exact c_g4o k4 n0 t0 m0 x y
        · exact c_nC k4 n0 t0 m0
      · exact c_txtA b1 b2 n0 t0 k4
  · by_cases k3 : kind = 3
    · by_cases t0 : text.toList = []
      · by_cases m0 : n = 0
        · by_cases r1 : num < -1000000000000000
          · exact c_r3a k3 r1 t0 m0
          by_cases r2 : 1000000000000000 < num
          · exact c_r3b k3 r2 t0 m0
          cases x : M.textOk text
          · exact c_g3t k3 n0 (by omega) (by omega) t0 m0 x
          · cases y : M.textOk key
            · exact c_g3k k3 n0 (by omega) (by omega) t0 m0 x y
            · exact c_g3o k3 n0 (by omega) (by omega) t0 m0 x y
        · exact c_nB k3 n0 t0 m0
      · exact c_txtB k3 n0 t0
    · exact c_numA b1 b2 n0 k3

set_option maxHeartbeats 400000 in
theorem cellFault_low (kind num n : Int) (text key : ByteArray) (w : World) (ht : text.size ≤ 9223372036854775807) (hk : key.size ≤ 9223372036854775807) (h0 : kind < 0) :
    Calls Try.prog 41 #[.agg #[.int .i64 kind, .int .i64 num, .string text, .string key, .int .i64 n]] w fun e w' => e = .returned (.int .i64 (M.cellCode ⟨kind, num, text, key, n⟩)) ∧ Below w.heap.size w w' := by
  have hcode := hide (code_low kind num n text key h0)
  go_enter Try.func41, Try.ntmps41
  go_wp2_with (first | (go_at_call_of 55 text; refine (textFits_any text _ ht).mono ?_; rintro e w' ⟨rfl, rfl⟩) | (go_at_call_of 55 key; refine (textFits_any key _ hk).mono ?_; rintro e w' ⟨rfl, rfl⟩) | go_in)
  go_ret
  refine ⟨ret_int (unhide hcode).symm, ?_⟩
  first | exact (Below.refl _ _).alloc (Nat.le_refl _) _ | exact ((Below.refl _ _).alloc (Nat.le_refl _) _).alloc (by simp) _

set_option maxHeartbeats 400000 in
theorem cellFault_high (kind num n : Int) (text key : ByteArray) (w : World) (ht : text.size ≤ 9223372036854775807) (hk : key.size ≤ 9223372036854775807) (h0 : 6 < kind) :
    Calls Try.prog 41 #[.agg #[.int .i64 kind, .int .i64 num, .string text, .string key, .int .i64 n]] w fun e w' => e = .returned (.int .i64 (M.cellCode ⟨kind, num, text, key, n⟩)) ∧ Below w.heap.size w w' := by
  have hcode := hide (code_high kind num n text key h0)
  go_enter Try.func41, Try.ntmps41
  go_wp2_with (first | (go_at_call_of 55 text; refine (textFits_any text _ ht).mono ?_; rintro e w' ⟨rfl, rfl⟩) | (go_at_call_of 55 key; refine (textFits_any key _ hk).mono ?_; rintro e w' ⟨rfl, rfl⟩) | go_in)
  go_ret
  refine ⟨ret_int (unhide hcode).symm, ?_⟩
  first | exact (Below.refl _ _).alloc (Nat.le_refl _) _ | exact ((Below.refl _ _).alloc (Nat.le_refl _) _).alloc (by simp) _

set_option maxHeartbeats 400000 in
theorem cellFault_numA (kind num n : Int) (text key : ByteArray) (w : World) (ht : text.size ≤ 9223372036854775807) (hk : key.size ≤ 9223372036854775807) (h0 : 0 ≤ kind) (h1 : kind ≤ 6) (h2 : num ≠ 0) (h3 : kind ≠ 3) :
    Calls Try.prog 41 #[.agg #[.int .i64 kind, .int .i64 num, .string text, .string key, .int .i64 n]] w fun e w' => e = .returned (.int .i64 (M.cellCode ⟨kind, num, text, key, n⟩)) ∧ Below w.heap.size w w' := by
  have hcode := hide (code_numA kind num n text key h0 h1 h2 h3)
  go_enter Try.func41, Try.ntmps41
  go_wp2_with (first | (go_at_call_of 55 text; refine (textFits_any text _ ht).mono ?_; rintro e w' ⟨rfl, rfl⟩) | (go_at_call_of 55 key; refine (textFits_any key _ hk).mono ?_; rintro e w' ⟨rfl, rfl⟩) | go_in)
  go_ret
  refine ⟨ret_int (unhide hcode).symm, ?_⟩
  first | exact (Below.refl _ _).alloc (Nat.le_refl _) _ | exact ((Below.refl _ _).alloc (Nat.le_refl _) _).alloc (by simp) _

set_option maxHeartbeats 400000 in
theorem cellFault_txtA (kind num n : Int) (text key : ByteArray) (w : World) (ht : text.size ≤ 9223372036854775807) (hk : key.size ≤ 9223372036854775807) (h0 : 0 ≤ kind) (h1 : kind ≤ 6) (h2 : num = 0) (h3 : text.toList ≠ []) (h4 : kind ≠ 4) :
    Calls Try.prog 41 #[.agg #[.int .i64 kind, .int .i64 num, .string text, .string key, .int .i64 n]] w fun e w' => e = .returned (.int .i64 (M.cellCode ⟨kind, num, text, key, n⟩)) ∧ Below w.heap.size w w' := by
  have hcode := hide (code_txtA kind num n text key h0 h1 h2 h3 h4)
  subst h2
  go_enter Try.func41, Try.ntmps41
  go_wp2_with (first | (go_at_call_of 55 text; refine (textFits_any text _ ht).mono ?_; rintro e w' ⟨rfl, rfl⟩) | (go_at_call_of 55 key; refine (textFits_any key _ hk).mono ?_; rintro e w' ⟨rfl, rfl⟩) | go_in)
  go_ret
  refine ⟨ret_int (unhide hcode).symm, ?_⟩
  first | exact (Below.refl _ _).alloc (Nat.le_refl _) _ | exact ((Below.refl _ _).alloc (Nat.le_refl _) _).alloc (by simp) _

set_option maxHeartbeats 400000 in
theorem cellFault_txtB (kind num n : Int) (text key : ByteArray) (w : World) (ht : text.size ≤ 9223372036854775807) (hk : key.size ≤ 9223372036854775807) (h0 : kind = 3) (h1 : num ≠ 0) (h2 : text.toList ≠ []) :
    Calls Try.prog 41 #[.agg #[.int .i64 kind, .int .i64 num, .string text, .string key, .int .i64 n]] w fun e w' => e = .returned (.int .i64 (M.cellCode ⟨kind, num, text, key, n⟩)) ∧ Below w.heap.size w w' := by
  have hcode := hide (code_txtB kind num n text key h0 h1 h2)
  subst h0
  go_enter Try.func41, Try.ntmps41
  go_wp2_with (first | (go_at_call_of 55 text; refine (textFits_any text _ ht).mono ?_; rintro e w' ⟨rfl, rfl⟩) | (go_at_call_of 55 key; refine (textFits_any key _ hk).mono ?_; rintro e w' ⟨rfl, rfl⟩) | go_in)
  go_ret
  refine ⟨ret_int (unhide hcode).symm, ?_⟩
  first | exact (Below.refl _ _).alloc (Nat.le_refl _) _ | exact ((Below.refl _ _).alloc (Nat.le_refl _) _).alloc (by simp) _

set_option maxHeartbeats 400000 in
theorem cellFault_nA (kind num n : Int) (text key : ByteArray) (w : World) (ht : text.size ≤ 9223372036854775807) (hk : key.size ≤ 9223372036854775807) (h0 : 0 ≤ kind) (h1 : kind ≤ 4) (h2 : num = 0) (h3 : text.toList = []) (h4 : n ≠ 0) :
    Calls Try.prog 41 #[.agg #[.int .i64 kind, .int .i64 num, .string text, .string key, .int .i64 n]] w fun e w' => e = .returned (.int .i64 (M.cellCode ⟨kind, num, text, key, n⟩)) ∧ Below w.heap.size w w' := by
  have hcode := hide (code_nA kind num n text key h0 h1 h2 h3 h4)
  subst h2
  have e1 : (n != 0) = true := by simp [h4]
  have e2 : (kind != 5) = true := by simp; omega
  have e3 : (kind != 6) = true := by simp; omega
  go_enter Try.func41, Try.ntmps41
  go_wp2_with (first | (go_at_call_of 55 text; refine (textFits_any text _ ht).mono ?_; rintro e w' ⟨rfl, rfl⟩) | (go_at_call_of 55 key; refine (textFits_any key _ hk).mono ?_; rintro e w' ⟨rfl, rfl⟩) | go_in)
  go_ret
  refine ⟨ret_int (unhide hcode).symm, ?_⟩
  first | exact (Below.refl _ _).alloc (Nat.le_refl _) _ | exact ((Below.refl _ _).alloc (Nat.le_refl _) _).alloc (by simp) _

set_option maxHeartbeats 400000 in
theorem cellFault_nB (kind num n : Int) (text key : ByteArray) (w : World) (ht : text.size ≤ 9223372036854775807) (hk : key.size ≤ 9223372036854775807) (h0 : kind = 3) (h1 : num ≠ 0) (h2 : text.toList = []) (h3 : n ≠ 0) :
    Calls Try.prog 41 #[.agg #[.int .i64 kind, .int .i64 num, .string text, .string key, .int .i64 n]] w fun e w' => e = .returned (.int .i64 (M.cellCode ⟨kind, num, text, key, n⟩)) ∧ Below w.heap.size w w' := by
  have hcode := hide (code_nB kind num n text key h0 h1 h2 h3)
  subst h0
  go_enter Try.func41, Try.ntmps41
  go_wp2_with (first | (go_at_call_of 55 text; refine (textFits_any text _ ht).mono ?_; rintro e w' ⟨rfl, rfl⟩) | (go_at_call_of 55 key; refine (textFits_any key _ hk).mono ?_; rintro e w' ⟨rfl, rfl⟩) | go_in)
  go_ret
  refine ⟨ret_int (unhide hcode).symm, ?_⟩
  first | exact (Below.refl _ _).alloc (Nat.le_refl _) _ | exact ((Below.refl _ _).alloc (Nat.le_refl _) _).alloc (by simp) _

set_option maxHeartbeats 400000 in
theorem cellFault_nC (kind num n : Int) (text key : ByteArray) (w : World) (ht : text.size ≤ 9223372036854775807) (hk : key.size ≤ 9223372036854775807) (h0 : kind = 4) (h1 : num = 0) (h2 : text.toList ≠ []) (h3 : n ≠ 0) :
    Calls Try.prog 41 #[.agg #[.int .i64 kind, .int .i64 num, .string text, .string key, .int .i64 n]] w fun e w' => e = .returned (.int .i64 (M.cellCode ⟨kind, num, text, key, n⟩)) ∧ Below w.heap.size w w' := by
  have hcode := hide (code_nC kind num n text key h0 h1 h2 h3)
  subst h0 h1
  go_enter Try.func41, Try.ntmps41
  go_wp2_with (first | (go_at_call_of 55 text; refine (textFits_any text _ ht).mono ?_; rintro e w' ⟨rfl, rfl⟩) | (go_at_call_of 55 key; refine (textFits_any key _ hk).mono ?_; rintro e w' ⟨rfl, rfl⟩) | go_in)
  go_ret
  refine ⟨ret_int (unhide hcode).symm, ?_⟩
  first | exact (Below.refl _ _).alloc (Nat.le_refl _) _ | exact ((Below.refl _ _).alloc (Nat.le_refl _) _).alloc (by simp) _

set_option maxHeartbeats 400000 in
theorem cellFault_r3a (kind num n : Int) (text key : ByteArray) (w : World) (ht : text.size ≤ 9223372036854775807) (hk : key.size ≤ 9223372036854775807) (h0 : kind = 3) (h1 : num < -1000000000000000) (h2 : text.toList = []) (h3 : n = 0) :
    Calls Try.prog 41 #[.agg #[.int .i64 kind, .int .i64 num, .string text, .string key, .int .i64 n]] w fun e w' => e = .returned (.int .i64 (M.cellCode ⟨kind, num, text, key, n⟩)) ∧ Below w.heap.size w w' := by
  have hcode := hide (code_r3a kind num n text key h0 h1 h2 h3)
  subst h0 h3
  go_enter Try.func41, Try.ntmps41
  go_wp2_with (first | (go_at_call_of 55 text; refine (textFits_any text _ ht).mono ?_; rintro e w' ⟨rfl, rfl⟩) | (go_at_call_of 55 key; refine (textFits_any key _ hk).mono ?_; rintro e w' ⟨rfl, rfl⟩) | go_in)
  go_ret
  refine ⟨ret_int (unhide hcode).symm, ?_⟩
  first | exact (Below.refl _ _).alloc (Nat.le_refl _) _ | exact ((Below.refl _ _).alloc (Nat.le_refl _) _).alloc (by simp) _

set_option maxHeartbeats 400000 in
theorem cellFault_r3b (kind num n : Int) (text key : ByteArray) (w : World) (ht : text.size ≤ 9223372036854775807) (hk : key.size ≤ 9223372036854775807) (h0 : kind = 3) (h1 : 1000000000000000 < num) (h2 : text.toList = []) (h3 : n = 0) :
    Calls Try.prog 41 #[.agg #[.int .i64 kind, .int .i64 num, .string text, .string key, .int .i64 n]] w fun e w' => e = .returned (.int .i64 (M.cellCode ⟨kind, num, text, key, n⟩)) ∧ Below w.heap.size w w' := by
  have hcode := hide (code_r3b kind num n text key h0 h1 h2 h3)
  subst h0 h3
  go_enter Try.func41, Try.ntmps41
  go_wp2_with (first | (go_at_call_of 55 text; refine (textFits_any text _ ht).mono ?_; rintro e w' ⟨rfl, rfl⟩) | (go_at_call_of 55 key; refine (textFits_any key _ hk).mono ?_; rintro e w' ⟨rfl, rfl⟩) | go_in)
  go_ret
  refine ⟨ret_int (unhide hcode).symm, ?_⟩
  first | exact (Below.refl _ _).alloc (Nat.le_refl _) _ | exact ((Below.refl _ _).alloc (Nat.le_refl _) _).alloc (by simp) _

set_option maxHeartbeats 400000 in
theorem cellFault_r5a (kind num n : Int) (text key : ByteArray) (w : World) (ht : text.size ≤ 9223372036854775807) (hk : key.size ≤ 9223372036854775807) (h0 : kind = 5) (h1 : num = 0) (h2 : text.toList = []) (h3 : n < 0) :
    Calls Try.prog 41 #[.agg #[.int .i64 kind, .int .i64 num, .string text, .string key, .int .i64 n]] w fun e w' => e = .returned (.int .i64 (M.cellCode ⟨kind, num, text, key, n⟩)) ∧ Below w.heap.size w w' := by
  have hcode := hide (code_r5a kind num n text key h0 h1 h2 h3)
  subst h0 h1
  go_enter Try.func41, Try.ntmps41
  go_wp2_with (first | (go_at_call_of 55 text; refine (textFits_any text _ ht).mono ?_; rintro e w' ⟨rfl, rfl⟩) | (go_at_call_of 55 key; refine (textFits_any key _ hk).mono ?_; rintro e w' ⟨rfl, rfl⟩) | go_in)
  go_ret
  refine ⟨ret_int (unhide hcode).symm, ?_⟩
  first | exact (Below.refl _ _).alloc (Nat.le_refl _) _ | exact ((Below.refl _ _).alloc (Nat.le_refl _) _).alloc (by simp) _

set_option maxHeartbeats 400000 in
theorem cellFault_r5b (kind num n : Int) (text key : ByteArray) (w : World) (ht : text.size ≤ 9223372036854775807) (hk : key.size ≤ 9223372036854775807) (h0 : kind = 5) (h1 : num = 0) (h2 : text.toList = []) (h3 : 200 < n) :
    Calls Try.prog 41 #[.agg #[.int .i64 kind, .int .i64 num, .string text, .string key, .int .i64 n]] w fun e w' => e = .returned (.int .i64 (M.cellCode ⟨kind, num, text, key, n⟩)) ∧ Below w.heap.size w w' := by
  have hcode := hide (code_r5b kind num n text key h0 h1 h2 h3)
  subst h0 h1
  go_enter Try.func41, Try.ntmps41
  go_wp2_with (first | (go_at_call_of 55 text; refine (textFits_any text _ ht).mono ?_; rintro e w' ⟨rfl, rfl⟩) | (go_at_call_of 55 key; refine (textFits_any key _ hk).mono ?_; rintro e w' ⟨rfl, rfl⟩) | go_in)
  go_ret
  refine ⟨ret_int (unhide hcode).symm, ?_⟩
  first | exact (Below.refl _ _).alloc (Nat.le_refl _) _ | exact ((Below.refl _ _).alloc (Nat.le_refl _) _).alloc (by simp) _

set_option maxHeartbeats 400000 in
theorem cellFault_r6a (kind num n : Int) (text key : ByteArray) (w : World) (ht : text.size ≤ 9223372036854775807) (hk : key.size ≤ 9223372036854775807) (h0 : kind = 6) (h1 : num = 0) (h2 : text.toList = []) (h3 : n < 0) :
    Calls Try.prog 41 #[.agg #[.int .i64 kind, .int .i64 num, .string text, .string key, .int .i64 n]] w fun e w' => e = .returned (.int .i64 (M.cellCode ⟨kind, num, text, key, n⟩)) ∧ Below w.heap.size w w' := by
  have hcode := hide (code_r6a kind num n text key h0 h1 h2 h3)
  subst h0 h1
  go_enter Try.func41, Try.ntmps41
  go_wp2_with (first | (go_at_call_of 55 text; refine (textFits_any text _ ht).mono ?_; rintro e w' ⟨rfl, rfl⟩) | (go_at_call_of 55 key; refine (textFits_any key _ hk).mono ?_; rintro e w' ⟨rfl, rfl⟩) | go_in)
  go_ret
  refine ⟨ret_int (unhide hcode).symm, ?_⟩
  first | exact (Below.refl _ _).alloc (Nat.le_refl _) _ | exact ((Below.refl _ _).alloc (Nat.le_refl _) _).alloc (by simp) _

set_option maxHeartbeats 400000 in
theorem cellFault_r6b (kind num n : Int) (text key : ByteArray) (w : World) (ht : text.size ≤ 9223372036854775807) (hk : key.size ≤ 9223372036854775807) (h0 : kind = 6) (h1 : num = 0) (h2 : text.toList = []) (h3 : 200 < n) :
    Calls Try.prog 41 #[.agg #[.int .i64 kind, .int .i64 num, .string text, .string key, .int .i64 n]] w fun e w' => e = .returned (.int .i64 (M.cellCode ⟨kind, num, text, key, n⟩)) ∧ Below w.heap.size w w' := by
  have hcode := hide (code_r6b kind num n text key h0 h1 h2 h3)
  subst h0 h1
  go_enter Try.func41, Try.ntmps41
  go_wp2_with (first | (go_at_call_of 55 text; refine (textFits_any text _ ht).mono ?_; rintro e w' ⟨rfl, rfl⟩) | (go_at_call_of 55 key; refine (textFits_any key _ hk).mono ?_; rintro e w' ⟨rfl, rfl⟩) | go_in)
  go_ret
  refine ⟨ret_int (unhide hcode).symm, ?_⟩
  first | exact (Below.refl _ _).alloc (Nat.le_refl _) _ | exact ((Below.refl _ _).alloc (Nat.le_refl _) _).alloc (by simp) _

set_option maxHeartbeats 400000 in
theorem cellFault_g0t (kind num n : Int) (text key : ByteArray) (w : World) (ht : text.size ≤ 9223372036854775807) (hk : key.size ≤ 9223372036854775807) (h0 : 0 ≤ kind) (h1 : kind ≤ 6) (h2 : num = 0) (h3 : text.toList = []) (h4 : n = 0) (h5 : M.textOk text = false) :
    Calls Try.prog 41 #[.agg #[.int .i64 kind, .int .i64 num, .string text, .string key, .int .i64 n]] w fun e w' => e = .returned (.int .i64 (M.cellCode ⟨kind, num, text, key, n⟩)) ∧ Below w.heap.size w w' := by
  have hcode := hide (code_g0t kind num n text key h0 h1 h2 h3 h4 h5)
  subst h2 h4
  go_enter Try.func41, Try.ntmps41
  go_wp2_with (first | (go_at_call_of 55 text; refine (textFits_any text _ ht).mono ?_; rintro e w' ⟨rfl, rfl⟩) | (go_at_call_of 55 key; refine (textFits_any key _ hk).mono ?_; rintro e w' ⟨rfl, rfl⟩) | go_in)
  go_ret
  refine ⟨ret_int (unhide hcode).symm, ?_⟩
  first | exact (Below.refl _ _).alloc (Nat.le_refl _) _ | exact ((Below.refl _ _).alloc (Nat.le_refl _) _).alloc (by simp) _

set_option maxHeartbeats 400000 in
theorem cellFault_g0k (kind num n : Int) (text key : ByteArray) (w : World) (ht : text.size ≤ 9223372036854775807) (hk : key.size ≤ 9223372036854775807) (h0 : 0 ≤ kind) (h1 : kind ≤ 6) (h2 : num = 0) (h3 : text.toList = []) (h4 : n = 0) (h5 : M.textOk text = true) (h6 : M.textOk key = false) :
    Calls Try.prog 41 #[.agg #[.int .i64 kind, .int .i64 num, .string text, .string key, .int .i64 n]] w fun e w' => e = .returned (.int .i64 (M.cellCode ⟨kind, num, text, key, n⟩)) ∧ Below w.heap.size w w' := by
  have hcode := hide (code_g0k kind num n text key h0 h1 h2 h3 h4 h5 h6)
  subst h2 h4
  go_enter Try.func41, Try.ntmps41
  go_wp2_with (first | (go_at_call_of 55 text; refine (textFits_any text _ ht).mono ?_; rintro e w' ⟨rfl, rfl⟩) | (go_at_call_of 55 key; refine (textFits_any key _ hk).mono ?_; rintro e w' ⟨rfl, rfl⟩) | go_in)
  go_ret
  refine ⟨ret_int (unhide hcode).symm, ?_⟩
  first | exact (Below.refl _ _).alloc (Nat.le_refl _) _ | exact ((Below.refl _ _).alloc (Nat.le_refl _) _).alloc (by simp) _

set_option maxHeartbeats 400000 in
theorem cellFault_g0o (kind num n : Int) (text key : ByteArray) (w : World) (ht : text.size ≤ 9223372036854775807) (hk : key.size ≤ 9223372036854775807) (h0 : 0 ≤ kind) (h1 : kind ≤ 6) (h2 : num = 0) (h3 : text.toList = []) (h4 : n = 0) (h5 : M.textOk text = true) (h6 : M.textOk key = true) :
    Calls Try.prog 41 #[.agg #[.int .i64 kind, .int .i64 num, .string text, .string key, .int .i64 n]] w fun e w' => e = .returned (.int .i64 (M.cellCode ⟨kind, num, text, key, n⟩)) ∧ Below w.heap.size w w' := by
  have hcode := hide (code_g0o kind num n text key h0 h1 h2 h3 h4 h5 h6)
  subst h2 h4
  go_enter Try.func41, Try.ntmps41
  go_wp2_with (first | (go_at_call_of 55 text; refine (textFits_any text _ ht).mono ?_; rintro e w' ⟨rfl, rfl⟩) | (go_at_call_of 55 key; refine (textFits_any key _ hk).mono ?_; rintro e w' ⟨rfl, rfl⟩) | go_in)
  go_ret
  refine ⟨ret_int (unhide hcode).symm, ?_⟩
  first | exact (Below.refl _ _).alloc (Nat.le_refl _) _ | exact ((Below.refl _ _).alloc (Nat.le_refl _) _).alloc (by simp) _

set_option maxHeartbeats 400000 in
theorem cellFault_g3t (kind num n : Int) (text key : ByteArray) (w : World) (ht : text.size ≤ 9223372036854775807) (hk : key.size ≤ 9223372036854775807) (h0 : kind = 3) (h1 : num ≠ 0) (h2 : -1000000000000000 ≤ num) (h3 : num ≤ 1000000000000000) (h4 : text.toList = []) (h5 : n = 0) (h6 : M.textOk text = false) :
    Calls Try.prog 41 #[.agg #[.int .i64 kind, .int .i64 num, .string text, .string key, .int .i64 n]] w fun e w' => e = .returned (.int .i64 (M.cellCode ⟨kind, num, text, key, n⟩)) ∧ Below w.heap.size w w' := by
  have hcode := hide (code_g3t kind num n text key h0 h1 h2 h3 h4 h5 h6)
  subst h0 h5
  go_enter Try.func41, Try.ntmps41
  go_wp2_with (first | (go_at_call_of 55 text; refine (textFits_any text _ ht).mono ?_; rintro e w' ⟨rfl, rfl⟩) | (go_at_call_of 55 key; refine (textFits_any key _ hk).mono ?_; rintro e w' ⟨rfl, rfl⟩) | go_in)
  go_ret
  refine ⟨ret_int (unhide hcode).symm, ?_⟩
  first | exact (Below.refl _ _).alloc (Nat.le_refl _) _ | exact ((Below.refl _ _).alloc (Nat.le_refl _) _).alloc (by simp) _

set_option maxHeartbeats 400000 in
theorem cellFault_g3k (kind num n : Int) (text key : ByteArray) (w : World) (ht : text.size ≤ 9223372036854775807) (hk : key.size ≤ 9223372036854775807) (h0 : kind = 3) (h1 : num ≠ 0) (h2 : -1000000000000000 ≤ num) (h3 : num ≤ 1000000000000000) (h4 : text.toList = []) (h5 : n = 0) (h6 : M.textOk text = true) (h7 : M.textOk key = false) :
    Calls Try.prog 41 #[.agg #[.int .i64 kind, .int .i64 num, .string text, .string key, .int .i64 n]] w fun e w' => e = .returned (.int .i64 (M.cellCode ⟨kind, num, text, key, n⟩)) ∧ Below w.heap.size w w' := by
  have hcode := hide (code_g3k kind num n text key h0 h1 h2 h3 h4 h5 h6 h7)
  subst h0 h5
  go_enter Try.func41, Try.ntmps41
  go_wp2_with (first | (go_at_call_of 55 text; refine (textFits_any text _ ht).mono ?_; rintro e w' ⟨rfl, rfl⟩) | (go_at_call_of 55 key; refine (textFits_any key _ hk).mono ?_; rintro e w' ⟨rfl, rfl⟩) | go_in)
  go_ret
  refine ⟨ret_int (unhide hcode).symm, ?_⟩
  first | exact (Below.refl _ _).alloc (Nat.le_refl _) _ | exact ((Below.refl _ _).alloc (Nat.le_refl _) _).alloc (by simp) _

set_option maxHeartbeats 400000 in
theorem cellFault_g3o (kind num n : Int) (text key : ByteArray) (w : World) (ht : text.size ≤ 9223372036854775807) (hk : key.size ≤ 9223372036854775807) (h0 : kind = 3) (h1 : num ≠ 0) (h2 : -1000000000000000 ≤ num) (h3 : num ≤ 1000000000000000) (h4 : text.toList = []) (h5 : n = 0) (h6 : M.textOk text = true) (h7 : M.textOk key = true) :
    Calls Try.prog 41 #[.agg #[.int .i64 kind, .int .i64 num, .string text, .string key, .int .i64 n]] w fun e w' => e = .returned (.int .i64 (M.cellCode ⟨kind, num, text, key, n⟩)) ∧ Below w.heap.size w w' := by
  have hcode := hide (code_g3o kind num n text key h0 h1 h2 h3 h4 h5 h6 h7)
  subst h0 h5
  go_enter Try.func41, Try.ntmps41
  go_wp2_with (first | (go_at_call_of 55 text; refine (textFits_any text _ ht).mono ?_; rintro e w' ⟨rfl, rfl⟩) | (go_at_call_of 55 key; refine (textFits_any key _ hk).mono ?_; rintro e w' ⟨rfl, rfl⟩) | go_in)
  go_ret
  refine ⟨ret_int (unhide hcode).symm, ?_⟩
  first | exact (Below.refl _ _).alloc (Nat.le_refl _) _ | exact ((Below.refl _ _).alloc (Nat.le_refl _) _).alloc (by simp) _

set_option maxHeartbeats 400000 in
theorem cellFault_g4t (kind num n : Int) (text key : ByteArray) (w : World) (ht : text.size ≤ 9223372036854775807) (hk : key.size ≤ 9223372036854775807) (h0 : kind = 4) (h1 : num = 0) (h2 : text.toList ≠ []) (h3 : n = 0) (h4 : M.textOk text = false) :
    Calls Try.prog 41 #[.agg #[.int .i64 kind, .int .i64 num, .string text, .string key, .int .i64 n]] w fun e w' => e = .returned (.int .i64 (M.cellCode ⟨kind, num, text, key, n⟩)) ∧ Below w.heap.size w w' := by
  have hcode := hide (code_g4t kind num n text key h0 h1 h2 h3 h4)
  subst h0 h1 h3
  go_enter Try.func41, Try.ntmps41
  go_wp2_with (first | (go_at_call_of 55 text; refine (textFits_any text _ ht).mono ?_; rintro e w' ⟨rfl, rfl⟩) | (go_at_call_of 55 key; refine (textFits_any key _ hk).mono ?_; rintro e w' ⟨rfl, rfl⟩) | go_in)
  go_ret
  refine ⟨ret_int (unhide hcode).symm, ?_⟩
  first | exact (Below.refl _ _).alloc (Nat.le_refl _) _ | exact ((Below.refl _ _).alloc (Nat.le_refl _) _).alloc (by simp) _

set_option maxHeartbeats 400000 in
theorem cellFault_g4k (kind num n : Int) (text key : ByteArray) (w : World) (ht : text.size ≤ 9223372036854775807) (hk : key.size ≤ 9223372036854775807) (h0 : kind = 4) (h1 : num = 0) (h2 : text.toList ≠ []) (h3 : n = 0) (h4 : M.textOk text = true) (h5 : M.textOk key = false) :
    Calls Try.prog 41 #[.agg #[.int .i64 kind, .int .i64 num, .string text, .string key, .int .i64 n]] w fun e w' => e = .returned (.int .i64 (M.cellCode ⟨kind, num, text, key, n⟩)) ∧ Below w.heap.size w w' := by
  have hcode := hide (code_g4k kind num n text key h0 h1 h2 h3 h4 h5)
  subst h0 h1 h3
  go_enter Try.func41, Try.ntmps41
  go_wp2_with (first | (go_at_call_of 55 text; refine (textFits_any text _ ht).mono ?_; rintro e w' ⟨rfl, rfl⟩) | (go_at_call_of 55 key; refine (textFits_any key _ hk).mono ?_; rintro e w' ⟨rfl, rfl⟩) | go_in)
  go_ret
  refine ⟨ret_int (unhide hcode).symm, ?_⟩
  first | exact (Below.refl _ _).alloc (Nat.le_refl _) _ | exact ((Below.refl _ _).alloc (Nat.le_refl _) _).alloc (by simp) _

set_option maxHeartbeats 400000 in
theorem cellFault_g4o (kind num n : Int) (text key : ByteArray) (w : World) (ht : text.size ≤ 9223372036854775807) (hk : key.size ≤ 9223372036854775807) (h0 : kind = 4) (h1 : num = 0) (h2 : text.toList ≠ []) (h3 : n = 0) (h4 : M.textOk text = true) (h5 : M.textOk key = true) :
    Calls Try.prog 41 #[.agg #[.int .i64 kind, .int .i64 num, .string text, .string key, .int .i64 n]] w fun e w' => e = .returned (.int .i64 (M.cellCode ⟨kind, num, text, key, n⟩)) ∧ Below w.heap.size w w' := by
  have hcode := hide (code_g4o kind num n text key h0 h1 h2 h3 h4 h5)
  subst h0 h1 h3
  go_enter Try.func41, Try.ntmps41
  go_wp2_with (first | (go_at_call_of 55 text; refine (textFits_any text _ ht).mono ?_; rintro e w' ⟨rfl, rfl⟩) | (go_at_call_of 55 key; refine (textFits_any key _ hk).mono ?_; rintro e w' ⟨rfl, rfl⟩) | go_in)
  go_ret
  refine ⟨ret_int (unhide hcode).symm, ?_⟩
  first | exact (Below.refl _ _).alloc (Nat.le_refl _) _ | exact ((Below.refl _ _).alloc (Nat.le_refl _) _).alloc (by simp) _

set_option maxHeartbeats 400000 in
theorem cellFault_g5t (kind num n : Int) (text key : ByteArray) (w : World) (ht : text.size ≤ 9223372036854775807) (hk : key.size ≤ 9223372036854775807) (h0 : kind = 5) (h1 : num = 0) (h2 : text.toList = []) (h3 : 0 < n) (h4 : n ≤ 200) (h5 : M.textOk text = false) :
    Calls Try.prog 41 #[.agg #[.int .i64 kind, .int .i64 num, .string text, .string key, .int .i64 n]] w fun e w' => e = .returned (.int .i64 (M.cellCode ⟨kind, num, text, key, n⟩)) ∧ Below w.heap.size w w' := by
  have hcode := hide (code_g5t kind num n text key h0 h1 h2 h3 h4 h5)
  subst h0 h1
  go_enter Try.func41, Try.ntmps41
  go_wp2_with (first | (go_at_call_of 55 text; refine (textFits_any text _ ht).mono ?_; rintro e w' ⟨rfl, rfl⟩) | (go_at_call_of 55 key; refine (textFits_any key _ hk).mono ?_; rintro e w' ⟨rfl, rfl⟩) | go_in)
  go_ret
  refine ⟨ret_int (unhide hcode).symm, ?_⟩
  first | exact (Below.refl _ _).alloc (Nat.le_refl _) _ | exact ((Below.refl _ _).alloc (Nat.le_refl _) _).alloc (by simp) _

set_option maxHeartbeats 400000 in
theorem cellFault_g5k (kind num n : Int) (text key : ByteArray) (w : World) (ht : text.size ≤ 9223372036854775807) (hk : key.size ≤ 9223372036854775807) (h0 : kind = 5) (h1 : num = 0) (h2 : text.toList = []) (h3 : 0 < n) (h4 : n ≤ 200) (h5 : M.textOk text = true) (h6 : M.textOk key = false) :
    Calls Try.prog 41 #[.agg #[.int .i64 kind, .int .i64 num, .string text, .string key, .int .i64 n]] w fun e w' => e = .returned (.int .i64 (M.cellCode ⟨kind, num, text, key, n⟩)) ∧ Below w.heap.size w w' := by
  have hcode := hide (code_g5k kind num n text key h0 h1 h2 h3 h4 h5 h6)
  subst h0 h1
  go_enter Try.func41, Try.ntmps41
  go_wp2_with (first | (go_at_call_of 55 text; refine (textFits_any text _ ht).mono ?_; rintro e w' ⟨rfl, rfl⟩) | (go_at_call_of 55 key; refine (textFits_any key _ hk).mono ?_; rintro e w' ⟨rfl, rfl⟩) | go_in)
  go_ret
  refine ⟨ret_int (unhide hcode).symm, ?_⟩
  first | exact (Below.refl _ _).alloc (Nat.le_refl _) _ | exact ((Below.refl _ _).alloc (Nat.le_refl _) _).alloc (by simp) _

set_option maxHeartbeats 400000 in
theorem cellFault_g5o (kind num n : Int) (text key : ByteArray) (w : World) (ht : text.size ≤ 9223372036854775807) (hk : key.size ≤ 9223372036854775807) (h0 : kind = 5) (h1 : num = 0) (h2 : text.toList = []) (h3 : 0 < n) (h4 : n ≤ 200) (h5 : M.textOk text = true) (h6 : M.textOk key = true) :
    Calls Try.prog 41 #[.agg #[.int .i64 kind, .int .i64 num, .string text, .string key, .int .i64 n]] w fun e w' => e = .returned (.int .i64 (M.cellCode ⟨kind, num, text, key, n⟩)) ∧ Below w.heap.size w w' := by
  have hcode := hide (code_g5o kind num n text key h0 h1 h2 h3 h4 h5 h6)
  subst h0 h1
  go_enter Try.func41, Try.ntmps41
  go_wp2_with (first | (go_at_call_of 55 text; refine (textFits_any text _ ht).mono ?_; rintro e w' ⟨rfl, rfl⟩) | (go_at_call_of 55 key; refine (textFits_any key _ hk).mono ?_; rintro e w' ⟨rfl, rfl⟩) | go_in)
  go_ret
  refine ⟨ret_int (unhide hcode).symm, ?_⟩
  first | exact (Below.refl _ _).alloc (Nat.le_refl _) _ | exact ((Below.refl _ _).alloc (Nat.le_refl _) _).alloc (by simp) _

set_option maxHeartbeats 400000 in
theorem cellFault_g6t (kind num n : Int) (text key : ByteArray) (w : World) (ht : text.size ≤ 9223372036854775807) (hk : key.size ≤ 9223372036854775807) (h0 : kind = 6) (h1 : num = 0) (h2 : text.toList = []) (h3 : 0 < n) (h4 : n ≤ 200) (h5 : M.textOk text = false) :
    Calls Try.prog 41 #[.agg #[.int .i64 kind, .int .i64 num, .string text, .string key, .int .i64 n]] w fun e w' => e = .returned (.int .i64 (M.cellCode ⟨kind, num, text, key, n⟩)) ∧ Below w.heap.size w w' := by
  have hcode := hide (code_g6t kind num n text key h0 h1 h2 h3 h4 h5)
  subst h0 h1
  go_enter Try.func41, Try.ntmps41
  go_wp2_with (first | (go_at_call_of 55 text; refine (textFits_any text _ ht).mono ?_; rintro e w' ⟨rfl, rfl⟩) | (go_at_call_of 55 key; refine (textFits_any key _ hk).mono ?_; rintro e w' ⟨rfl, rfl⟩) | go_in)
  go_ret
  refine ⟨ret_int (unhide hcode).symm, ?_⟩
  first | exact (Below.refl _ _).alloc (Nat.le_refl _) _ | exact ((Below.refl _ _).alloc (Nat.le_refl _) _).alloc (by simp) _

set_option maxHeartbeats 400000 in
theorem cellFault_g6k (kind num n : Int) (text key : ByteArray) (w : World) (ht : text.size ≤ 9223372036854775807) (hk : key.size ≤ 9223372036854775807) (h0 : kind = 6) (h1 : num = 0) (h2 : text.toList = []) (h3 : 0 < n) (h4 : n ≤ 200) (h5 : M.textOk text = true) (h6 : M.textOk key = false) :
    Calls Try.prog 41 #[.agg #[.int .i64 kind, .int .i64 num, .string text, .string key, .int .i64 n]] w fun e w' => e = .returned (.int .i64 (M.cellCode ⟨kind, num, text, key, n⟩)) ∧ Below w.heap.size w w' := by
  have hcode := hide (code_g6k kind num n text key h0 h1 h2 h3 h4 h5 h6)
  subst h0 h1
  go_enter Try.func41, Try.ntmps41
  go_wp2_with (first | (go_at_call_of 55 text; refine (textFits_any text _ ht).mono ?_; rintro e w' ⟨rfl, rfl⟩) | (go_at_call_of 55 key; refine (textFits_any key _ hk).mono ?_; rintro e w' ⟨rfl, rfl⟩) | go_in)
  go_ret
  refine ⟨ret_int (unhide hcode).symm, ?_⟩
  first | exact (Below.refl _ _).alloc (Nat.le_refl _) _ | exact ((Below.refl _ _).alloc (Nat.le_refl _) _).alloc (by simp) _

set_option maxHeartbeats 400000 in
theorem cellFault_g6o (kind num n : Int) (text key : ByteArray) (w : World) (ht : text.size ≤ 9223372036854775807) (hk : key.size ≤ 9223372036854775807) (h0 : kind = 6) (h1 : num = 0) (h2 : text.toList = []) (h3 : 0 < n) (h4 : n ≤ 200) (h5 : M.textOk text = true) (h6 : M.textOk key = true) :
    Calls Try.prog 41 #[.agg #[.int .i64 kind, .int .i64 num, .string text, .string key, .int .i64 n]] w fun e w' => e = .returned (.int .i64 (M.cellCode ⟨kind, num, text, key, n⟩)) ∧ Below w.heap.size w w' := by
  have hcode := hide (code_g6o kind num n text key h0 h1 h2 h3 h4 h5 h6)
  subst h0 h1
  go_enter Try.func41, Try.ntmps41
  go_wp2_with (first | (go_at_call_of 55 text; refine (textFits_any text _ ht).mono ?_; rintro e w' ⟨rfl, rfl⟩) | (go_at_call_of 55 key; refine (textFits_any key _ hk).mono ?_; rintro e w' ⟨rfl, rfl⟩) | go_in)
  go_ret
  refine ⟨ret_int (unhide hcode).symm, ?_⟩
  first | exact (Below.refl _ _).alloc (Nat.le_refl _) _ | exact ((Below.refl _ _).alloc (Nat.le_refl _) _).alloc (by simp) _

theorem cellFault_any (c : M.Cl) (w : World) (ht : c.text.size ≤ 9223372036854775807) (hk : c.key.size ≤ 9223372036854775807) :
    Calls Try.prog 41 #[c.agg] w fun e w' => e = .returned (.int .i64 (M.cellCode c)) ∧ Below w.heap.size w w' := by
  obtain ⟨kind, num, text, key, n⟩ := c
  exact split_cell kind num n text key _ (cellFault_low kind num n text key w ht hk) (cellFault_high kind num n text key w ht hk) (cellFault_numA kind num n text key w ht hk) (cellFault_txtA kind num n text key w ht hk) (cellFault_txtB kind num n text key w ht hk) (cellFault_nA kind num n text key w ht hk) (cellFault_nB kind num n text key w ht hk) (cellFault_nC kind num n text key w ht hk) (cellFault_r3a kind num n text key w ht hk) (cellFault_r3b kind num n text key w ht hk) (cellFault_r5a kind num n text key w ht hk) (cellFault_r5b kind num n text key w ht hk) (cellFault_r6a kind num n text key w ht hk) (cellFault_r6b kind num n text key w ht hk) (cellFault_g0t kind num n text key w ht hk) (cellFault_g0k kind num n text key w ht hk) (cellFault_g0o kind num n text key w ht hk) (cellFault_g3t kind num n text key w ht hk) (cellFault_g3k kind num n text key w ht hk) (cellFault_g3o kind num n text key w ht hk) (cellFault_g4t kind num n text key w ht hk) (cellFault_g4k kind num n text key w ht hk) (cellFault_g4o kind num n text key w ht hk) (cellFault_g5t kind num n text key w ht hk) (cellFault_g5k kind num n text key w ht hk) (cellFault_g5o kind num n text key w ht hk) (cellFault_g6t kind num n text key w ht hk) (cellFault_g6k kind num n text key w ht hk) (cellFault_g6o kind num n text key w ht hk)

end Go.Proofs.Ytlmibdddfjbbdaa
