/-
  What a number in a text is: spec.l2Value.
-/
import Derived.Test.YtabpjknbdahddaaGreatDoorNumT
namespace Go.Proofs.YtabpjknbdahddaaGreatDoor
open Go.RowKit
set_option linter.unusedVariables false

namespace J
/-- The number that the first k digits tell. -/
def valK (s : ByteArray) (k : Nat) : Int := (s.data.toList.take k).foldl (fun n b => n * 10 + ((b.toNat : Int) - 48)) 0
theorem valK_zero (s : ByteArray) : valK s 0 = 0 := rfl
theorem valK_succ (s : ByteArray) (k : Nat) (h : k < s.size) : valK s (k + 1) = valK s k * 10 + ((s[k].toNat : Int) - 48) := by
  unfold valK; rw [take_snoc s k h, List.foldl_append]; rfl
def allDig (s : ByteArray) : Prop := ∀ k (h : k < s.size), dig s[k] = true
theorem valK_bd (s : ByteArray) (hd : allDig s) (k : Nat) (hk : k ≤ s.size) : 0 ≤ valK s k ∧ valK s k < ((10 ^ k : Nat) : Int) := by
  induction k with
  | zero => rw [valK_zero]; exact ⟨by omega, by simp⟩
  | succ k ih =>
    have h1 := ih (by omega)
    have h2 := dig_yes (hd k (by omega))
    rw [valK_succ s k (by omega), Nat.pow_succ]
    push_cast at h1 ⊢
    omega
theorem valK_small (s : ByteArray) (hd : allDig s) (k : Nat) (hk : k ≤ s.size) (h16 : k ≤ 16) : 0 ≤ valK s k ∧ valK s k < 10000000000000000 := by
  have h1 := valK_bd s hd k hk
  have h2 : 10 ^ k ≤ 10 ^ 16 := Nat.pow_le_pow_right (by omega) h16
  have h3 : (10 : Nat) ^ 16 = 10000000000000000 := by decide
  omega
/-- What a numeral is: its number, and whether it is one of a value. -/
def numVal (neg : Bool) (d : ByteArray) : Int × Bool :=
  if 16 < d.size ∨ 1000000000000000 < valK d d.size then (0, false) else if neg = true then (-(valK d d.size), true) else (valK d d.size, true)
end J

set_option maxHeartbeats 2000000 in
/-- The loop over the digits d, and what follows it; the text is s, with or without a sign. -/
theorem l2Value_plain (s : ByteArray) (w : World) (h0 : 0 < s.size) (hs : s.size ≤ 1048576) (hne : ¬ (s[0].toNat : Int) = 45) (hd : J.allDig s) :
    Calls Tryz.prog 118 #[.string s] w fun e w' => e = .returned (.tuple #[.int .i64 (J.numVal false s).1, .bool (J.numVal false s).2]) ∧ w' = w := by
  have hneb : ((s[0].toNat : Int) == 45) = false := by simp [hne]
  have h0z : (0 : Int) < (s.size : Int) := by omega
  by_cases h16 : 16 < s.size
  · have fin := hide (show J.numVal false s = (0, false) by unfold J.numVal; rw [if_pos (.inl h16)])
    go_enter Tryz.func118, Tryz.ntmps118
    go_wp2_with fail
    go_ret2
    exact ⟨by rw [unhide fin] <;> rfl, rfl⟩
  · have HD := hide hd
    clear hd hne
    go_enter Tryz.func118, Tryz.ntmps118
    go_wp2_with fail
    go_loopg [5, 6] s.size (fun gh s5 s6 wr => ∃ (k : Nat) (n : Int), Hid (gh = s.size - k) ∧ s6 = .int .i64 k ∧ s5 = .int .i64 n ∧ k ≤ s.size ∧ Hid (n = J.valK s k) ∧ Hid (wr = w))
    case atStart => exact ⟨0, 0, rfl, rfl, rfl, by omega, rfl, rfl⟩
    case round =>
      obtain ⟨k, n, hg, rfl, rfl, hk, hn, hw⟩ := hrel
      have hbd := J.valK_small s (unhide HD) k hk (by omega)
      rw [← hn.out] at hbd
      by_cases hlt : k < s.size
      · have hltz : (k : Int) < (s.size : Int) := by omega
        have hdd := J.dig_yes ((unhide HD) k hlt)
        have hn2 := hide (show n * 10 + ((s[k].toNat : Int) - 48) = J.valK s (k + 1) by rw [J.valK_succ s k hlt, hn.out])
        go_wp2_with fail
        go_roundg (s.size - (k + 1))
        case rel => exact ⟨k + 1, _, rfl, by go_num, rfl, by omega, unhide hn2, hw⟩
        case measure => have := hg.out; omega
      · have hltz : ¬ (k : Int) < (s.size : Int) := by omega
        have hke : k = s.size := by omega
        by_cases hbig : 1000000000000000 < n
        · have fin := hide (show J.numVal false s = (0, false) by unfold J.numVal; rw [if_pos (.inr (by rw [← hke, ← hn.out]; exact hbig))])
          clear hke
          go_wp2_with fail
          go_ret2
          exact ⟨by rw [unhide fin] <;> rfl, hw⟩
        · have fin := hide (show J.numVal false s = (n, true) by unfold J.numVal; rw [if_neg (by rw [← hke, ← hn.out]; omega), if_neg (by simp), hn.out, hke])
          clear hke
          go_wp2_with fail
          go_ret2
          exact ⟨by rw [unhide fin] <;> rfl, hw⟩
set_option maxHeartbeats 2000000 in
/-- A number with a sign: its digits are d. -/
theorem l2Value_neg (s d : ByteArray) (w : World) (h0 : 0 < s.size) (hs : s.size ≤ 1048576) (hne : (s[0].toNat : Int) = 45) (hde : d = s.extract 1 s.size) (hd : J.allDig d) :
    Calls Tryz.prog 118 #[.string s] w fun e w' => e = .returned (.tuple #[.int .i64 (J.numVal true d).1, .bool (J.numVal true d).2]) ∧ w' = w := by
  have hneb : ((s[0].toNat : Int) == 45) = true := by simp [hne]
  have h0z : (0 : Int) < (s.size : Int) := by omega
  have h1z : (1 : Int) ≤ (s.size : Int) := by omega
  have hdz : d.size ≤ 1048576 := by rw [hde, ByteArray.size_extract]; omega
  have hex : s.extract 1 s.size = d := hde.symm
  clear hde
  by_cases h16 : 16 < d.size
  · have fin := hide (show J.numVal true d = (0, false) by unfold J.numVal; rw [if_pos (.inl h16)])
    go_enter Tryz.func118, Tryz.ntmps118
    go_wp2_with fail
    go_ret2
    exact ⟨by rw [unhide fin] <;> rfl, rfl⟩
  · have HD := hide hd
    clear hd hne
    go_enter Tryz.func118, Tryz.ntmps118
    go_wp2_with fail
    go_loopg [5, 6] d.size (fun gh s5 s6 wr => ∃ (k : Nat) (n : Int), Hid (gh = d.size - k) ∧ s6 = .int .i64 k ∧ s5 = .int .i64 n ∧ k ≤ d.size ∧ Hid (n = J.valK d k) ∧ Hid (wr = w))
    case atStart => exact ⟨0, 0, rfl, rfl, rfl, by omega, rfl, rfl⟩
    case round =>
      obtain ⟨k, n, hg, rfl, rfl, hk, hn, hw⟩ := hrel
      have hbd := J.valK_small d (unhide HD) k hk (by omega)
      rw [← hn.out] at hbd
      by_cases hlt : k < d.size
      · have hltz : (k : Int) < (d.size : Int) := by omega
        have hdd := J.dig_yes ((unhide HD) k hlt)
        have hn2 := hide (show n * 10 + ((d[k].toNat : Int) - 48) = J.valK d (k + 1) by rw [J.valK_succ d k hlt, hn.out])
        go_wp2_with fail
        go_roundg (d.size - (k + 1))
        case rel => exact ⟨k + 1, _, rfl, by go_num, rfl, by omega, unhide hn2, hw⟩
        case measure => have := hg.out; omega
      · have hltz : ¬ (k : Int) < (d.size : Int) := by omega
        have hke : k = d.size := by omega
        by_cases hbig : 1000000000000000 < n
        · have fin := hide (show J.numVal true d = (0, false) by unfold J.numVal; rw [if_pos (.inr (by rw [← hke, ← hn.out]; exact hbig))])
          clear hke
          go_wp2_with fail
          go_ret2
          exact ⟨by rw [unhide fin] <;> rfl, hw⟩
        · have fin := hide (show J.numVal true d = (-n, true) by unfold J.numVal; rw [if_neg (by rw [← hke, ← hn.out]; omega), if_pos rfl, hn.out, hke])
          clear hke
          go_wp2_with fail
          go_ret2
          exact ⟨by rw [unhide fin] <;> rfl, hw⟩

namespace J
/-- Is it a numeral, whole? -/
def isNum (s : ByteArray) : Prop := (num s 0).1 = s.size ∧ 0 < s.size
theorem run_all (p : UInt8 → Bool) (s : ByteArray) (k : Nat) (h : run p s k = s.size) : ∀ j (hj : j < s.size), k ≤ j → p s[j] = true := by
  intro j hj hkj
  induction hm : s.size - k generalizing k with
  | zero => omega
  | succ m ih =>
    have hk : k < s.size := by omega
    cases hb : p s[k] with
    | false => rw [run_stop p s k hk hb] at h; omega
    | true =>
      by_cases e : j = k
      · subst e; exact hb
      · exact ih (k + 1) (by rw [← run_go p s k hk hb]; exact h) (by omega) (by omega)
end J
end Go.Proofs.YtabpjknbdahddaaGreatDoor
