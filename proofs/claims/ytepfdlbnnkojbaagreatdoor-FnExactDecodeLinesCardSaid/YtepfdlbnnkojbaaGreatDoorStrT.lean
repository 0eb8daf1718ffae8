/-
  spec.l2Hex, spec.l2Bad, spec.l2Escape.
  A text between quotes: spec.l2Quote makes it as a string, impl.appendQuoted lays it behind a row of bytes of the call's own.
  spec.l2String: a string in quotes.
-/
import Derived.Test.YtepfdlbnnkojbaaGreatDoorSkipT
import Derived.Test.YtepfdlbnnkojbaaGreatDoorText
import Derived.Test.YtepfdlbnnkojbaaGreatDoorMem
import Derived.Deep.LoopGhost
import Derived.Deep.QuietTactic
import Derived.BigQuiet
import Derived.Laws.IdiomStrings
import Derived.Lib.OthersKept
import Derived.Lib.BufferKept
import Derived.Laws.BytesArg
namespace Go.Proofs.YtepfdlbnnkojbaaGreatDoor
open Go.RowKit
set_option linter.unusedVariables false
set_option linter.unusedSimpArgs false

theorem own_drewN {w : World} {b : Nat} {t : TypeId} {xs : List Value} (h : Own w b t xs) (q : Nat) : Own (w.drewN q) b t xs := h
theorem below_drewN3 {B : Nat} {a b : World} (h : Below B a b) (q : Nat) : Below B a (b.drewN q) := ⟨h.os, h.tape, h.output, h.size, h.block⟩

set_option maxHeartbeats 1000000 in
theorem l1In_str (a lo hi : Int) (w : World) : Calls Tryz.prog 58 #[.int .i64 a, .int .i64 lo, .int .i64 hi] w fun e w' => e = .returned (.bool (decide (lo ≤ a) && decide (a ≤ hi))) ∧ w' = w := by
  by_cases h1 : lo ≤ a
  · by_cases h2 : a ≤ hi
    · go_enter Tryz.func58, Tryz.ntmps58
      go_wp2
      go_ret
      exact ⟨ret_bool (by first | simp [h1, h2] | (simp; omega)), rfl⟩
    · go_enter Tryz.func58, Tryz.ntmps58
      go_wp2
      go_ret
      exact ⟨ret_bool (by first | simp [h1, h2] | (simp; omega)), rfl⟩
  · go_enter Tryz.func58, Tryz.ntmps58
    go_wp2
    go_ret
    exact ⟨ret_bool (by simp; omega), rfl⟩

set_option maxHeartbeats 1000000 in
theorem l2Bad_any (c k : Int) (w : World) : Calls Tryz.prog 27 #[.int .i64 c, .int .i64 k] w fun e w' => e = .returned (.agg #[.slice none 0 0, .string ByteArray.empty, .int .i64 0, .int .i64 c, .int .i64 k]) ∧ Below w.heap.size w w' := by
  go_enter Tryz.func27, Tryz.ntmps27
  go_wp2_with fail
  refine bodyPost_ret (v := .agg #[.slice none 0 0, .string ByteArray.empty, .int .i64 0, .int .i64 c, .int .i64 k]) (by simp [results, Tryz.results27, go_sem]; try rfl) rfl ⟨rfl, ?_⟩
  exact (Below.refl _ _).alloc (Nat.le_refl _) _

set_option maxHeartbeats 1000000 in
theorem l2Hex_0 (c : Int) (h0 : 0 ≤ c) (h1 : c ≤ 255) (w : World) (h : c < 48) : Calls Tryz.prog 57 #[.int .u8 c] w fun e w' => e = .returned (.int .i64 (-1)) ∧ w' = w := by
  go_enter Tryz.func57, Tryz.ntmps57
  go_wp2_with fail
  go_ret
  exact ⟨by first | rfl | exact ret_int (by omega), rfl⟩

set_option maxHeartbeats 1000000 in
theorem l2Hex_1 (c : Int) (h0 : 0 ≤ c) (h1 : c ≤ 255) (w : World) (h : 48 ≤ c ∧ c ≤ 57) : Calls Tryz.prog 57 #[.int .u8 c] w fun e w' => e = .returned (.int .i64 (c - 48)) ∧ w' = w := by
  go_enter Tryz.func57, Tryz.ntmps57
  go_wp2_with fail
  go_ret
  exact ⟨by first | rfl | exact ret_int (by omega), rfl⟩

set_option maxHeartbeats 1000000 in
theorem l2Hex_2 (c : Int) (h0 : 0 ≤ c) (h1 : c ≤ 255) (w : World) (h : 57 < c ∧ c < 65) : Calls Tryz.prog 57 #[.int .u8 c] w fun e w' => e = .returned (.int .i64 (-1)) ∧ w' = w := by
  go_enter Tryz.func57, Tryz.ntmps57
  go_wp2_with fail
  go_ret
  exact ⟨by first | rfl | exact ret_int (by omega), rfl⟩

set_option maxHeartbeats 1000000 in
theorem l2Hex_3 (c : Int) (h0 : 0 ≤ c) (h1 : c ≤ 255) (w : World) (h : 65 ≤ c ∧ c ≤ 70) : Calls Tryz.prog 57 #[.int .u8 c] w fun e w' => e = .returned (.int .i64 (c - 55)) ∧ w' = w := by
  go_enter Tryz.func57, Tryz.ntmps57
  go_wp2_with fail
  go_ret
  exact ⟨by first | rfl | exact ret_int (by omega), rfl⟩

set_option maxHeartbeats 1000000 in
theorem l2Hex_4 (c : Int) (h0 : 0 ≤ c) (h1 : c ≤ 255) (w : World) (h : 70 < c ∧ c < 97) : Calls Tryz.prog 57 #[.int .u8 c] w fun e w' => e = .returned (.int .i64 (-1)) ∧ w' = w := by
  go_enter Tryz.func57, Tryz.ntmps57
  go_wp2_with fail
  go_ret
  exact ⟨by first | rfl | exact ret_int (by omega), rfl⟩

set_option maxHeartbeats 1000000 in
theorem l2Hex_5 (c : Int) (h0 : 0 ≤ c) (h1 : c ≤ 255) (w : World) (h : 97 ≤ c ∧ c ≤ 102) : Calls Tryz.prog 57 #[.int .u8 c] w fun e w' => e = .returned (.int .i64 (c - 87)) ∧ w' = w := by
  go_enter Tryz.func57, Tryz.ntmps57
  go_wp2_with fail
  go_ret
  exact ⟨by first | rfl | exact ret_int (by omega), rfl⟩

set_option maxHeartbeats 1000000 in
theorem l2Hex_6 (c : Int) (h0 : 0 ≤ c) (h1 : c ≤ 255) (w : World) (h : 102 < c) : Calls Tryz.prog 57 #[.int .u8 c] w fun e w' => e = .returned (.int .i64 (-1)) ∧ w' = w := by
  go_enter Tryz.func57, Tryz.ntmps57
  go_wp2_with fail
  go_ret
  exact ⟨by first | rfl | exact ret_int (by omega), rfl⟩

theorem l2Hex_any (c : Int) (h0 : 0 ≤ c) (h1 : c ≤ 255) (w : World) : Calls Tryz.prog 57 #[.int .u8 c] w fun e w' => e = .returned (.int .i64 (J.hexI c)) ∧ w' = w := by
  unfold J.hexI
  by_cases a1 : 48 ≤ c ∧ c ≤ 57
  · rw [if_pos a1]; exact l2Hex_1 c h0 h1 w a1
  rw [if_neg a1]
  by_cases a2 : 97 ≤ c ∧ c ≤ 102
  · rw [if_pos a2]; exact l2Hex_5 c h0 h1 w a2
  rw [if_neg a2]
  by_cases a3 : 65 ≤ c ∧ c ≤ 70
  · rw [if_pos a3]; exact l2Hex_3 c h0 h1 w a3
  rw [if_neg a3]
  by_cases d0 : c < 48
  · exact l2Hex_0 c h0 h1 w d0
  by_cases d1 : c < 65
  · exact l2Hex_2 c h0 h1 w (by omega)
  by_cases d2 : c < 97
  · exact l2Hex_4 c h0 h1 w (by omega)
  · exact l2Hex_6 c h0 h1 w (by omega)
/-- What spec.l2Escape answers. -/
def EscSaid (R : (Int × Nat) ⊕ (Int × Nat)) (e : Ending) : Prop :=
  (∃ c m, R = .inr (c, m) ∧ e = .returned (.tuple #[.int .u8 c, .agg #[.slice none 0 0, .string ByteArray.empty, .int .i64 (m : Int), .int .i64 0, .int .i64 0]]) ) ∨ (∃ (c : Int) (m : Nat), R = .inl (c, m) ∧ e = .returned (.tuple #[.int .u8 0, .agg #[.slice none 0 0, .string ByteArray.empty, .int .i64 0, .int .i64 c, .int .i64 (m : Int)]]))

set_option maxRecDepth 100000 in
set_option maxHeartbeats 1000000 in
theorem l2Escape_plain0 (s : ByteArray) (a : Nat) (w : World) (hs : s.size ≤ 1048576) (h : a + 1 < s.size) (hc : (s[a + 1].toNat : Int) = 34) :
    Calls Tryz.prog 47 #[.string s, .int .i64 a] w fun e w' => e = .returned (.tuple #[.int .u8 34, .agg #[.slice none 0 0, .string ByteArray.empty, .int .i64 ((a + 2 : Nat) : Int), .int .i64 0, .int .i64 0]]) ∧ Below w.heap.size w w' := by
  have hI : ¬ (s.size : Int) ≤ (a : Int) + 1 := by omega
  have hI2 : (a : Int) + 1 < (s.size : Int) := by omega
  go_enter Tryz.func47, Tryz.ntmps47
  go_wp2_with fail
  refine bodyPost_ret (v := .tuple #[.int .u8 34, .agg #[.slice none 0 0, .string ByteArray.empty, .int .i64 ((a + 2 : Nat) : Int), .int .i64 0, .int .i64 0]]) (by simp [results, Tryz.results47, go_sem]; try rfl) rfl ⟨rfl, ?_⟩
  exact (Below.refl _ _).alloc (Nat.le_refl _) _

set_option maxRecDepth 100000 in
set_option maxHeartbeats 1000000 in
theorem l2Escape_plain1 (s : ByteArray) (a : Nat) (w : World) (hs : s.size ≤ 1048576) (h : a + 1 < s.size) (hc : (s[a + 1].toNat : Int) = 92) :
    Calls Tryz.prog 47 #[.string s, .int .i64 a] w fun e w' => e = .returned (.tuple #[.int .u8 92, .agg #[.slice none 0 0, .string ByteArray.empty, .int .i64 ((a + 2 : Nat) : Int), .int .i64 0, .int .i64 0]]) ∧ Below w.heap.size w w' := by
  have hI : ¬ (s.size : Int) ≤ (a : Int) + 1 := by omega
  have hI2 : (a : Int) + 1 < (s.size : Int) := by omega
  go_enter Tryz.func47, Tryz.ntmps47
  go_wp2_with fail
  refine bodyPost_ret (v := .tuple #[.int .u8 92, .agg #[.slice none 0 0, .string ByteArray.empty, .int .i64 ((a + 2 : Nat) : Int), .int .i64 0, .int .i64 0]]) (by simp [results, Tryz.results47, go_sem]; try rfl) rfl ⟨rfl, ?_⟩
  exact (Below.refl _ _).alloc (Nat.le_refl _) _

set_option maxRecDepth 100000 in
set_option maxHeartbeats 1000000 in
theorem l2Escape_plain2 (s : ByteArray) (a : Nat) (w : World) (hs : s.size ≤ 1048576) (h : a + 1 < s.size) (hc : (s[a + 1].toNat : Int) = 47) :
    Calls Tryz.prog 47 #[.string s, .int .i64 a] w fun e w' => e = .returned (.tuple #[.int .u8 47, .agg #[.slice none 0 0, .string ByteArray.empty, .int .i64 ((a + 2 : Nat) : Int), .int .i64 0, .int .i64 0]]) ∧ Below w.heap.size w w' := by
  have hI : ¬ (s.size : Int) ≤ (a : Int) + 1 := by omega
  have hI2 : (a : Int) + 1 < (s.size : Int) := by omega
  go_enter Tryz.func47, Tryz.ntmps47
  go_wp2_with fail
  refine bodyPost_ret (v := .tuple #[.int .u8 47, .agg #[.slice none 0 0, .string ByteArray.empty, .int .i64 ((a + 2 : Nat) : Int), .int .i64 0, .int .i64 0]]) (by simp [results, Tryz.results47, go_sem]; try rfl) rfl ⟨rfl, ?_⟩
  exact (Below.refl _ _).alloc (Nat.le_refl _) _

set_option maxRecDepth 100000 in
set_option maxHeartbeats 1000000 in
theorem l2Escape_end (s : ByteArray) (a : Nat) (w : World) (hs : s.size ≤ 1048576) (h : a + 1 = s.size) :
    Calls Tryz.prog 47 #[.string s, .int .i64 a] w fun e w' => e = .returned (.tuple #[.int .u8 0, .agg #[.slice none 0 0, .string ByteArray.empty, .int .i64 0, .int .i64 5, .int .i64 ((a + 1 : Nat) : Int)]]) ∧ Below w.heap.size w w' := by
  have hI : (s.size : Int) ≤ (a : Int) + 1 := by omega
  have HB := hide (fun wq => l2Bad_any 5 (s.size : Int) wq)
  have haI : (a : Int) ≤ 1048576 := by omega
  rw [h]
  clear h
  go_enter Tryz.func47, Tryz.ntmps47
  go_wp2_with fail
  refine ((unhide HB) _).mono ?_
  rintro e w1 ⟨rfl, hb1⟩
  have hX : Own w1 w.heap.size 36 [.slice none 0 0, .string ByteArray.empty, .int .i64 0, .int .i64 0, .int .i64 0] := Own.below ⟨_, heap_alloc_new _ _, rfl⟩ hb1 (by simp)
  have B1 : Below w.heap.size w w1 := ((Below.refl _ _).alloc (Nat.le_refl _) (.cells #[.slice none 0 0, .string ByteArray.empty, .int .i64 0, .int .i64 0, .int .i64 0] 36)).trans (hb1.mono (by simp))
  have r0 := hX.cell 0
  have z0 := hX.frozen 0
  have r1 := hX.cell 1
  have z1 := hX.frozen 1
  have r2 := hX.cell 2
  have z2 := hX.frozen 2
  have r3 := hX.cell 3
  have z3 := hX.frozen 3
  have r4 := hX.cell 4
  have z4 := hX.frozen 4
  simp only [List.getElem?_cons_zero, List.getElem?_cons_succ] at r0 r1 r2 r3 r4
  clear hb1 HB
  go_wp2_with fail
  refine bodyPost_ret (v := .tuple #[.int .u8 0, .agg #[.slice none 0 0, .string ByteArray.empty, .int .i64 0, .int .i64 5, .int .i64 (s.size : Int)]]) (by simp [results, Tryz.results47, go_sem, r0, r1, r2, r3, r4]; try rfl) rfl ⟨rfl, ?_⟩
  exact ((((B1.setCell (Nat.le_refl _) _).setCell (Nat.le_refl _) _).setCell (Nat.le_refl _) _).setCell (Nat.le_refl _) _).setCell (Nat.le_refl _) _

set_option maxRecDepth 100000 in
set_option maxHeartbeats 4000000 in
theorem l2Escape_u (s : ByteArray) (a : Nat) (w : World) (hs : s.size ≤ 1048576) (h : a + 1 < s.size) (hne : ¬ (J.peek s (a + 1) = 34 ∨ J.peek s (a + 1) = 92 ∨ J.peek s (a + 1) = 47)) :
    Calls Tryz.prog 47 #[.string s, .int .i64 a] w fun e w' => EscSaid (J.escR s (a + 1)) e ∧ Below w.heap.size w w' := by
  have HWD := hide (fun m (hm : J.wordR s (a + 1) [117, 48, 48] = .inl m) => J.escR_word hne hm)
  have HEU := hide (fun m (hm : J.wordR s (a + 1) [117, 48, 48] = .inr m) => J.escR_u hne hm)
  have HB := hide (fun (k : Int) wq => l2Bad_any 5 k wq)
  have hp1 := J.peek_in s (a + 1) h
  rw [hp1] at hne
  have e1 : ((s[a + 1].toNat : Int) == 34) = false := by simp; omega
  have e2 : ((s[a + 1].toNat : Int) == 92) = false := by simp; omega
  have e3 : ((s[a + 1].toNat : Int) == 47) = false := by simp; omega
  have hI : ¬ (s.size : Int) ≤ (a : Int) + 1 := by omega
  have hI2 : (a : Int) + 1 < (s.size : Int) := by omega
  have hw1 : IntKind.i64.wrap ((a : Int) + 1) = (a : Int) + 1 := IntWalk.i64_in _ ⟨by omega, by omega⟩
  clear hne hp1
  obtain ⟨w0, hw0⟩ : ∃ w0, w0 = w.alloc (.cells #[.slice none 0 0, .string ByteArray.empty, .int .i64 0, .int .i64 0, .int .i64 0] 36) := ⟨_, rfl⟩
  have B0 : Below w.heap.size w w0 := by rw [hw0]; exact (Below.refl _ _).alloc (Nat.le_refl _) _
  have hX0 : Own w0 w.heap.size 36 [.slice none 0 0, .string ByteArray.empty, .int .i64 0, .int .i64 0, .int .i64 0] := by rw [hw0]; exact ⟨_, heap_alloc_new _ _, rfl⟩
  go_enter Tryz.func47, Tryz.ntmps47
  go_wp2_with fail
  try (rw [show (w.alloc (.cells #[.slice none 0 0, .string { data := #[] }, .int .i64 0, .int .i64 0, .int .i64 0] 36)) = w0 from hw0.symm])
  clear hw0
  go_loopg [8] 3 (fun gh s8 wr => ∃ k : Nat, Hid (gh = 3 - k) ∧ s8 = .int .i64 k ∧ k ≤ 3 ∧ Hid (J.wordR s (a + 1) [117, 48, 48] = J.wordR s (a + 1 + k) ([117, 48, 48].drop k)) ∧ Below w0.heap.size w0 wr)
  case atStart => exact ⟨0, rfl, rfl, by omega, rfl, Below.refl _ _⟩
  case round =>
    obtain ⟨k, hg, rfl, hk, hwr, hbel⟩ := hrel
    have BW : Below w.heap.size w wr := B0.trans (hbel.mono B0.size)
    have hXd := hX0.below hbel hX0.lt
    by_cases h3 : k < 3
    · obtain rfl | rfl | rfl : k = 0 ∨ k = 1 ∨ k = 2 := by omega
      · -- place 0
        have hwr : Hid (J.wordR s (a + 1) [117, 48, 48] = J.wordR s (a + 1) [117, 48, 48]) := hwr
        have hin0 : (0 : Int) ≤ (a : Int) + 1 := by omega
        have hwant : ((({ data := #[117, 48, 48] } : ByteArray)[0]'(by decide)).toNat : Int) = 117 := rfl
        by_cases hin : a + 1 < s.size
        · have hinI : (a : Int) + 1 < (s.size : Int) := by omega
          have hinN : ¬ (s.size : Int) ≤ (a : Int) + 1 := by omega
          have hdec : decide ((s.size : Int) ≤ (a : Int) + 1) = false := decide_eq_false hinN
          have hpk := J.peek_in s (a + 1) hin
          by_cases hc : (s[a + 1].toNat : Int) = 117
          · have HW2 : Hid (J.wordR s (a + 1) [117, 48, 48] = J.wordR s (a + 1 + (0 + 1)) ([117, 48, 48].drop (0 + 1))) := hwr.out.trans (show J.wordR s (a + 1) [117, 48, 48] = J.wordR s (a + 1 + 1) [48, 48] from J.wordR_yes (by rw [hpk]; exact hc))
            have hcb : ((s[a + 1].toNat : Int) != 117) = false := by simpa using hc
            clear hpk hc
            go_wp2_with fail
            go_quiet (fail)
            go_wp2_with fail
            go_roundg (3 - (0 + 1))
            case rel => exact ⟨0 + 1, rfl, rfl, by omega, HW2, below_drewN3 hbel _⟩
            case measure => have := hg.out; omega
          · have HR := hide ((unhide HWD) (a + 1) (hwr.out.trans (show J.wordR s (a + 1) [117, 48, 48] = .inl (a + 1) from J.wordR_not (by rw [hpk]; exact hc))))
            have hcb : ((s[a + 1].toNat : Int) != 117) = true := by simpa using hc
            clear hpk hc
            go_wp2_with fail
            go_quiet (fail)
            go_wp2_with fail
            refine ((unhide HB) _ _).mono ?_
            rintro e w9 ⟨rfl, hb9⟩
            have hX9 := (own_drewN hXd _).below hb9 hXd.lt
            have B9 : Below w.heap.size w w9 := (below_drewN3 BW _).trans (hb9.mono BW.size)
            have r0 := hX9.cell 0
            have z0 := hX9.frozen 0
            have r1 := hX9.cell 1
            have z1 := hX9.frozen 1
            have r2 := hX9.cell 2
            have z2 := hX9.frozen 2
            have r3 := hX9.cell 3
            have z3 := hX9.frozen 3
            have r4 := hX9.cell 4
            have z4 := hX9.frozen 4
            simp only [List.getElem?_cons_zero, List.getElem?_cons_succ] at r0 r1 r2 r3 r4
            clear hb9
            go_wp2_with fail
            refine bodyPost_ret (v := .tuple #[.int .u8 0, .agg #[.slice none 0 0, .string ByteArray.empty, .int .i64 0, .int .i64 5, .int .i64 ((a + 1 : Nat) : Int)]]) (by simp [results, Tryz.results47, go_sem, r0, r1, r2, r3, r4]; try rfl) rfl ⟨?_, ?_⟩
            · exact .inr ⟨5, a + 1, unhide HR, rfl⟩
            · exact ((((B9.setCell (Nat.le_refl _) _).setCell (Nat.le_refl _) _).setCell (Nat.le_refl _) _).setCell (Nat.le_refl _) _).setCell (Nat.le_refl _) _
        · exact absurd h hin
      · -- place 1
        have hwk : IntKind.i64.wrap ((a : Int) + 1 + 1) = (a : Int) + 1 + 1 := IntWalk.i64_in _ ⟨by omega, by omega⟩
        have hwr : Hid (J.wordR s (a + 1) [117, 48, 48] = J.wordR s (a + 1 + 1) [48, 48]) := hwr
        have hin0 : (0 : Int) ≤ (a : Int) + 1 + 1 := by omega
        have hwant : ((({ data := #[117, 48, 48] } : ByteArray)[1]'(by decide)).toNat : Int) = 48 := rfl
        by_cases hin : a + 1 + 1 < s.size
        · have hinI : (a : Int) + 1 + 1 < (s.size : Int) := by omega
          have hinN : ¬ (s.size : Int) ≤ (a : Int) + 1 + 1 := by omega
          have hdec : decide ((s.size : Int) ≤ (a : Int) + 1 + 1) = false := decide_eq_false hinN
          have hpk := J.peek_in s (a + 1 + 1) hin
          by_cases hc : (s[a + 1 + 1].toNat : Int) = 48
          · have HW2 : Hid (J.wordR s (a + 1) [117, 48, 48] = J.wordR s (a + 1 + (1 + 1)) ([117, 48, 48].drop (1 + 1))) := hwr.out.trans (show J.wordR s (a + 1 + 1) [48, 48] = J.wordR s (a + 1 + 1 + 1) [48] from J.wordR_yes (by rw [hpk]; exact hc))
            have hcb : ((s[a + 1 + 1].toNat : Int) != 48) = false := by simpa using hc
            clear hpk hc
            go_wp2_with fail
            go_quiet (fail)
            go_wp2_with fail
            go_roundg (3 - (1 + 1))
            case rel => exact ⟨1 + 1, rfl, rfl, by omega, HW2, below_drewN3 hbel _⟩
            case measure => have := hg.out; omega
          · have HR := hide ((unhide HWD) (a + 1 + 1) (hwr.out.trans (show J.wordR s (a + 1 + 1) [48, 48] = .inl (a + 1 + 1) from J.wordR_not (by rw [hpk]; exact hc))))
            have hcb : ((s[a + 1 + 1].toNat : Int) != 48) = true := by simpa using hc
            clear hpk hc
            go_wp2_with fail
            go_quiet (fail)
            go_wp2_with fail
            refine ((unhide HB) _ _).mono ?_
            rintro e w9 ⟨rfl, hb9⟩
            have hX9 := (own_drewN hXd _).below hb9 hXd.lt
            have B9 : Below w.heap.size w w9 := (below_drewN3 BW _).trans (hb9.mono BW.size)
            have r0 := hX9.cell 0
            have z0 := hX9.frozen 0
            have r1 := hX9.cell 1
            have z1 := hX9.frozen 1
            have r2 := hX9.cell 2
            have z2 := hX9.frozen 2
            have r3 := hX9.cell 3
            have z3 := hX9.frozen 3
            have r4 := hX9.cell 4
            have z4 := hX9.frozen 4
            simp only [List.getElem?_cons_zero, List.getElem?_cons_succ] at r0 r1 r2 r3 r4
            clear hb9
            go_wp2_with fail
            refine bodyPost_ret (v := .tuple #[.int .u8 0, .agg #[.slice none 0 0, .string ByteArray.empty, .int .i64 0, .int .i64 5, .int .i64 ((a + 1 + 1 : Nat) : Int)]]) (by simp [results, Tryz.results47, go_sem, r0, r1, r2, r3, r4]; try rfl) rfl ⟨?_, ?_⟩
            · exact .inr ⟨5, a + 1 + 1, unhide HR, rfl⟩
            · exact ((((B9.setCell (Nat.le_refl _) _).setCell (Nat.le_refl _) _).setCell (Nat.le_refl _) _).setCell (Nat.le_refl _) _).setCell (Nat.le_refl _) _
        · have hinN : (s.size : Int) ≤ (a : Int) + 1 + 1 := by omega
          have hdec : decide ((s.size : Int) ≤ (a : Int) + 1 + 1) = true := decide_eq_true hinN
          have hpk := J.peek_out s (a + 1 + 1) hin
          have HR := hide ((unhide HWD) (a + 1 + 1) (hwr.out.trans (show J.wordR s (a + 1 + 1) [48, 48] = .inl (a + 1 + 1) from J.wordR_not (by rw [hpk]; decide))))
          clear hpk
          go_wp2_with fail
          go_quiet (fail)
          go_wp2_with fail
          refine ((unhide HB) _ _).mono ?_
          rintro e w9 ⟨rfl, hb9⟩
          have hX9 := (own_drewN hXd _).below hb9 hXd.lt
          have B9 : Below w.heap.size w w9 := (below_drewN3 BW _).trans (hb9.mono BW.size)
          have r0 := hX9.cell 0
          have z0 := hX9.frozen 0
          have r1 := hX9.cell 1
          have z1 := hX9.frozen 1
          have r2 := hX9.cell 2
          have z2 := hX9.frozen 2
          have r3 := hX9.cell 3
          have z3 := hX9.frozen 3
          have r4 := hX9.cell 4
          have z4 := hX9.frozen 4
          simp only [List.getElem?_cons_zero, List.getElem?_cons_succ] at r0 r1 r2 r3 r4
          clear hb9
          go_wp2_with fail
          refine bodyPost_ret (v := .tuple #[.int .u8 0, .agg #[.slice none 0 0, .string ByteArray.empty, .int .i64 0, .int .i64 5, .int .i64 ((a + 1 + 1 : Nat) : Int)]]) (by simp [results, Tryz.results47, go_sem, r0, r1, r2, r3, r4]; try rfl) rfl ⟨?_, ?_⟩
          · exact .inr ⟨5, a + 1 + 1, unhide HR, rfl⟩
          · exact ((((B9.setCell (Nat.le_refl _) _).setCell (Nat.le_refl _) _).setCell (Nat.le_refl _) _).setCell (Nat.le_refl _) _).setCell (Nat.le_refl _) _
      · -- place 2
        have hwk : IntKind.i64.wrap ((a : Int) + 1 + 2) = (a : Int) + 1 + 2 := IntWalk.i64_in _ ⟨by omega, by omega⟩
        have hwr : Hid (J.wordR s (a + 1) [117, 48, 48] = J.wordR s (a + 1 + 2) [48]) := hwr
        have hin0 : (0 : Int) ≤ (a : Int) + 1 + 2 := by omega
        have hwant : ((({ data := #[117, 48, 48] } : ByteArray)[2]'(by decide)).toNat : Int) = 48 := rfl
        by_cases hin : a + 1 + 2 < s.size
        · have hinI : (a : Int) + 1 + 2 < (s.size : Int) := by omega
          have hinN : ¬ (s.size : Int) ≤ (a : Int) + 1 + 2 := by omega
          have hdec : decide ((s.size : Int) ≤ (a : Int) + 1 + 2) = false := decide_eq_false hinN
          have hpk := J.peek_in s (a + 1 + 2) hin
          by_cases hc : (s[a + 1 + 2].toNat : Int) = 48
          · have HW2 : Hid (J.wordR s (a + 1) [117, 48, 48] = J.wordR s (a + 1 + (2 + 1)) ([117, 48, 48].drop (2 + 1))) := hwr.out.trans (show J.wordR s (a + 1 + 2) [48] = J.wordR s (a + 1 + 2 + 1) [] from J.wordR_yes (by rw [hpk]; exact hc))
            have hcb : ((s[a + 1 + 2].toNat : Int) != 48) = false := by simpa using hc
            clear hpk hc
            go_wp2_with fail
            go_quiet (fail)
            go_wp2_with fail
            go_roundg (3 - (2 + 1))
            case rel => exact ⟨2 + 1, rfl, rfl, by omega, HW2, below_drewN3 hbel _⟩
            case measure => have := hg.out; omega
          · have HR := hide ((unhide HWD) (a + 1 + 2) (hwr.out.trans (show J.wordR s (a + 1 + 2) [48] = .inl (a + 1 + 2) from J.wordR_not (by rw [hpk]; exact hc))))
            have hcb : ((s[a + 1 + 2].toNat : Int) != 48) = true := by simpa using hc
            clear hpk hc
            go_wp2_with fail
            go_quiet (fail)
            go_wp2_with fail
            refine ((unhide HB) _ _).mono ?_
            rintro e w9 ⟨rfl, hb9⟩
            have hX9 := (own_drewN hXd _).below hb9 hXd.lt
            have B9 : Below w.heap.size w w9 := (below_drewN3 BW _).trans (hb9.mono BW.size)
            have r0 := hX9.cell 0
            have z0 := hX9.frozen 0
            have r1 := hX9.cell 1
            have z1 := hX9.frozen 1
            have r2 := hX9.cell 2
            have z2 := hX9.frozen 2
            have r3 := hX9.cell 3
            have z3 := hX9.frozen 3
            have r4 := hX9.cell 4
            have z4 := hX9.frozen 4
            simp only [List.getElem?_cons_zero, List.getElem?_cons_succ] at r0 r1 r2 r3 r4
            clear hb9
            go_wp2_with fail
            refine bodyPost_ret (v := .tuple #[.int .u8 0, .agg #[.slice none 0 0, .string ByteArray.empty, .int .i64 0, .int .i64 5, .int .i64 ((a + 1 + 2 : Nat) : Int)]]) (by simp [results, Tryz.results47, go_sem, r0, r1, r2, r3, r4]; try rfl) rfl ⟨?_, ?_⟩
            · exact .inr ⟨5, a + 1 + 2, unhide HR, rfl⟩
            · exact ((((B9.setCell (Nat.le_refl _) _).setCell (Nat.le_refl _) _).setCell (Nat.le_refl _) _).setCell (Nat.le_refl _) _).setCell (Nat.le_refl _) _
        · have hinN : (s.size : Int) ≤ (a : Int) + 1 + 2 := by omega
          have hdec : decide ((s.size : Int) ≤ (a : Int) + 1 + 2) = true := decide_eq_true hinN
          have hpk := J.peek_out s (a + 1 + 2) hin
          have HR := hide ((unhide HWD) (a + 1 + 2) (hwr.out.trans (show J.wordR s (a + 1 + 2) [48] = .inl (a + 1 + 2) from J.wordR_not (by rw [hpk]; decide))))
          clear hpk
          go_wp2_with fail
          go_quiet (fail)
          go_wp2_with fail
          refine ((unhide HB) _ _).mono ?_
          rintro e w9 ⟨rfl, hb9⟩
          have hX9 := (own_drewN hXd _).below hb9 hXd.lt
          have B9 : Below w.heap.size w w9 := (below_drewN3 BW _).trans (hb9.mono BW.size)
          have r0 := hX9.cell 0
          have z0 := hX9.frozen 0
          have r1 := hX9.cell 1
          have z1 := hX9.frozen 1
          have r2 := hX9.cell 2
          have z2 := hX9.frozen 2
          have r3 := hX9.cell 3
          have z3 := hX9.frozen 3
          have r4 := hX9.cell 4
          have z4 := hX9.frozen 4
          simp only [List.getElem?_cons_zero, List.getElem?_cons_succ] at r0 r1 r2 r3 r4
          clear hb9
          go_wp2_with fail
          refine bodyPost_ret (v := .tuple #[.int .u8 0, .agg #[.slice none 0 0, .string ByteArray.empty, .int .i64 0, .int .i64 5, .int .i64 ((a + 1 + 2 : Nat) : Int)]]) (by simp [results, Tryz.results47, go_sem, r0, r1, r2, r3, r4]; try rfl) rfl ⟨?_, ?_⟩
          · exact .inr ⟨5, a + 1 + 2, unhide HR, rfl⟩
          · exact ((((B9.setCell (Nat.le_refl _) _).setCell (Nat.le_refl _) _).setCell (Nat.le_refl _) _).setCell (Nat.le_refl _) _).setCell (Nat.le_refl _) _
    · obtain rfl : k = 3 := by omega
      obtain ⟨-, he⟩ := (unhide HEU) _ hwr.out
      have HE : Hid (J.escR s (a + 1) = if J.hexI (J.peek s (a + 4)) < 0 then .inl (5, a + 4) else if J.hexI (J.peek s (a + 5)) < 0 then .inl (5, a + 5) else if 16 * J.hexI (J.peek s (a + 4)) + J.hexI (J.peek s (a + 5)) < 32 ∨ 126 < 16 * J.hexI (J.peek s (a + 4)) + J.hexI (J.peek s (a + 5)) then .inl (5, a + 4) else .inr (16 * J.hexI (J.peek s (a + 4)) + J.hexI (J.peek s (a + 5)), a + 6)) := he
      clear he hwr hg BW hXd
      go_wp2_with fail
      go_loopg [9] 2 (fun gh s9 wq => ∃ j : Nat, Hid (gh = 6 - j) ∧ s9 = .int .i64 j ∧ 4 ≤ j ∧ j ≤ 6 ∧ Hid (∀ i, 4 ≤ i → i < j → 0 ≤ J.hexI (J.peek s (a + i))) ∧ Below w0.heap.size w0 wq)
      case atStart => exact ⟨4, rfl, rfl, by omega, by omega, fun i h1 h2 => by omega, hbel⟩
      case round =>
        obtain ⟨j, hg, rfl, hj4, hj6, hall, hbel2⟩ := hrel
        rename World => wq
        have BW : Below w.heap.size w wq := B0.trans (hbel2.mono B0.size)
        have hXd := hX0.below hbel2 hX0.lt
        by_cases h6 : j < 6
        · obtain rfl | rfl : j = 4 ∨ j = 5 := by omega
          · -- place 4
            have hwk : IntKind.i64.wrap ((a : Int) + 4) = (a : Int) + 4 := IntWalk.i64_in _ ⟨by omega, by omega⟩
            have hin0 : (0 : Int) ≤ (a : Int) + 4 := by omega
            by_cases hin : a + 4 < s.size
            · have hinI : (a : Int) + 4 < (s.size : Int) := by omega
              have hinN : ¬ (s.size : Int) ≤ (a : Int) + 4 := by omega
              have hpk := J.peek_in s (a + 4) hin
              have HX := hide (fun wz => l2Hex_any (s[a + 4].toNat : Int) (by omega) (by have := s[a + 4].toNat_lt; omega) wz)
              rw [← hpk] at HX
              go_wp2_with fail
              rw [← hpk]
              refine ((unhide HX) _).mono ?_
              rintro e w5 ⟨rfl, hw5⟩
              have hw6 := hw5.symm
              clear hw5
              subst hw6
              by_cases hneg : J.hexI (J.peek s (a + 4)) < 0
              · have HR : Hid (J.escR s (a + 1) = .inl (5, a + 4)) := by
                  show _ = _
                  rw [HE.out]
                  rw [if_pos hneg]
                clear hpk HX
                generalize J.hexI (J.peek s (a + 4)) = hx at *
                go_wp2_with fail
                refine ((unhide HB) _ _).mono ?_
                rintro e w9 ⟨rfl, hb9⟩
                have hX9 := hXd.below hb9 hXd.lt
                have B9 : Below w.heap.size w w9 := BW.trans (hb9.mono BW.size)
                have r0 := hX9.cell 0
                have z0 := hX9.frozen 0
                have r1 := hX9.cell 1
                have z1 := hX9.frozen 1
                have r2 := hX9.cell 2
                have z2 := hX9.frozen 2
                have r3 := hX9.cell 3
                have z3 := hX9.frozen 3
                have r4 := hX9.cell 4
                have z4 := hX9.frozen 4
                simp only [List.getElem?_cons_zero, List.getElem?_cons_succ] at r0 r1 r2 r3 r4
                clear hb9
                go_wp2_with fail
                refine bodyPost_ret (v := .tuple #[.int .u8 0, .agg #[.slice none 0 0, .string ByteArray.empty, .int .i64 0, .int .i64 5, .int .i64 ((a + 4 : Nat) : Int)]]) (by simp [results, Tryz.results47, go_sem, r0, r1, r2, r3, r4]; try rfl) rfl ⟨?_, ?_⟩
                · exact .inr ⟨5, a + 4, unhide HR, rfl⟩
                · exact ((((B9.setCell (Nat.le_refl _) _).setCell (Nat.le_refl _) _).setCell (Nat.le_refl _) _).setCell (Nat.le_refl _) _).setCell (Nat.le_refl _) _
              · have hall2 := hide (show ∀ i, 4 ≤ i → i < 4 + 1 → 0 ≤ J.hexI (J.peek s (a + i)) from fun i h1 h2 => by
                  by_cases e : i = 4
                  · subst e; omega
                  · exact hall.out i h1 (by omega))
                clear hpk HX
                generalize J.hexI (J.peek s (a + 4)) = hx at hneg ⊢
                go_wp2_with fail
                go_roundg (6 - (4 + 1))
                case rel => exact ⟨4 + 1, rfl, rfl, by omega, by omega, unhide hall2, hbel2⟩
                case measure => have := hg.out; omega
            · have hinN : (s.size : Int) ≤ (a : Int) + 4 := by omega
              have hpk := J.peek_out s (a + 4) hin
              have HR : Hid (J.escR s (a + 1) = .inl (5, a + 4)) := by
                show _ = _
                have hneg : J.hexI (J.peek s (a + 4)) < 0 := by rw [hpk]; decide
                rw [HE.out]
                rw [if_pos hneg]
              clear hpk
              go_wp2_with fail
              refine ((unhide HB) _ _).mono ?_
              rintro e w9 ⟨rfl, hb9⟩
              have hX9 := hXd.below hb9 hXd.lt
              have B9 : Below w.heap.size w w9 := BW.trans (hb9.mono BW.size)
              have r0 := hX9.cell 0
              have z0 := hX9.frozen 0
              have r1 := hX9.cell 1
              have z1 := hX9.frozen 1
              have r2 := hX9.cell 2
              have z2 := hX9.frozen 2
              have r3 := hX9.cell 3
              have z3 := hX9.frozen 3
              have r4 := hX9.cell 4
              have z4 := hX9.frozen 4
              simp only [List.getElem?_cons_zero, List.getElem?_cons_succ] at r0 r1 r2 r3 r4
              clear hb9
              go_wp2_with fail
              refine bodyPost_ret (v := .tuple #[.int .u8 0, .agg #[.slice none 0 0, .string ByteArray.empty, .int .i64 0, .int .i64 5, .int .i64 ((a + 4 : Nat) : Int)]]) (by simp [results, Tryz.results47, go_sem, r0, r1, r2, r3, r4]; try rfl) rfl ⟨?_, ?_⟩
              · exact .inr ⟨5, a + 4, unhide HR, rfl⟩
              · exact ((((B9.setCell (Nat.le_refl _) _).setCell (Nat.le_refl _) _).setCell (Nat.le_refl _) _).setCell (Nat.le_refl _) _).setCell (Nat.le_refl _) _
          · -- place 5
            have hwk : IntKind.i64.wrap ((a : Int) + 5) = (a : Int) + 5 := IntWalk.i64_in _ ⟨by omega, by omega⟩
            have hin0 : (0 : Int) ≤ (a : Int) + 5 := by omega
            by_cases hin : a + 5 < s.size
            · have hinI : (a : Int) + 5 < (s.size : Int) := by omega
              have hinN : ¬ (s.size : Int) ≤ (a : Int) + 5 := by omega
              have hpk := J.peek_in s (a + 5) hin
              have HX := hide (fun wz => l2Hex_any (s[a + 5].toNat : Int) (by omega) (by have := s[a + 5].toNat_lt; omega) wz)
              rw [← hpk] at HX
              go_wp2_with fail
              rw [← hpk]
              refine ((unhide HX) _).mono ?_
              rintro e w5 ⟨rfl, hw5⟩
              have hw6 := hw5.symm
              clear hw5
              subst hw6
              by_cases hneg : J.hexI (J.peek s (a + 5)) < 0
              · have HR : Hid (J.escR s (a + 1) = .inl (5, a + 5)) := by
                  show _ = _
                  rw [HE.out]
                  have g4 := hall.out 4 (by omega) (by omega); rw [if_neg (by omega), if_pos hneg]
                clear hpk HX
                generalize J.hexI (J.peek s (a + 5)) = hx at *
                go_wp2_with fail
                refine ((unhide HB) _ _).mono ?_
                rintro e w9 ⟨rfl, hb9⟩
                have hX9 := hXd.below hb9 hXd.lt
                have B9 : Below w.heap.size w w9 := BW.trans (hb9.mono BW.size)
                have r0 := hX9.cell 0
                have z0 := hX9.frozen 0
                have r1 := hX9.cell 1
                have z1 := hX9.frozen 1
                have r2 := hX9.cell 2
                have z2 := hX9.frozen 2
                have r3 := hX9.cell 3
                have z3 := hX9.frozen 3
                have r4 := hX9.cell 4
                have z4 := hX9.frozen 4
                simp only [List.getElem?_cons_zero, List.getElem?_cons_succ] at r0 r1 r2 r3 r4
                clear hb9
                go_wp2_with fail
                refine bodyPost_ret (v := .tuple #[.int .u8 0, .agg #[.slice none 0 0, .string ByteArray.empty, .int .i64 0, .int .i64 5, .int .i64 ((a + 5 : Nat) : Int)]]) (by simp [results, Tryz.results47, go_sem, r0, r1, r2, r3, r4]; try rfl) rfl ⟨?_, ?_⟩
                · exact .inr ⟨5, a + 5, unhide HR, rfl⟩
                · exact ((((B9.setCell (Nat.le_refl _) _).setCell (Nat.le_refl _) _).setCell (Nat.le_refl _) _).setCell (Nat.le_refl _) _).setCell (Nat.le_refl _) _
              · have hall2 := hide (show ∀ i, 4 ≤ i → i < 5 + 1 → 0 ≤ J.hexI (J.peek s (a + i)) from fun i h1 h2 => by
                  by_cases e : i = 5
                  · subst e; omega
                  · exact hall.out i h1 (by omega))
                clear hpk HX
                generalize J.hexI (J.peek s (a + 5)) = hx at hneg ⊢
                go_wp2_with fail
                go_roundg (6 - (5 + 1))
                case rel => exact ⟨5 + 1, rfl, rfl, by omega, by omega, unhide hall2, hbel2⟩
                case measure => have := hg.out; omega
            · have hinN : (s.size : Int) ≤ (a : Int) + 5 := by omega
              have hpk := J.peek_out s (a + 5) hin
              have HR : Hid (J.escR s (a + 1) = .inl (5, a + 5)) := by
                show _ = _
                have hneg : J.hexI (J.peek s (a + 5)) < 0 := by rw [hpk]; decide
                rw [HE.out]
                have g4 := hall.out 4 (by omega) (by omega); rw [if_neg (by omega), if_pos hneg]
              clear hpk
              go_wp2_with fail
              refine ((unhide HB) _ _).mono ?_
              rintro e w9 ⟨rfl, hb9⟩
              have hX9 := hXd.below hb9 hXd.lt
              have B9 : Below w.heap.size w w9 := BW.trans (hb9.mono BW.size)
              have r0 := hX9.cell 0
              have z0 := hX9.frozen 0
              have r1 := hX9.cell 1
              have z1 := hX9.frozen 1
              have r2 := hX9.cell 2
              have z2 := hX9.frozen 2
              have r3 := hX9.cell 3
              have z3 := hX9.frozen 3
              have r4 := hX9.cell 4
              have z4 := hX9.frozen 4
              simp only [List.getElem?_cons_zero, List.getElem?_cons_succ] at r0 r1 r2 r3 r4
              clear hb9
              go_wp2_with fail
              refine bodyPost_ret (v := .tuple #[.int .u8 0, .agg #[.slice none 0 0, .string ByteArray.empty, .int .i64 0, .int .i64 5, .int .i64 ((a + 5 : Nat) : Int)]]) (by simp [results, Tryz.results47, go_sem, r0, r1, r2, r3, r4]; try rfl) rfl ⟨?_, ?_⟩
              · exact .inr ⟨5, a + 5, unhide HR, rfl⟩
              · exact ((((B9.setCell (Nat.le_refl _) _).setCell (Nat.le_refl _) _).setCell (Nat.le_refl _) _).setCell (Nat.le_refl _) _).setCell (Nat.le_refl _) _
        · obtain rfl : j = 6 := by omega
          have g4 := hall.out 4 (by omega) (by omega)
          have g5 := hall.out 5 (by omega) (by omega)
          have i4 := J.hexI_in s (a + 4) g4
          have i5 := J.hexI_in s (a + 5) g5
          have p4 := J.peek_in s (a + 4) i4
          have p5 := J.peek_in s (a + 5) i5
          have l4 := s[a + 4].toNat_lt
          have l5 := s[a + 5].toNat_lt
          have b4 := J.hexI_bd (s[a + 4].toNat : Int)
          have b5 := J.hexI_bd (s[a + 5].toNat : Int)
          rw [p4] at g4 HE
          rw [p5] at g5 HE
          have hwa : IntKind.i64.wrap ((a : Int) + 4) = (a : Int) + 4 := IntWalk.i64_in _ ⟨by omega, by omega⟩
          have hwb : IntKind.i64.wrap ((a : Int) + 5) = (a : Int) + 5 := IntWalk.i64_in _ ⟨by omega, by omega⟩
          have hia : (0 : Int) ≤ (a : Int) + 4 := by omega
          have hib : (0 : Int) ≤ (a : Int) + 5 := by omega
          have hja : (a : Int) + 4 < (s.size : Int) := by omega
          have hjb : (a : Int) + 5 < (s.size : Int) := by omega
          have hm1 : IntKind.i64.wrap (16 * J.hexI (s[a + 4].toNat : Int)) = 16 * J.hexI (s[a + 4].toNat : Int) := IntWalk.i64_in _ ⟨by omega, by omega⟩
          have hm2 : IntKind.i64.wrap (16 * J.hexI (s[a + 4].toNat : Int) + J.hexI (s[a + 5].toNat : Int)) = 16 * J.hexI (s[a + 4].toNat : Int) + J.hexI (s[a + 5].toNat : Int) := IntWalk.i64_in _ ⟨by omega, by omega⟩
          rw [if_neg (by omega), if_neg (by omega)] at HE
          clear hall p4 p5
          go_wp2_with fail
          go_quiet ((go_at_call 57; exact Calls.quiet_of_same (l2Hex_any _ (by omega) (by omega) _)))
          generalize J.hexI (s[a + 4].toNat : Int) = x at *
          generalize J.hexI (s[a + 5].toNat : Int) = y at *
          have hv0 : 0 ≤ 16 * x + y := by omega
          have hv1 : 16 * x + y ≤ 255 := by omega
          clear hm1 hm2
          generalize 16 * x + y = v at *
          go_wp2_with fail
          refine (l1In_str v 32 126 _).mono ?_
          rintro e w5 ⟨rfl, hw5⟩
          have hB5 : Below w.heap.size w w5 := by rw [hw5]; exact below_drewN3 BW _
          have hX5 : Own w5 w.heap.size 36 [.slice none 0 0, .string ByteArray.empty, .int .i64 0, .int .i64 0, .int .i64 0] := by rw [hw5]; exact own_drewN hXd _
          clear hw5 BW hXd hbel2 hbel
          by_cases hr : v < 32 ∨ 126 < v
          · have hdd : (decide (32 ≤ v) && decide (v ≤ 126)) = false := by simp; omega
            rw [if_pos hr] at HE
            rw [hdd]
            have HR := HE
            have BW := hB5
            clear hdd hr
            go_wp2_with fail
            refine ((unhide HB) _ _).mono ?_
            rintro e w9 ⟨rfl, hb9⟩
            have hX9 := hX5.below hb9 hX5.lt
            have B9 : Below w.heap.size w w9 := BW.trans (hb9.mono BW.size)
            have r0 := hX9.cell 0
            have z0 := hX9.frozen 0
            have r1 := hX9.cell 1
            have z1 := hX9.frozen 1
            have r2 := hX9.cell 2
            have z2 := hX9.frozen 2
            have r3 := hX9.cell 3
            have z3 := hX9.frozen 3
            have r4 := hX9.cell 4
            have z4 := hX9.frozen 4
            simp only [List.getElem?_cons_zero, List.getElem?_cons_succ] at r0 r1 r2 r3 r4
            clear hb9
            go_wp2_with fail
            refine bodyPost_ret (v := .tuple #[.int .u8 0, .agg #[.slice none 0 0, .string ByteArray.empty, .int .i64 0, .int .i64 5, .int .i64 ((a + 4 : Nat) : Int)]]) (by simp [results, Tryz.results47, go_sem, r0, r1, r2, r3, r4]; try rfl) rfl ⟨?_, ?_⟩
            · exact .inr ⟨5, a + 4, unhide HR, rfl⟩
            · exact ((((B9.setCell (Nat.le_refl _) _).setCell (Nat.le_refl _) _).setCell (Nat.le_refl _) _).setCell (Nat.le_refl _) _).setCell (Nat.le_refl _) _
          · have hdd : (decide (32 ≤ v) && decide (v ≤ 126)) = true := by simp; omega
            rw [if_neg hr] at HE
            rw [hdd]
            have hw8 : IntKind.u8.wrap v = v := by unfold IntKind.wrap; simp [IntKind.signed, IntKind.bits]; omega
            have r0 := hX5.cell 0
            have z0 := hX5.frozen 0
            have r1 := hX5.cell 1
            have z1 := hX5.frozen 1
            have r2 := hX5.cell 2
            have z2 := hX5.frozen 2
            have r3 := hX5.cell 3
            have z3 := hX5.frozen 3
            have r4 := hX5.cell 4
            have z4 := hX5.frozen 4
            simp only [List.getElem?_cons_zero, List.getElem?_cons_succ] at r0 r1 r2 r3 r4
            clear hdd
            go_wp2_with fail
            refine bodyPost_ret (v := .tuple #[.int .u8 v, .agg #[.slice none 0 0, .string ByteArray.empty, .int .i64 ((a + 6 : Nat) : Int), .int .i64 0, .int .i64 0]]) (by simp [results, Tryz.results47, go_sem, r0, r1, r2, r3, r4]; try rfl) rfl ⟨?_, ?_⟩
            · exact .inl ⟨v, a + 6, HE.out, rfl⟩
            · exact ((((hB5.setCell (Nat.le_refl _) _).setCell (Nat.le_refl _) _).setCell (Nat.le_refl _) _).setCell (Nat.le_refl _) _).setCell (Nat.le_refl _) _

theorem l2Escape_any (s : ByteArray) (a : Nat) (w : World) (hs : s.size ≤ 1048576) (h : a < s.size) :
    Calls Tryz.prog 47 #[.string s, .int .i64 a] w fun e w' => EscSaid (J.escR s (a + 1)) e ∧ Below w.heap.size w w' := by
  by_cases hlt : a + 1 < s.size
  · have hp := J.peek_in s (a + 1) hlt
    by_cases hpl : J.peek s (a + 1) = 34 ∨ J.peek s (a + 1) = 92 ∨ J.peek s (a + 1) = 47
    · have he := J.escR_plain hpl
      rw [hp] at he hpl
      rcases hpl with hc | hc | hc
      · refine (l2Escape_plain0 s a w hs hlt hc).mono ?_
        rintro e w' ⟨rfl, hb⟩
        exact ⟨.inl ⟨_, _, he, by rw [hc]⟩, hb⟩
      · refine (l2Escape_plain1 s a w hs hlt hc).mono ?_
        rintro e w' ⟨rfl, hb⟩
        exact ⟨.inl ⟨_, _, he, by rw [hc]⟩, hb⟩
      · refine (l2Escape_plain2 s a w hs hlt hc).mono ?_
        rintro e w' ⟨rfl, hb⟩
        exact ⟨.inl ⟨_, _, he, by rw [hc]⟩, hb⟩
    · exact l2Escape_u s a w hs hlt hpl
  · have he : J.escR s (a + 1) = .inl (5, a + 1) := by
      unfold J.escR
      rw [J.peek_out s (a + 1) hlt, if_neg (by decide), if_pos (by decide)]
    refine (l2Escape_end s a w hs (by omega)).mono ?_
    rintro e w' ⟨rfl, hb⟩
    exact ⟨.inr ⟨5, a + 1, he, rfl⟩, hb⟩

end Go.Proofs.YtepfdlbnnkojbaaGreatDoor

namespace Go.Proofs.YtepfdlbnnkojbaaGreatDoor
open Go.RowKit
set_option linter.unusedVariables false

namespace J
def bytes (l : List UInt8) : ByteArray := ⟨l.toArray⟩
theorem bytes_size (l : List UInt8) : (bytes l).size = l.length := by simp [bytes, ByteArray.size]
theorem ba_eq {a b : ByteArray} (h : a.data = b.data) : a = b := by cases a; cases b; simp only at h; rw [h]
theorem bytes_append (a b : List UInt8) : bytes a ++ bytes b = bytes (a ++ b) := by
  refine ba_eq ?_
  rw [ByteArray.data_append]
  simp [bytes]
theorem bytes_at (s : ByteArray) (k : Nat) (h : k < s.size) : s.extract k (k + 1) = bytes [s[k]] := by
  refine ba_eq ?_
  rw [ByteArray.data_extract]
  have hk : k < s.data.size := h
  refine Array.ext (by rw [Array.size_extract]; show _ = 1; omega) fun i h1 h2 => ?_
  have hi : i = 0 := by simp [bytes] at h2; omega
  subst hi
  simp [bytes]
  rfl
def esc (b : UInt8) : List UInt8 := if b.toNat = 34 ∨ b.toNat = 92 then [92, b] else [b]
def quoteK (s : ByteArray) (k : Nat) : List UInt8 := 34 :: (s.data.toList.take k).flatMap esc
def quote (s : ByteArray) : List UInt8 := quoteK s s.size ++ [34]
theorem quoteK_zero (s : ByteArray) : quoteK s 0 = [34] := by simp [quoteK]
theorem quoteK_yes (s : ByteArray) (k : Nat) (h : k < s.size) (hb : s[k].toNat = 34 ∨ s[k].toNat = 92) : quoteK s (k + 1) = quoteK s k ++ [92] ++ [s[k]] := by
  unfold quoteK
  rw [take_snoc s k h, List.flatMap_append]
  simp [esc, hb]
theorem quoteK_no (s : ByteArray) (k : Nat) (h : k < s.size) (hb : ¬ (s[k].toNat = 34 ∨ s[k].toNat = 92)) : quoteK s (k + 1) = quoteK s k ++ [s[k]] := by
  unfold quoteK
  rw [take_snoc s k h, List.flatMap_append]
  simp only [not_or] at hb
  simp [esc, hb]
theorem quoteK_length (s : ByteArray) (k : Nat) (h : k ≤ s.size) : (quoteK s k).length ≤ 2 * k + 1 := by
  induction k with
  | zero => simp [quoteK]
  | succ k ih =>
    have := ih (by omega)
    by_cases hb : s[k].toNat = 34 ∨ s[k].toNat = 92
    · rw [quoteK_yes s k (by omega) hb]; simp; omega
    · rw [quoteK_no s k (by omega) hb]; simp; omega
theorem quote_length (s : ByteArray) : (quote s).length ≤ 2 * s.size + 2 := by
  have := quoteK_length s s.size (Nat.le_refl _)
  unfold quote
  simp; omega
/-- The words of bytes in memory. -/
def bv (l : List UInt8) : List Value := l.map fun b => Value.int .u8 (b.toNat : Int)
theorem bv_snoc (l : List UInt8) (b : UInt8) : bv l ++ [Value.int .u8 (b.toNat : Int)] = bv (l ++ [b]) := by simp [bv]
theorem one_plain (x : Int) : ∀ u ∈ ([Value.int .u8 x] : List Value), u.oneCell' = true := by
  intro u hu; simp only [List.mem_cons, List.not_mem_nil, or_false] at hu; subst hu; rfl
theorem one_word (w : World) (x : Int) : ∀ j u, ([Value.int .u8 x] : List Value)[j]? = some u → (w.alloc (.cells #[.int .u8 x] 5)).cell? ((⟨w.heap.size, 0, none⟩ : Addr).add j) = some u := by
  intro j u hu
  match j, hu with
  | 0, hu =>
    simp only [List.getElem?_cons_zero, Option.some.injEq] at hu
    subst hu
    have a0 : (⟨w.heap.size, 0, none⟩ : Addr).add 0 = ⟨w.heap.size, 0, none⟩ := by simp [Addr.add]
    rw [a0]
    exact World.cell?_alloc_mark w #[.int .u8 x] 5 (0, 0) 0
theorem owns_base {w : World} {base : Nat} {e : TypeId} {size : Nat} {v : Value} {n : Nat} {xs : List Value} (h : w.ownsRow base e size v n xs) : ∀ k, v.ownBlock = some k → base ≤ k := by
  obtain ⟨_, ⟨rfl, _⟩ | ⟨g, cap, cur, rfl, hg, _⟩⟩ := h
  · intro k hk; simp [Value.ownBlock] at hk
  · intro k hk; simp only [Value.ownBlock, Option.some.injEq] at hk; omega
/-- A row of bytes, made a string. -/
theorem owns_cells {w : World} {base g cap n : Nat} {l : List UInt8} (h : w.ownsRow base 5 1 (.slice (some ⟨g, 0, none⟩) n cap) l.length (bv l)) : ∀ j (hj : j < l.length), w.cell? ((⟨g, 0, none⟩ : Addr).add j) = some (.int .u8 (l[j].toNat : Int)) := by
  intro j hj
  obtain ⟨_, ⟨h2, _⟩ | ⟨g', cap', cur, h2, hg, hh, hnc, hcm, hcs, ht⟩⟩ := h
  · cases h2
  · cases h2
    have a0 : (⟨g, 0, none⟩ : Addr).add j = ⟨g, j, none⟩ := by unfold Addr.add; split <;> simp_all
    rw [a0, cell_of_row w g j cur 5 (0, 0) hh]
    have h3 : cur.toList[j]? = (bv l)[j]? := by rw [← ht, List.getElem?_take, if_pos (by omega)]
    have h4 : cur[j]? = cur.toList[j]? := by simp
    rw [h4, h3]
    simp [bv, List.getElem?_map, List.getElem?_eq_getElem hj]
theorem owns_row {w : World} {base : Nat} {e : TypeId} {size : Nat} {v : Value} {n : Nat} {xs : List Value} (h : w.ownsRow base e size v n xs) : ∀ k, v.ownBlock = some k → ∃ c fz, w.heap[k]? = some (.cells c e fz) := by
  obtain ⟨_, ⟨rfl, _⟩ | ⟨g, cap, cur, rfl, hg, hh, _⟩⟩ := h
  · intro k hk; simp [Value.ownBlock] at hk
  · intro k hk; simp only [Value.ownBlock, Option.some.injEq] at hk; subst hk; exact ⟨_, _, hh⟩
end J
/-- Below base nothing has turned, and of the old blocks none but rows of bytes. -/
def Bk (base : Nat) (w w' : World) : Prop := Below base w w' ∧ Lib.OthersKept 5 none w w'
theorem Bk.refl (base : Nat) (w : World) : Bk base w w := ⟨Below.refl _ _, Lib.OthersKept.refl _ _ _⟩
theorem Bk.size {base : Nat} {w w' : World} (h : Bk base w w') : w.heap.size ≤ w'.heap.size := h.1.size
theorem Bk.alloc {base : Nat} {w w' : World} (h : Bk base w w') (hb : base ≤ w'.heap.size) (o : Obj) : Bk base w (w'.alloc o) := ⟨h.1.alloc hb o, h.2.alloc o⟩
theorem Bk.grown {base : Nat} {a w w' : World} {row : Option Nat} (h : Bk base a w) (hg : w.grownBy w' row) (hB : base ≤ w.heap.size) (hr : ∀ k, row = some k → base ≤ k) (hrow : ∀ k, row = some k → ∃ c fz, w.heap[k]? = some (.cells c 5 fz)) : Bk base a w' := ⟨h.1.grown hg hB hr, h.2.grown hg hrow⟩
theorem Bk.trans {base : Nat} {a b c : World} (h : Bk base a b) (k : Bk base b c) : Bk base a c := ⟨h.1.trans k.1, h.2.trans k.2⟩
theorem Bk.below {base : Nat} {a w w' : World} (h : Bk base a w) (hb : Below w.heap.size w w') (hB : base ≤ w.heap.size) : Bk base a w' := ⟨h.1.trans (hb.mono hB), h.2.below hb⟩
theorem Bk.drew {base : Nat} {a w : World} (h : Bk base a w) : Bk base a w.drew := ⟨h.1.drew, h.2.drew⟩
theorem Bk.own {base : Nat} {w w' : World} (h : Bk base w w') {b : Nat} {t : TypeId} {xs : List Value} (ho : Own w b t xs) (ht : t ≠ 5) : Own w' b t xs := by
  obtain ⟨c, hc, e⟩ := ho
  exact ⟨c, h.2 b _ hc (by simp) (fun c' fz hx => by simp only [Obj.cells.injEq] at hx; exact ht hx.2.1), e⟩
theorem ret_string {a b : ByteArray} (h : a = b) : Ending.returned (.string a) = .returned (.string b) := by rw [h]
theorem Tryz.info5 : (Tryz.prog.info? 5).map (fun i => (i.zero, i.size, i.bytes)) = some (some (.int .u8 0), 1, 1) := by kernel_rfl

end Go.Proofs.YtepfdlbnnkojbaaGreatDoor

namespace Go.Proofs.YtepfdlbnnkojbaaGreatDoor
open Go.RowKit
set_option linter.unusedVariables false
set_option linter.unusedSimpArgs false

/-- A byte as a text. -/
theorem convB (c : Int) (h0 : 0 ≤ c) (b : Nat) (w : World) (h : w.cell? ⟨b, 0, none⟩ = some (.int .u8 c)) :
    (convert 88 9 (.slice (some ⟨b, 0, none⟩) 1 1)).run Tryz.prog w = .ok (.string (J.bytes [UInt8.ofNat c.toNat])) w := by
  have e := run_convert_bytes_arg (P := Tryz.prog) w 88 5 Tryz.underlying88 Tryz.underlying5 b 0 1 1 [c] rfl (fun i hi => by
    obtain rfl : i = 0 := by omega
    simpa using h) 9 Tryz.underlying9
  rw [e]
  simp [strOfNums, J.bytes]
/-- What spec.l2String answers. -/
def StrSaid (R : (Int × Nat) ⊕ (List UInt8 × Nat)) (e : Ending) : Prop :=
  (∃ l m, R = .inr (l, m) ∧ e = .returned (.agg #[.slice none 0 0, .string (J.bytes l), .int .i64 (m : Int), .int .i64 0, .int .i64 0])) ∨ (∃ (c : Int) (m : Nat), R = .inl (c, m) ∧ e = .returned (.agg #[.slice none 0 0, .string ByteArray.empty, .int .i64 0, .int .i64 c, .int .i64 (m : Int)]))

set_option maxRecDepth 100000 in
set_option maxHeartbeats 4000000 in
theorem l2String_any (s : ByteArray) (k : Nat) (w : World) (hs : s.size ≤ 1048576) (hp : J.peek s k = 34) :
    Calls Tryz.prog 30 #[.string s, .int .i64 k] w fun e w' => StrSaid (J.quotR s k) e ∧ Below w.heap.size w w' := by
  have hlt := J.peek_lt s k 34 (by decide) hp
  have HQ1 := hide (fun p => J.quotR_bad (p := p) hp)
  have HQ2 := hide (fun l e => J.quotR_big (l := l) (e := e) hp)
  have HQ3 := hide (fun l e => J.quotR_ok (l := l) (e := e) hp)
  have HF := hide (J.qF_fuel s (s.size + 1) (s.size + 1 - (k + 1)) (k + 1) [] (by omega) (by omega) (by omega))
  clear hp
  obtain ⟨w0, hw0⟩ : ∃ w0, w0 = w.alloc (.cells #[.slice none 0 0, .string ByteArray.empty, .int .i64 0, .int .i64 0, .int .i64 0] 36) := ⟨_, rfl⟩
  have B0 : Below w.heap.size w w0 := by rw [hw0]; exact (Below.refl _ _).alloc (Nat.le_refl _) _
  have hX0 : Own w0 w.heap.size 36 [.slice none 0 0, .string ByteArray.empty, .int .i64 0, .int .i64 0, .int .i64 0] := by rw [hw0]; exact ⟨_, heap_alloc_new _ _, rfl⟩
  go_enter Tryz.func30, Tryz.ntmps30
  go_wp2_with fail
  try (rw [show (w.alloc (.cells #[.slice none 0 0, .string { data := #[] }, .int .i64 0, .int .i64 0, .int .i64 0] 36)) = w0 from hw0.symm])
  clear hw0
  go_loopg [5, 6] (s.size + 1 - (k + 1)) (fun gh s5 s6 wr => ∃ (i : Nat) (l : List UInt8) (o : ByteArray), Hid (gh = s.size + 1 - i) ∧ s5 = .string o ∧ s6 = .int .i64 i ∧ i ≤ s.size ∧ l.length ≤ i ∧ Hid (o = J.bytes l) ∧ Hid (J.qF s (s.size + 1) (k + 1) [] = J.qF s (s.size + 1 - i) i l) ∧ Below w0.heap.size w0 wr)
  case atStart => exact ⟨k + 1, [], _, rfl, rfl, by go_num, by omega, by simp, rfl, unhide HF, Below.refl _ _⟩
  case round =>
    obtain ⟨i, l, o, hg, rfl, rfl, his, hli, ho, hqf, hbel⟩ := hrel
    have BW : Below w.heap.size w wr := B0.trans (hbel.mono B0.size)
    have hXd := hX0.below hbel hX0.lt
    have hosz : o.size ≤ 1048576 := by rw [ho.out, J.bytes_size]; omega
    have hosl : o.size = l.length := by rw [ho.out, J.bytes_size]
    by_cases hin : i < s.size
    · have hinI : (i : Int) < (s.size : Int) := by omega
      have hge : ¬ (s.size : Int) ≤ (i : Int) := by omega
      have hpk := J.peek_in s i hin
      have hc255 := s[i].toNat_lt
      by_cases hc : (s[i].toNat : Int) = 34
      · have hp34 : J.peek s i = 34 := by rw [hpk]; exact hc
        have HE := hide (hqf.out.trans (J.qF_end his l hp34))
        have hcb : ((s[i].toNat : Int) != 34) = false := by simpa using hc
        clear hc hpk hp34
        by_cases hbig : 60 < l.length
        · have hbI : (60 : Int) < (o.size : Int) := by omega
          have HR := hide ((unhide HQ2) l _ (unhide HE) hbig)
          clear hosl
          go_wp2_with fail
          refine (l2Bad_any 2 _ _).mono ?_
          rintro e w9 ⟨rfl, hb9⟩
          have hX9 := hXd.below hb9 hXd.lt
          have B9 : Below w.heap.size w w9 := BW.trans (hb9.mono BW.size)
          have r0 := hX9.cell 0
          have z0 := hX9.frozen 0
          have r1 := hX9.cell 1
          have z1 := hX9.frozen 1
          have r2 := hX9.cell 2
          have z2 := hX9.frozen 2
          have r3 := hX9.cell 3
          have z3 := hX9.frozen 3
          have r4 := hX9.cell 4
          have z4 := hX9.frozen 4
          simp only [List.getElem?_cons_zero, List.getElem?_cons_succ] at r0 r1 r2 r3 r4
          clear hb9
          go_wp2_with fail
          refine bodyPost_ret (v := .agg #[.slice none 0 0, .string ByteArray.empty, .int .i64 0, .int .i64 2, .int .i64 ((k : Nat) : Int)]) (by simp [results, Tryz.results30, go_sem, r0, r1, r2, r3, r4]; try rfl) rfl ⟨?_, ?_⟩
          · exact .inr ⟨2, k, unhide HR, rfl⟩
          · exact (((((B9.setCell (Nat.le_refl _) _).setCell (Nat.le_refl _) _).setCell (Nat.le_refl _) _).setCell (Nat.le_refl _) _).setCell (Nat.le_refl _) _)
        · have hbI : ¬ (60 : Int) < (o.size : Int) := by omega
          have HR := hide ((unhide HQ3) l _ (unhide HE) hbig)
          clear hosl
          have r0 := hXd.cell 0
          have z0 := hXd.frozen 0
          have r1 := hXd.cell 1
          have z1 := hXd.frozen 1
          have r2 := hXd.cell 2
          have z2 := hXd.frozen 2
          have r3 := hXd.cell 3
          have z3 := hXd.frozen 3
          have r4 := hXd.cell 4
          have z4 := hXd.frozen 4
          simp only [List.getElem?_cons_zero, List.getElem?_cons_succ] at r0 r1 r2 r3 r4
          go_wp2_with fail
          refine bodyPost_ret (v := .agg #[.slice none 0 0, .string o, .int .i64 ((i + 1 : Nat) : Int), .int .i64 0, .int .i64 0]) (by simp [results, Tryz.results30, go_sem, r0, r1, r2, r3, r4]; try rfl) rfl ⟨?_, ?_⟩
          · exact .inl ⟨l, i + 1, unhide HR, by rw [ho.out]⟩
          · exact (((((BW.setCell (Nat.le_refl _) _).setCell (Nat.le_refl _) _).setCell (Nat.le_refl _) _).setCell (Nat.le_refl _) _).setCell (Nat.le_refl _) _)
      · have hp34 : J.peek s i ≠ 34 := by rw [hpk]; exact hc
        have hcb : ((s[i].toNat : Int) != 34) = true := by simpa using hc
        have HNX := hide (fun c j (hsb : J.sbR s i = .inr (c, j)) => hqf.out.trans (J.qF_next his l hp34 hsb))
        have HBD := hide (fun p (hsb : J.sbR s i = .inl p) => (unhide HQ1) p (hqf.out.trans (J.qF_bad his l hp34 hsb)))
        clear hc hp34 hqf
        by_cases hlow : (s[i].toNat : Int) < 32
        · have HR := hide ((unhide HBD) (5, i) (by unfold J.sbR; rw [hpk, if_neg (by omega), if_pos (.inl hlow)]))
          clear hpk HNX HBD hosl
          go_wp2_with fail
          refine (l2Bad_any 5 _ _).mono ?_
          rintro e w9 ⟨rfl, hb9⟩
          have hX9 := hXd.below hb9 hXd.lt
          have B9 : Below w.heap.size w w9 := BW.trans (hb9.mono BW.size)
          have r0 := hX9.cell 0
          have z0 := hX9.frozen 0
          have r1 := hX9.cell 1
          have z1 := hX9.frozen 1
          have r2 := hX9.cell 2
          have z2 := hX9.frozen 2
          have r3 := hX9.cell 3
          have z3 := hX9.frozen 3
          have r4 := hX9.cell 4
          have z4 := hX9.frozen 4
          simp only [List.getElem?_cons_zero, List.getElem?_cons_succ] at r0 r1 r2 r3 r4
          clear hb9
          go_wp2_with fail
          refine bodyPost_ret (v := .agg #[.slice none 0 0, .string ByteArray.empty, .int .i64 0, .int .i64 5, .int .i64 ((i : Nat) : Int)]) (by simp [results, Tryz.results30, go_sem, r0, r1, r2, r3, r4]; try rfl) rfl ⟨?_, ?_⟩
          · exact .inr ⟨5, i, unhide HR, rfl⟩
          · exact (((((B9.setCell (Nat.le_refl _) _).setCell (Nat.le_refl _) _).setCell (Nat.le_refl _) _).setCell (Nat.le_refl _) _).setCell (Nat.le_refl _) _)
        by_cases hhigh : 126 < (s[i].toNat : Int)
        · have HR := hide ((unhide HBD) (5, i) (by unfold J.sbR; rw [hpk, if_neg (by omega), if_pos (.inr hhigh)]))
          clear hpk HNX HBD hosl
          go_wp2_with fail
          refine (l2Bad_any 5 _ _).mono ?_
          rintro e w9 ⟨rfl, hb9⟩
          have hX9 := hXd.below hb9 hXd.lt
          have B9 : Below w.heap.size w w9 := BW.trans (hb9.mono BW.size)
          have r0 := hX9.cell 0
          have z0 := hX9.frozen 0
          have r1 := hX9.cell 1
          have z1 := hX9.frozen 1
          have r2 := hX9.cell 2
          have z2 := hX9.frozen 2
          have r3 := hX9.cell 3
          have z3 := hX9.frozen 3
          have r4 := hX9.cell 4
          have z4 := hX9.frozen 4
          simp only [List.getElem?_cons_zero, List.getElem?_cons_succ] at r0 r1 r2 r3 r4
          clear hb9
          go_wp2_with fail
          refine bodyPost_ret (v := .agg #[.slice none 0 0, .string ByteArray.empty, .int .i64 0, .int .i64 5, .int .i64 ((i : Nat) : Int)]) (by simp [results, Tryz.results30, go_sem, r0, r1, r2, r3, r4]; try rfl) rfl ⟨?_, ?_⟩
          · exact .inr ⟨5, i, unhide HR, rfl⟩
          · exact (((((B9.setCell (Nat.le_refl _) _).setCell (Nat.le_refl _) _).setCell (Nat.le_refl _) _).setCell (Nat.le_refl _) _).setCell (Nat.le_refl _) _)
        by_cases h92 : (s[i].toNat : Int) = 92
        · have hb92 : ((s[i].toNat : Int) != 92) = false := by simpa using h92
          have hsb : J.sbR s i = J.escR s (i + 1) := by unfold J.sbR; rw [hpk, if_pos h92]
          rw [hsb] at HNX HBD
          have hsbk := hide (fun c m (hm : J.escR s (i + 1) = .inr (c, m)) => J.escR_ok (show i + 1 ≤ s.size by omega) hm)
          clear hpk h92 hsb
          go_wp2_with fail
          refine (l2Escape_any s i _ hs hin).mono ?_
          rintro e w5 ⟨hleft, hb5⟩
          have hX5 := hXd.below hb5 hXd.lt
          have B5 : Below w.heap.size w w5 := BW.trans (hb5.mono BW.size)
          have hbel5 : Below w0.heap.size w0 w5 := hbel.trans (hb5.mono hbel.size)
          have hne5 : w5.heap.size ≠ w.heap.size := by have := hX5.lt; omega
          clear hb5 hXd BW hbel
          rcases hleft with ⟨c, m, hm, rfl⟩ | ⟨c, m, hm, rfl⟩
          · have hok := (unhide hsbk) c m hm
            have HN := hide ((unhide HNX) c m hm)
            have hnext : Hid (o ++ J.bytes [UInt8.ofNat c.toNat] = J.bytes (l ++ [UInt8.ofNat c.toNat])) := by show _ = _; rw [ho.out, J.bytes_append]
            have hcv := fun (bb : Nat) (wx : World) (hh : wx.cell? ⟨bb, 0, none⟩ = some (.int .u8 c)) => convB c (by omega) bb wx hh
            have hbs : (J.bytes [UInt8.ofNat c.toNat]).size ≤ 1 := by rw [J.bytes_size]; simp
            clear hm HNX HBD hsbk hosl
            generalize J.bytes [UInt8.ofNat c.toNat] = CB at *
            go_wp2_with fail
            go_roundg (s.size + 1 - m)
            case rel =>
              refine ⟨m, l ++ [UInt8.ofNat c.toNat], _, rfl, rfl, rfl, by omega, by rw [List.length_append]; show l.length + 1 ≤ m; omega, hnext, unhide HN, ?_⟩
              exact (hbel5.alloc hbel5.size _).alloc (by simp; have := hbel5.size; omega) _
            case measure => have := hg.out; omega
          · have hc0 : c = 5 := (J.escR_no (show i + 1 ≤ s.size by omega) hm).1
            subst hc0
            have HR := hide ((unhide HBD) (5, m) hm)
            clear hm HNX HBD hsbk hosl
            have q0 : ∀ o, (w5.alloc o).cell? ⟨w.heap.size, 0, none⟩ = some (.slice none 0 0) := fun o => (hX5.alloc o).cell 0
            have q1 : ∀ o, (w5.alloc o).cell? ⟨w.heap.size, 1, none⟩ = some (.string ByteArray.empty) := fun o => (hX5.alloc o).cell 1
            have q2 : ∀ o, (w5.alloc o).cell? ⟨w.heap.size, 2, none⟩ = some (.int .i64 0) := fun o => (hX5.alloc o).cell 2
            have q3 : ∀ o, (w5.alloc o).cell? ⟨w.heap.size, 3, none⟩ = some (.int .i64 0) := fun o => (hX5.alloc o).cell 3
            have q4 : ∀ o, (w5.alloc o).cell? ⟨w.heap.size, 4, none⟩ = some (.int .i64 0) := fun o => (hX5.alloc o).cell 4
            have z0 : ∀ o, (w5.alloc o).frozen? ⟨w.heap.size, 0, none⟩ = false := fun o => (hX5.alloc o).frozen 0
            have z1 : ∀ o, (w5.alloc o).frozen? ⟨w.heap.size, 1, none⟩ = false := fun o => (hX5.alloc o).frozen 1
            have z2 : ∀ o, (w5.alloc o).frozen? ⟨w.heap.size, 2, none⟩ = false := fun o => (hX5.alloc o).frozen 2
            have z3 : ∀ o, (w5.alloc o).frozen? ⟨w.heap.size, 3, none⟩ = false := fun o => (hX5.alloc o).frozen 3
            have z4 : ∀ o, (w5.alloc o).frozen? ⟨w.heap.size, 4, none⟩ = false := fun o => (hX5.alloc o).frozen 4
            go_wp2_with fail
            refine bodyPost_ret (v := .agg #[.slice none 0 0, .string ByteArray.empty, .int .i64 0, .int .i64 5, .int .i64 (m : Int)]) (by simp [results, Tryz.results30, go_sem, q0, q1, q2, q3, q4, hne5, hne5.symm]; try rfl) rfl ⟨?_, ?_⟩
            · exact .inr ⟨5, m, unhide HR, rfl⟩
            · have B5' := B5.alloc B5.size (.cells #[.slice none 0 0, .string ByteArray.empty, .int .i64 0, .int .i64 5, .int .i64 (m : Int)] 36)
              exact (((((B5'.setCell (Nat.le_refl _) _).setCell (Nat.le_refl _) _).setCell (Nat.le_refl _) _).setCell (Nat.le_refl _) _).setCell (Nat.le_refl _) _)
        · have hb92 : ((s[i].toNat : Int) != 92) = true := by simpa using h92
          have HN := hide ((unhide HNX) (s[i].toNat : Int) (i + 1) (by unfold J.sbR; rw [hpk, if_neg (by omega), if_neg (by omega)]))
          have hnext : Hid (o ++ s.extract i (i + 1) = J.bytes (l ++ [UInt8.ofNat (s[i].toNat : Int).toNat])) := by
            show _ = _
            rw [J.bytes_at s i hin, ho.out, J.bytes_append]
            simp
          have hsz3 : (s.extract i (i + 1)).size ≤ 1 := by rw [J.bytes_at s i hin, J.bytes_size]; simp
          clear hpk HNX HBD h92 hosl
          go_wp2_with fail
          go_roundg (s.size + 1 - (i + 1))
          case rel => exact ⟨i + 1, l ++ [UInt8.ofNat (s[i].toNat : Int).toNat], _, rfl, rfl, by go_num, by omega, by rw [List.length_append]; show l.length + 1 ≤ i + 1; omega, hnext, unhide HN, hbel⟩
          case measure => have := hg.out; omega
    · have hie : i = s.size := by omega
      have hinI : ¬ (i : Int) < (s.size : Int) := by omega
      have hge : (s.size : Int) ≤ (i : Int) := by omega
      have hpk := J.peek_out s i hin
      have HR := hide ((unhide HQ1) (5, s.size) (hqf.out.trans (J.qF_bad his l (by rw [hpk]; decide) (by unfold J.sbR; rw [hpk, if_neg (by decide), if_pos (.inl (by decide)), hie]))))
      clear hpk hie hqf hosl
      go_wp2_with fail
      refine (l2Bad_any 5 _ _).mono ?_
      rintro e w9 ⟨rfl, hb9⟩
      have hX9 := hXd.below hb9 hXd.lt
      have B9 : Below w.heap.size w w9 := BW.trans (hb9.mono BW.size)
      have r0 := hX9.cell 0
      have z0 := hX9.frozen 0
      have r1 := hX9.cell 1
      have z1 := hX9.frozen 1
      have r2 := hX9.cell 2
      have z2 := hX9.frozen 2
      have r3 := hX9.cell 3
      have z3 := hX9.frozen 3
      have r4 := hX9.cell 4
      have z4 := hX9.frozen 4
      simp only [List.getElem?_cons_zero, List.getElem?_cons_succ] at r0 r1 r2 r3 r4
      clear hb9
      go_wp2_with fail
      refine bodyPost_ret (v := .agg #[.slice none 0 0, .string ByteArray.empty, .int .i64 0, .int .i64 5, .int .i64 ((s.size : Nat) : Int)]) (by simp [results, Tryz.results30, go_sem, r0, r1, r2, r3, r4]; try rfl) rfl ⟨?_, ?_⟩
      · exact .inr ⟨5, s.size, unhide HR, rfl⟩
      · exact (((((B9.setCell (Nat.le_refl _) _).setCell (Nat.le_refl _) _).setCell (Nat.le_refl _) _).setCell (Nat.le_refl _) _).setCell (Nat.le_refl _) _)

end Go.Proofs.YtepfdlbnnkojbaaGreatDoor
