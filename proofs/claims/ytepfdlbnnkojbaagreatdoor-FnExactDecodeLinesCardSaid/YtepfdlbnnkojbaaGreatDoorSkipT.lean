/-
  A reader of bytes of the program: its text and its place in memory; (*byteReader).peek and (*byteReader).take.
  A string read out of a text, byte by byte: plain functions. No word of the program is used here.
  Numbers in texts: where one ends and what it is; spec.l2Digit, spec.l2Number.
  What a number in a text is: spec.l2Value.
  spec.DecodeNumber.
  A number within a text: what stands between its ends is a numeral. Plain.
  Blanks: the first place of a text from a place on that holds none; spec.l2Skip, and impl's reader of bytes.
-/
import Derived.Test.YtepfdlbnnkojbaaGreatDoorText
import Derived.Test.YtepfdlbnnkojbaaGreatDoorMem
import Derived.Deep.LoopGhost
import Derived.Deep.QuietTactic
import Derived.BigQuiet
import Derived.RegionTactic
import Derived.BigRegion
namespace Go.Proofs.YtepfdlbnnkojbaaGreatDoor
open Go.RowKit
set_option linter.unusedVariables false

namespace J
/-- What the reader peeks at. -/
def peek (s : ByteArray) (k : Nat) : Int := if h : k < s.size then (s[k].toNat : Int) else 0
theorem peek_in (s : ByteArray) (k : Nat) (h : k < s.size) : peek s k = (s[k].toNat : Int) := by unfold peek; rw [dif_pos h]
theorem peek_out (s : ByteArray) (k : Nat) (h : ¬ k < s.size) : peek s k = 0 := by unfold peek; rw [dif_neg h]
theorem peek_lt (s : ByteArray) (k : Nat) (c : Int) (hc : 0 < c) (h : peek s k = c) : k < s.size := by
  by_cases hk : k < s.size
  · exact hk
  · rw [peek_out s k hk] at h; omega
theorem peek_bd (s : ByteArray) (k : Nat) : 0 ≤ peek s k ∧ peek s k ≤ 255 := by
  unfold peek
  split
  · rename_i h; have := s[k].toNat_lt; omega
  · omega
end J

/-- Below block number B all but block b is as it was. -/
structure Tch (B b : Nat) (w w' : World) : Prop where
  os : w'.os = w.os
  tape : w'.tape = w.tape
  output : w'.output = w.output
  size : w.heap.size ≤ w'.heap.size
  block : ∀ k, k < B → k ≠ b → w'.heap[k]? = w.heap[k]?
theorem Tch.refl (B b : Nat) (w : World) : Tch B b w w := ⟨rfl, rfl, rfl, Nat.le_refl _, fun _ _ _ => rfl⟩
theorem Tch.trans {B b : Nat} {u v w : World} (h : Tch B b u v) (k : Tch B b v w) : Tch B b u w :=
  ⟨k.os.trans h.os, k.tape.trans h.tape, k.output.trans h.output, Nat.le_trans h.size k.size, fun i h1 h2 => (k.block i h1 h2).trans (h.block i h1 h2)⟩
theorem Tch.set (B b j : Nat) (w : World) (u : Value) : Tch B b w (w.setCell ⟨b, j, none⟩ u) :=
  ⟨rfl, rfl, rfl, by simp [World.setCell], fun k _ hk => Below.heap_setCell _ _ _ _ (by simpa using hk)⟩
theorem Tch.mono {B B' b : Nat} {w w' : World} (h : Tch B b w w') (h1 : B' ≤ B) : Tch B' b w w' := ⟨h.os, h.tape, h.output, h.size, fun k hk hn => h.block k (by omega) hn⟩
theorem Tch.below {B B' b : Nat} {w w' : World} (h : Tch B b w w') (h1 : B' ≤ B) (h2 : B' ≤ b) : Below B' w w' :=
  ⟨h.os, h.tape, h.output, h.size, fun k hk => h.block k (by omega) (by omega)⟩

/-- A reader of bytes: its text and its place, and what else it holds. -/
def Rd (w : World) (b : Nat) (t : TypeId) (s : ByteArray) (k : Nat) (rest : List Value) : Prop := Own w b t (.string s :: .int .i64 k :: rest)

theorem Rd.drewN {w : World} {b : Nat} {t : TypeId} {s : ByteArray} {k : Nat} {rest : List Value} (h : Rd w b t s k rest) (q : Nat) : Rd (w.drewN q) b t s k rest := h
theorem Tch.drewN {B b : Nat} {w w' : World} (h : Tch B b w w') (k : Nat) : Tch B b w (w'.drewN k) := ⟨h.os, h.tape, h.output, h.size, h.block⟩

set_option maxHeartbeats 1000000 in
theorem ended_any (b : Nat) (t : TypeId) (s : ByteArray) (k : Nat) (rest : List Value) (w : World) (h : Rd w b t s k rest) (hs : s.size ≤ 1048576) :
    Calls Tryz.prog 35 #[.pointer (some ⟨b, 0, none⟩)] w fun e w' => e = .returned (.bool (decide (s.size ≤ k))) ∧ ∃ q, w' = w.drewN q := by
  have r0 := fun q => show (w.drewN q).cell? ⟨b, 0, none⟩ = some (.string s) from h.cell 0
  have r1 := fun q => show (w.drewN q).cell? ⟨b, 1, none⟩ = some (.int .i64 k) from h.cell 1
  have hd := hide (show decide ((s.size : Int) ≤ (k : Int)) = decide (s.size ≤ k) by rw [decide_eq_decide]; omega)
  clear h
  go_enter Tryz.func35, Tryz.ntmps35
  go_wp2_with fail
  go_quiet (fail)
  go_wp2_with fail
  go_ret
  exact ⟨by first | rfl | exact ret_bool (unhide hd), _, rfl⟩

set_option maxHeartbeats 1000000 in
theorem peek_any (b : Nat) (t : TypeId) (s : ByteArray) (k : Nat) (rest : List Value) (w : World) (h : Rd w b t s k rest) (hk : k ≤ s.size) (hs : s.size ≤ 1048576) :
    Calls Tryz.prog 61 #[.pointer (some ⟨b, 0, none⟩)] w fun e w' => e = .returned (.int .u8 (J.peek s k)) ∧ ∃ q, w' = w.drewN q := by
  have r0 := fun q => show (w.drewN q).cell? ⟨b, 0, none⟩ = some (.string s) from h.cell 0
  have r1 := fun q => show (w.drewN q).cell? ⟨b, 1, none⟩ = some (.int .i64 k) from h.cell 1
  have HE := hide (ended_any b t s k rest w h hs)
  by_cases hlt : k < s.size
  · have hltz2 : (k : Int) < (s.size : Int) := by omega
    rw [J.peek_in s k hlt]
    rw [decide_eq_false (by omega)] at HE
    clear h
    go_enter Tryz.func61, Tryz.ntmps61
    go_wp2_with fail
    refine (unhide HE).mono ?_
    rintro e1 w1 ⟨rfl, q1, hw1⟩
    have r0' := fun q => show (w1.drewN q).cell? ⟨b, 0, none⟩ = some (.string s) by rw [hw1]; exact r0 0
    have r1' := fun q => show (w1.drewN q).cell? ⟨b, 1, none⟩ = some (.int .i64 k) by rw [hw1]; exact r1 0
    have HW1 := hide hw1
    have hltz : ¬ (s.size : Int) ≤ (k : Int) := by omega
    clear r0 r1 hw1
    go_wp2_with fail
    go_quiet (fail)
    go_wp2_with fail
    go_ret
    exact ⟨rfl, _, by rw [unhide HW1, World.drewN_drewN]⟩
  · rw [J.peek_out s k hlt]
    rw [decide_eq_true (by omega)] at HE
    clear h
    go_enter Tryz.func61, Tryz.ntmps61
    go_wp2_with fail
    refine (unhide HE).mono ?_
    rintro e1 w1 ⟨rfl, q1, rfl⟩
    clear r0 r1
    go_wp2_with fail
    go_ret
    exact ⟨rfl, _, rfl⟩

set_option maxHeartbeats 1000000 in
theorem take_yes (b : Nat) (t : TypeId) (s : ByteArray) (k : Nat) (c : Int) (rest : List Value) (w : World) (h : Rd w b t s k rest) (hs : s.size ≤ 1048576) (hc : 0 < c) (hp : J.peek s k = c) :
    Calls Tryz.prog 60 #[.pointer (some ⟨b, 0, none⟩), .int .u8 c] w fun e w' => e = .returned (.bool true) ∧ Rd w' b t s (k + 1) rest ∧ Tch w.heap.size b w w' := by
  have hlt := J.peek_lt s k c hc hp
  have H := peek_any b t s k rest w h (by omega) hs
  rw [hp] at H
  have r1 := h.cell 1
  have z1 := h.frozen 1
  have hset := hide (show Rd (w.setCell ⟨b, 1, none⟩ (.int .i64 ((k : Int) + 1))) b t s (k + 1) rest from h.set 1 _)
  simp only [List.getElem?_cons_zero, List.getElem?_cons_succ] at r1
  clear h
  go_enter Tryz.func60, Tryz.ntmps60
  go_wp2_with fail
  refine H.mono ?_
  rintro e w1 ⟨rfl, q, rfl⟩
  go_wp2_with fail
  go_ret
  exact ⟨rfl, (unhide hset).drewN q, (Tch.set _ _ _ _ _).drewN q⟩

set_option maxHeartbeats 1000000 in
theorem take_no (b : Nat) (t : TypeId) (s : ByteArray) (k : Nat) (c : Int) (rest : List Value) (w : World) (h : Rd w b t s k rest) (hk : k ≤ s.size) (hs : s.size ≤ 1048576) (hp : J.peek s k ≠ c) :
    Calls Tryz.prog 60 #[.pointer (some ⟨b, 0, none⟩), .int .u8 c] w fun e w' => e = .returned (.bool false) ∧ ∃ q, w' = w.drewN q := by
  have H := peek_any b t s k rest w h hk hs
  generalize J.peek s k = q at *
  have hq : (q == c) = false := by simp [hp]
  clear h
  go_enter Tryz.func60, Tryz.ntmps60
  go_wp2_with fail
  refine H.mono ?_
  rintro e w1 ⟨rfl, q, rfl⟩
  go_wp2_with fail
  go_ret
  exact ⟨rfl, q, rfl⟩

end Go.Proofs.YtepfdlbnnkojbaaGreatDoor

namespace Go.Proofs.YtepfdlbnnkojbaaGreatDoor
open Go.RowKit
set_option linter.unusedVariables false
namespace J
/-- The value of a hex digit; -1: it is none. -/
def hexI (c : Int) : Int := if 48 ≤ c ∧ c ≤ 57 then c - 48 else if 97 ≤ c ∧ c ≤ 102 then c - 87 else if 65 ≤ c ∧ c ≤ 70 then c - 55 else -1
theorem hexI_bd (c : Int) : -1 ≤ hexI c ∧ hexI c ≤ 15 := by unfold hexI; repeat' split; all_goals omega
theorem hexI_in (s : ByteArray) (k : Nat) (h : 0 ≤ hexI (peek s k)) : k < s.size := by
  by_cases hk : k < s.size
  · exact hk
  · rw [peek_out s k hk] at h; simp [hexI] at h
/-- A word, byte by byte: where it ends, or where the text is another. -/
def wordR (s : ByteArray) : Nat → List UInt8 → Nat ⊕ Nat
  | k, [] => .inr k
  | k, c :: r => if peek s k = (c.toNat : Int) then wordR s (k + 1) r else .inl k
/-- What stands behind a backslash (k: the place behind it): a code and a place, or a byte and where it ends. -/
def escR (s : ByteArray) (k : Nat) : (Int × Nat) ⊕ (Int × Nat) :=
  if peek s k = 34 ∨ peek s k = 92 ∨ peek s k = 47 then .inr (peek s k, k + 1)
  else if peek s k ≠ 117 then .inl (5, k)
  else if peek s (k + 1) ≠ 48 then .inl (5, k + 1)
  else if peek s (k + 2) ≠ 48 then .inl (5, k + 2)
  else if hexI (peek s (k + 3)) < 0 then .inl (5, k + 3)
  else if hexI (peek s (k + 4)) < 0 then .inl (5, k + 4)
  else if 16 * hexI (peek s (k + 3)) + hexI (peek s (k + 4)) < 32 ∨ 126 < 16 * hexI (peek s (k + 3)) + hexI (peek s (k + 4)) then .inl (5, k + 3)
  else .inr (16 * hexI (peek s (k + 3)) + hexI (peek s (k + 4)), k + 5)
/-- One byte of a string. -/
def sbR (s : ByteArray) (k : Nat) : (Int × Nat) ⊕ (Int × Nat) :=
  if peek s k = 92 then escR s (k + 1) else if peek s k < 32 ∨ 126 < peek s k then .inl (5, k) else .inr (peek s k, k + 1)
theorem wordR_yes {s : ByteArray} {k : Nat} {c : UInt8} {r : List UInt8} (h : peek s k = (c.toNat : Int)) : wordR s k (c :: r) = wordR s (k + 1) r := by rw [wordR, if_pos h]
theorem wordR_not {s : ByteArray} {k : Nat} {c : UInt8} {r : List UInt8} (h : peek s k ≠ (c.toNat : Int)) : wordR s k (c :: r) = .inl k := by rw [wordR, if_neg h]
theorem wordR_u00 (s : ByteArray) (k : Nat) : wordR s k [117, 48, 48] = if peek s k ≠ 117 then .inl k else if peek s (k + 1) ≠ 48 then .inl (k + 1) else if peek s (k + 2) ≠ 48 then .inl (k + 2) else .inr (k + 3) := by
  rw [wordR]
  by_cases h1 : peek s k = 117
  · rw [if_pos (by exact h1), if_neg (by simpa using h1), wordR]
    by_cases h2 : peek s (k + 1) = 48
    · rw [if_pos (by exact h2), if_neg (by simpa using h2), wordR]
      by_cases h3 : peek s (k + 1 + 1) = 48
      · rw [if_pos (by exact h3), if_neg (by simpa using h3), wordR]
      · rw [if_neg (by exact h3), if_pos (by simpa using h3)]
    · rw [if_neg (by exact h2), if_pos (by simpa using h2)]
  · rw [if_neg (by exact h1), if_pos (by simpa using h1)]
theorem escR_plain {s : ByteArray} {k : Nat} (h : peek s k = 34 ∨ peek s k = 92 ∨ peek s k = 47) : escR s k = .inr (peek s k, k + 1) := by unfold escR; rw [if_pos h]
theorem escR_word {s : ByteArray} {k m : Nat} (h : ¬ (peek s k = 34 ∨ peek s k = 92 ∨ peek s k = 47)) (hw : wordR s k [117, 48, 48] = .inl m) : escR s k = .inl (5, m) := by
  rw [wordR_u00] at hw
  unfold escR
  rw [if_neg h]
  split at hw
  · rename_i h1; rw [if_pos h1]; simp only [Sum.inl.injEq] at hw; rw [hw]
  rename_i h1; rw [if_neg h1]
  split at hw
  · rename_i h2; rw [if_pos h2]; simp only [Sum.inl.injEq] at hw; rw [hw]
  rename_i h2; rw [if_neg h2]
  split at hw
  · rename_i h3; rw [if_pos h3]; simp only [Sum.inl.injEq] at hw; rw [hw]
  · cases hw
theorem escR_u {s : ByteArray} {k m : Nat} (h : ¬ (peek s k = 34 ∨ peek s k = 92 ∨ peek s k = 47)) (hw : wordR s k [117, 48, 48] = .inr m) : m = k + 3 ∧ escR s k = (if hexI (peek s (k + 3)) < 0 then .inl (5, k + 3)
  else if hexI (peek s (k + 4)) < 0 then .inl (5, k + 4)
  else if 16 * hexI (peek s (k + 3)) + hexI (peek s (k + 4)) < 32 ∨ 126 < 16 * hexI (peek s (k + 3)) + hexI (peek s (k + 4)) then .inl (5, k + 3)
  else .inr (16 * hexI (peek s (k + 3)) + hexI (peek s (k + 4)), k + 5)) := by
  rw [wordR_u00] at hw
  unfold escR
  rw [if_neg h]
  split at hw
  · cases hw
  rename_i h1; rw [if_neg h1]
  split at hw
  · cases hw
  rename_i h2; rw [if_neg h2]
  split at hw
  · cases hw
  rename_i h3; rw [if_neg h3]
  simp only [Sum.inr.injEq] at hw
  exact ⟨hw.symm, rfl⟩
theorem escR_ok {s : ByteArray} {k : Nat} (hk : k ≤ s.size) {c : Int} {e : Nat} (h : escR s k = .inr (c, e)) : 32 ≤ c ∧ c ≤ 126 ∧ k < e ∧ e ≤ s.size := by
  unfold escR at h
  split at h
  · rename_i h1
    simp only [Sum.inr.injEq, Prod.mk.injEq] at h
    obtain ⟨rfl, rfl⟩ := h
    have : k < s.size := by
      by_cases hk : k < s.size
      · exact hk
      · rw [peek_out s k hk] at h1; omega
    omega
  repeat (split at h; · cases h)
  rename_i h1 h2 h3 h4 h5 h6 h7
  simp only [Sum.inr.injEq, Prod.mk.injEq] at h
  obtain ⟨rfl, rfl⟩ := h
  have := hexI_in s (k + 4) (by omega)
  omega
theorem escR_no {s : ByteArray} {k : Nat} (hk : k ≤ s.size) {c : Int} {e : Nat} (h : escR s k = .inl (c, e)) : c = 5 ∧ k ≤ e ∧ e ≤ s.size := by
  have g : ∀ j : Nat, ∀ x : Int, 0 < x → peek s j = x → j + 1 ≤ s.size := fun j x hx hj => by have := peek_lt s j x hx hj; omega
  have q : ∀ j : Nat, 0 ≤ hexI (peek s j) → j + 1 ≤ s.size := fun j hj => by have := hexI_in s j hj; omega
  unfold escR at h
  split at h
  · cases h
  split at h
  · simp only [Sum.inl.injEq, Prod.mk.injEq] at h; omega
  rename_i h2
  have a1 := g k 117 (by decide) (by omega)
  split at h
  · simp only [Sum.inl.injEq, Prod.mk.injEq] at h; omega
  rename_i h3
  have a2 := g (k + 1) 48 (by decide) (by omega)
  split at h
  · simp only [Sum.inl.injEq, Prod.mk.injEq] at h; omega
  rename_i h4
  have a3 := g (k + 2) 48 (by decide) (by omega)
  split at h
  · simp only [Sum.inl.injEq, Prod.mk.injEq] at h; omega
  rename_i h5
  have a4 := q (k + 3) (by omega)
  split at h
  · simp only [Sum.inl.injEq, Prod.mk.injEq] at h; omega
  split at h
  · simp only [Sum.inl.injEq, Prod.mk.injEq] at h; omega
  · cases h
theorem sbR_ok {s : ByteArray} {k : Nat} (hk : k ≤ s.size) {c : Int} {e : Nat} (h : sbR s k = .inr (c, e)) : 32 ≤ c ∧ c ≤ 126 ∧ k < e ∧ e ≤ s.size := by
  unfold sbR at h
  split at h
  · rename_i h1
    have := peek_lt s k 92 (by decide) h1
    have := escR_ok (by omega) h
    omega
  split at h
  · cases h
  · rename_i h1 h2
    simp only [Sum.inr.injEq, Prod.mk.injEq] at h
    obtain ⟨rfl, rfl⟩ := h
    have := peek_lt s k (peek s k) (by omega) rfl
    omega
theorem sbR_no {s : ByteArray} {k : Nat} (hk : k ≤ s.size) {c : Int} {e : Nat} (h : sbR s k = .inl (c, e)) : c = 5 ∧ k ≤ e ∧ e ≤ s.size := by
  unfold sbR at h
  split at h
  · rename_i h1
    have := peek_lt s k 92 (by decide) h1
    have := escR_no (by omega) h
    omega
  split at h
  · simp only [Sum.inl.injEq, Prod.mk.injEq] at h; omega
  · cases h
/-- The bytes of a string up to its last quote, by fuel. -/
def qF (s : ByteArray) : Nat → Nat → List UInt8 → (Int × Nat) ⊕ (List UInt8 × Nat)
  | 0, i, _ => .inl (5, i)
  | f + 1, i, acc => if peek s i = 34 then .inr (acc, i + 1) else match sbR s i with
    | .inl e => .inl e
    | .inr (b, e) => qF s f e (acc ++ [UInt8.ofNat b.toNat])
/-- A string in quotes at a place. -/
def quotR (s : ByteArray) (k : Nat) : (Int × Nat) ⊕ (List UInt8 × Nat) :=
  if peek s k ≠ 34 then .inl (5, k) else match qF s (s.size + 1) (k + 1) [] with
    | .inl e => .inl e
    | .inr (l, e) => if 60 < l.length then .inl (2, k) else .inr (l, e)
theorem quotR_no {s : ByteArray} {k : Nat} (hp : peek s k ≠ 34) : quotR s k = .inl (5, k) := by unfold quotR; rw [if_pos hp]
theorem quotR_bad {s : ByteArray} {k : Nat} (hp : peek s k = 34) {p : Int × Nat} (h : qF s (s.size + 1) (k + 1) [] = .inl p) : quotR s k = .inl p := by unfold quotR; rw [if_neg (by simpa using hp), h]
theorem quotR_big {s : ByteArray} {k : Nat} (hp : peek s k = 34) {l : List UInt8} {e : Nat} (h : qF s (s.size + 1) (k + 1) [] = .inr (l, e)) (hb : 60 < l.length) : quotR s k = .inl (2, k) := by unfold quotR; rw [if_neg (by simpa using hp), h]; simp only; rw [if_pos hb]
theorem quotR_ok {s : ByteArray} {k : Nat} (hp : peek s k = 34) {l : List UInt8} {e : Nat} (h : qF s (s.size + 1) (k + 1) [] = .inr (l, e)) (hb : ¬ 60 < l.length) : quotR s k = .inr (l, e) := by unfold quotR; rw [if_neg (by simpa using hp), h]; simp only; rw [if_neg hb]
/-- The fuel does not matter where it suffices. -/
theorem qF_fuel (s : ByteArray) : ∀ f g i acc, i ≤ s.size → s.size < i + f → s.size < i + g → qF s f i acc = qF s g i acc := by
  intro f
  induction f with
  | zero => intro g i acc h1 h2; omega
  | succ f ih =>
    intro g i acc h1 h2 h3
    cases g with
    | zero => omega
    | succ g =>
      rw [qF, qF]
      split
      · rfl
      cases hs : sbR s i with
      | inl e => rfl
      | inr p =>
        obtain ⟨b, e⟩ := p
        have := sbR_ok h1 hs
        exact ih g e _ (by omega) (by omega) (by omega)
theorem qF_end {s : ByteArray} {i : Nat} (hi : i ≤ s.size) (acc : List UInt8) (h : peek s i = 34) : qF s (s.size + 1 - i) i acc = .inr (acc, i + 1) := by
  have e : s.size + 1 - i = (s.size - i) + 1 := by omega
  rw [e, qF, if_pos h]
theorem qF_bad {s : ByteArray} {i : Nat} (hi : i ≤ s.size) (acc : List UInt8) (h : peek s i ≠ 34) {p : Int × Nat} (hs : sbR s i = .inl p) : qF s (s.size + 1 - i) i acc = .inl p := by
  have e : s.size + 1 - i = (s.size - i) + 1 := by omega
  rw [e, qF, if_neg h, hs]
theorem qF_next {s : ByteArray} {i : Nat} (hi : i ≤ s.size) (acc : List UInt8) (h : peek s i ≠ 34) {c : Int} {j : Nat} (hs : sbR s i = .inr (c, j)) : qF s (s.size + 1 - i) i acc = qF s (s.size + 1 - j) j (acc ++ [UInt8.ofNat c.toNat]) := by
  have e : s.size + 1 - i = (s.size - i) + 1 := by omega
  have hj := sbR_ok hi hs
  rw [e, qF, if_neg h, hs]
  exact qF_fuel s _ _ j _ (by omega) (by omega) (by omega)
end J

end Go.Proofs.YtepfdlbnnkojbaaGreatDoor

namespace Go.Proofs.YtepfdlbnnkojbaaGreatDoor
open Go.RowKit
set_option linter.unusedVariables false

namespace J
/-- The first place from k on whose byte is not so. -/
def run (p : UInt8 → Bool) (s : ByteArray) (k : Nat) : Nat := k + ((s.data.toList.drop k).takeWhile p).length
theorem run_cons (s : ByteArray) (k : Nat) (h : k < s.size) : s.data.toList.drop k = s[k] :: s.data.toList.drop (k + 1) := List.drop_eq_getElem_cons (by simpa using h)
theorem run_end (p : UInt8 → Bool) (s : ByteArray) (k : Nat) (h : s.size ≤ k) : run p s k = k := by
  unfold run; rw [List.drop_eq_nil_of_le (by simpa using h)]; rfl
theorem run_stop (p : UInt8 → Bool) (s : ByteArray) (k : Nat) (h : k < s.size) (hb : p s[k] = false) : run p s k = k := by
  unfold run; rw [run_cons s k h, List.takeWhile_cons, hb]; rfl
theorem run_go (p : UInt8 → Bool) (s : ByteArray) (k : Nat) (h : k < s.size) (hb : p s[k] = true) : run p s k = run p s (k + 1) := by
  unfold run; rw [run_cons s k h, List.takeWhile_cons, hb]; simp only [if_true, List.length_cons]; omega
theorem run_le (p : UInt8 → Bool) (s : ByteArray) (k : Nat) (h : k ≤ s.size) : run p s k ≤ s.size := by
  unfold run
  have h1 := (List.takeWhile_sublist p (l := s.data.toList.drop k)).length_le
  rw [List.length_drop] at h1
  have : s.data.toList.length = s.size := by simp
  omega
def dig (b : UInt8) : Bool := decide (48 ≤ (b.toNat : Int)) && decide ((b.toNat : Int) ≤ 57)
theorem dig_yes {b : UInt8} (h : dig b = true) : 48 ≤ (b.toNat : Int) ∧ (b.toNat : Int) ≤ 57 := by
  unfold dig at h; simp only [Bool.and_eq_true, decide_eq_true_eq] at h; exact h
/-- Behind a sign, if there is one. -/
def sign (s : ByteArray) (k : Nat) : Nat := if peek s k = 45 then k + 1 else k
theorem sign_le (s : ByteArray) (k : Nat) (hk : k ≤ s.size) : sign s k ≤ s.size := by
  unfold sign
  split
  · rename_i h; have := peek_lt s k 45 (by decide) h; omega
  · exact hk
/-- Where the number at a place ends, or -1 and where it fails. -/
def num (s : ByteArray) (k : Nat) : Int × Int :=
  if h : sign s k < s.size then
    if dig s[sign s k] = false then (-1, sign s k) else if s[sign s k].toNat = 48 then ((sign s k : Int) + 1, 0) else (run dig s (sign s k), 0)
  else (-1, sign s k)
end J

theorem ret_pair {a b c d : Int} (h1 : a = c) (h2 : b = d) : Ending.returned (.tuple #[.int .i64 a, .int .i64 b]) = .returned (.tuple #[.int .i64 c, .int .i64 d]) := by rw [h1, h2]

set_option maxHeartbeats 1000000 in
theorem l2Digit_any (b : UInt8) (w : World) : Calls Tryz.prog 59 #[.int .u8 (b.toNat : Int)] w fun e w' => e = .returned (.bool (J.dig b)) ∧ w' = w := by
  unfold J.dig
  generalize (b.toNat : Int) = c
  by_cases h1 : 48 ≤ c
  · by_cases h2 : c ≤ 57
    · go_enter Tryz.func59, Tryz.ntmps59
      go_wp2
      go_ret
      exact ⟨ret_bool (by simp [h1, h2]), rfl⟩
    · go_enter Tryz.func59, Tryz.ntmps59
      go_wp2
      go_ret
      exact ⟨ret_bool (by simp; omega), rfl⟩
  · go_enter Tryz.func59, Tryz.ntmps59
    go_wp2
    go_ret
    exact ⟨ret_bool (by simp; omega), rfl⟩

set_option maxHeartbeats 2000000 in
/-- spec.l2Number: where a number ends. -/
theorem l2Number_any (s : ByteArray) (k : Nat) (w : World) (hk : k ≤ s.size) (hs : s.size ≤ 1048576) :
    Calls Tryz.prog 48 #[.string s, .int .i64 k] w fun e w' => e = .returned (.tuple #[.int .i64 (J.num s k).1, .int .i64 (J.num s k).2]) ∧ w' = w := by
  by_cases hsg : k < s.size ∧ J.peek s k = 45
  · have hkz : (k : Int) < (s.size : Int) := by omega
    have hc : ((s[k]'hsg.1).toNat : Int) = 45 := by rw [← J.peek_in s k hsg.1]; exact hsg.2
    have hcb : (((s[k]'hsg.1).toNat : Int) == 45) = true := by simp [hc]
    clear hc
    have e1 : J.sign s k = k + 1 := by unfold J.sign; rw [if_pos hsg.2]
    by_cases h1 : k + 1 < s.size
    · have h1z : ¬ (s.size : Int) ≤ ((k : Int) + 1) := by omega
      cases hd : J.dig s[k + 1] with
      | false =>
        have fin := hide (show J.num s k = (-1, ((k : Int) + 1)) by unfold J.num; simp only [e1]; rw [dif_pos h1, if_pos hd] <;> rfl)
        clear e1
        go_enter Tryz.func48, Tryz.ntmps48
        go_wp2_with fail
        refine (l2Digit_any s[k + 1] _).mono ?_
        rintro e w1 ⟨rfl, rfl⟩
        rw [hd]
        go_wp2_with fail
        go_ret2
        exact ⟨by rw [unhide fin] <;> rfl, rfl⟩
      | true =>
        have hdd := J.dig_yes hd
        by_cases h0 : (s[k + 1].toNat : Int) = 48
        · have fin := hide (show J.num s k = (((k : Int) + 1) + 1, 0) by unfold J.num; simp only [e1]; rw [dif_pos h1, if_neg (by rw [hd]; simp), if_pos (by omega)] <;> rfl)
          have h0b : ((s[k + 1].toNat : Int) == 48) = true := by simp [h0]
          clear e1 h0
          go_enter Tryz.func48, Tryz.ntmps48
          go_wp2_with fail
          refine (l2Digit_any s[k + 1] _).mono ?_
          rintro e w1 ⟨rfl, rfl⟩
          rw [hd]
          go_wp2_with fail
          go_ret2
          exact ⟨by rw [unhide fin] <;> rfl, rfl⟩
        · have fin := hide (show J.num s k = (((J.run J.dig s (k + 1) : Nat) : Int), 0) by unfold J.num; simp only [e1]; rw [dif_pos h1, if_neg (by rw [hd]; simp), if_neg (by omega)])
          have h0b : ((s[k + 1].toNat : Int) == 48) = false := by simp [h0]
          clear e1 h0
          go_enter Tryz.func48, Tryz.ntmps48
          go_wp2_with fail
          refine (l2Digit_any s[k + 1] _).mono ?_
          rintro e w1 ⟨rfl, hw1⟩
          rw [hd]
          go_wp2_with fail
          go_loopg [1] (s.size - (k + 1)) (fun gh s1 wr => ∃ j : Nat, Hid (gh = s.size - j) ∧ s1 = .int .i64 j ∧ j ≤ s.size ∧ Hid (J.run J.dig s j = J.run J.dig s (k + 1)) ∧ Hid (wr = w))
          case atStart => exact ⟨k + 1, rfl, by first | rfl | go_num, by omega, rfl, by first | rfl | exact hw1⟩
          case round =>
            obtain ⟨j, hg, rfl, hj, hsk, hw⟩ := hrel
            by_cases hlt : j < s.size
            · have hltz : (j : Int) < (s.size : Int) := by omega
              cases hb : J.dig s[j] with
              | true =>
                have hsk2 := hide ((J.run_go J.dig s j hlt hb).symm.trans hsk.out)
                go_wp2_with fail
                refine (l2Digit_any s[j] _).mono ?_
                rintro e w2 ⟨rfl, rfl⟩
                rw [hb]
                go_wp2_with fail
                go_roundg (s.size - (j + 1))
                case rel => exact ⟨j + 1, rfl, by go_num, by omega, unhide hsk2, hw⟩
                case measure => have := hg.out; omega
              | false =>
                have fin2 := hide ((J.run_stop J.dig s j hlt hb).symm.trans hsk.out)
                go_wp2_with fail
                refine (l2Digit_any s[j] _).mono ?_
                rintro e w2 ⟨rfl, rfl⟩
                rw [hb]
                go_wp2_with fail
                go_ret2
                exact ⟨by rw [unhide fin, ← unhide fin2] <;> rfl, hw⟩
            · have hltz : ¬ (j : Int) < (s.size : Int) := by omega
              have fin2 := hide ((J.run_end J.dig s j (by omega)).symm.trans hsk.out)
              go_wp2_with fail
              go_ret2
              exact ⟨by rw [unhide fin, ← unhide fin2] <;> rfl, hw⟩
    · have h1z : (s.size : Int) ≤ ((k : Int) + 1) := by omega
      have fin := hide (show J.num s k = (-1, ((k : Int) + 1)) by unfold J.num; simp only [e1]; rw [dif_neg h1] <;> rfl)
      clear e1
      go_enter Tryz.func48, Tryz.ntmps48
      go_wp2_with fail
      go_ret2
      exact ⟨by rw [unhide fin] <;> rfl, rfl⟩
  · have hne : J.peek s k ≠ 45 := fun h => hsg ⟨J.peek_lt s k 45 (by decide) h, h⟩
    have hkl : k < s.size → ((if h : k < s.size then ((s[k]).toNat : Int) else 0) == 45) = false := fun h => by rw [dif_pos h, ← J.peek_in s k h]; simp [hne]
    have e1 : J.sign s k = k := by unfold J.sign; rw [if_neg hne]
    by_cases h1 : k < s.size
    · have h1z : ¬ (s.size : Int) ≤ (k : Int) := by omega
      have h1y : (k : Int) < (s.size : Int) := by omega
      have hcb : ((s[k].toNat : Int) == 45) = false := by have := hkl h1; rw [dif_pos h1] at this; exact this
      cases hd : J.dig s[k] with
      | false =>
        have fin := hide (show J.num s k = (-1, (k : Int)) by unfold J.num; simp only [e1]; rw [dif_pos h1, if_pos hd] <;> rfl)
        clear e1
        go_enter Tryz.func48, Tryz.ntmps48
        go_wp2_with fail
        refine (l2Digit_any s[k] _).mono ?_
        rintro e w1 ⟨rfl, rfl⟩
        rw [hd]
        go_wp2_with fail
        go_ret2
        exact ⟨by rw [unhide fin] <;> rfl, rfl⟩
      | true =>
        have hdd := J.dig_yes hd
        by_cases h0 : (s[k].toNat : Int) = 48
        · have fin := hide (show J.num s k = ((k : Int) + 1, 0) by unfold J.num; simp only [e1]; rw [dif_pos h1, if_neg (by rw [hd]; simp), if_pos (by omega)] <;> rfl)
          have h0b : ((s[k].toNat : Int) == 48) = true := by simp [h0]
          clear e1 h0
          go_enter Tryz.func48, Tryz.ntmps48
          go_wp2_with fail
          refine (l2Digit_any s[k] _).mono ?_
          rintro e w1 ⟨rfl, rfl⟩
          rw [hd]
          go_wp2_with fail
          go_ret2
          exact ⟨by rw [unhide fin] <;> rfl, rfl⟩
        · have fin := hide (show J.num s k = (((J.run J.dig s (k) : Nat) : Int), 0) by unfold J.num; simp only [e1]; rw [dif_pos h1, if_neg (by rw [hd]; simp), if_neg (by omega)])
          have h0b : ((s[k].toNat : Int) == 48) = false := by simp [h0]
          clear e1 h0
          go_enter Tryz.func48, Tryz.ntmps48
          go_wp2_with fail
          refine (l2Digit_any s[k] _).mono ?_
          rintro e w1 ⟨rfl, hw1⟩
          rw [hd]
          go_wp2_with fail
          go_loopg [1] (s.size - (k)) (fun gh s1 wr => ∃ j : Nat, Hid (gh = s.size - j) ∧ s1 = .int .i64 j ∧ j ≤ s.size ∧ Hid (J.run J.dig s j = J.run J.dig s (k)) ∧ Hid (wr = w))
          case atStart => exact ⟨k, rfl, by first | rfl | go_num, by omega, rfl, by first | rfl | exact hw1⟩
          case round =>
            obtain ⟨j, hg, rfl, hj, hsk, hw⟩ := hrel
            by_cases hlt : j < s.size
            · have hltz : (j : Int) < (s.size : Int) := by omega
              cases hb : J.dig s[j] with
              | true =>
                have hsk2 := hide ((J.run_go J.dig s j hlt hb).symm.trans hsk.out)
                go_wp2_with fail
                refine (l2Digit_any s[j] _).mono ?_
                rintro e w2 ⟨rfl, rfl⟩
                rw [hb]
                go_wp2_with fail
                go_roundg (s.size - (j + 1))
                case rel => exact ⟨j + 1, rfl, by go_num, by omega, unhide hsk2, hw⟩
                case measure => have := hg.out; omega
              | false =>
                have fin2 := hide ((J.run_stop J.dig s j hlt hb).symm.trans hsk.out)
                go_wp2_with fail
                refine (l2Digit_any s[j] _).mono ?_
                rintro e w2 ⟨rfl, rfl⟩
                rw [hb]
                go_wp2_with fail
                go_ret2
                exact ⟨by rw [unhide fin, ← unhide fin2] <;> rfl, hw⟩
            · have hltz : ¬ (j : Int) < (s.size : Int) := by omega
              have fin2 := hide ((J.run_end J.dig s j (by omega)).symm.trans hsk.out)
              go_wp2_with fail
              go_ret2
              exact ⟨by rw [unhide fin, ← unhide fin2] <;> rfl, hw⟩
    · have h1z : (s.size : Int) ≤ (k : Int) := by omega
      have h1y : ¬ (k : Int) < (s.size : Int) := by omega
      have fin := hide (show J.num s k = (-1, (k : Int)) by unfold J.num; simp only [e1]; rw [dif_neg h1] <;> rfl)
      clear e1
      go_enter Tryz.func48, Tryz.ntmps48
      go_wp2_with fail
      go_ret2
      exact ⟨by rw [unhide fin] <;> rfl, rfl⟩
end Go.Proofs.YtepfdlbnnkojbaaGreatDoor

namespace Go.Proofs.YtepfdlbnnkojbaaGreatDoor
open Go.RowKit
set_option linter.unusedVariables false

namespace J
/-- The number that the first k digits tell. -/
def valK (s : ByteArray) (k : Nat) : Int := (s.data.toList.take k).foldl (fun n b => n * 10 + ((b.toNat : Int) - 48)) 0
theorem valK_zero (s : ByteArray) : valK s 0 = 0 := rfl
theorem valK_succ (s : ByteArray) (k : Nat) (h : k < s.size) : valK s (k + 1) = valK s k * 10 + ((s[k].toNat : Int) - 48) := by
  unfold valK; rw [take_snoc s k h, List.foldl_append]; rfl
def allDig (s : ByteArray) : Prop := ∀ k (h : k < s.size), dig s[k] = true
theorem valK_bd (s : ByteArray) (hd : allDig s) (k : Nat) (hk : k ≤ s.size) : 0 ≤ valK s k ∧ valK s k < ((10 ^ k : Nat) : Int) := by
  induction k with
  | zero => rw [valK_zero]; exact ⟨by omega, by simp⟩
  | succ k ih =>
    have h1 := ih (by omega)
    have h2 := dig_yes (hd k (by omega))
    rw [valK_succ s k (by omega), Nat.pow_succ]
    push_cast at h1 ⊢
    omega
theorem valK_small (s : ByteArray) (hd : allDig s) (k : Nat) (hk : k ≤ s.size) (h16 : k ≤ 16) : 0 ≤ valK s k ∧ valK s k < 10000000000000000 := by
  have h1 := valK_bd s hd k hk
  have h2 : 10 ^ k ≤ 10 ^ 16 := Nat.pow_le_pow_right (by omega) h16
  have h3 : (10 : Nat) ^ 16 = 10000000000000000 := by decide
  omega
/-- What a numeral is: its number, and whether it is one of a value. -/
def numVal (neg : Bool) (d : ByteArray) : Int × Bool :=
  if 16 < d.size ∨ 1000000000000000 < valK d d.size then (0, false) else if neg = true then (-(valK d d.size), true) else (valK d d.size, true)
end J

set_option maxHeartbeats 2000000 in
/-- The loop over the digits d, and what follows it; the text is s, with or without a sign. -/
theorem l2Value_plain (s : ByteArray) (w : World) (h0 : 0 < s.size) (hs : s.size ≤ 1048576) (hne : ¬ (s[0].toNat : Int) = 45) (hd : J.allDig s) :
    Calls Tryz.prog 49 #[.string s] w fun e w' => e = .returned (.tuple #[.int .i64 (J.numVal false s).1, .bool (J.numVal false s).2]) ∧ w' = w := by
  have hneb : ((s[0].toNat : Int) == 45) = false := by simp [hne]
  have h0z : (0 : Int) < (s.size : Int) := by omega
  by_cases h16 : 16 < s.size
  · have fin := hide (show J.numVal false s = (0, false) by unfold J.numVal; rw [if_pos (.inl h16)])
    go_enter Tryz.func49, Tryz.ntmps49
    go_wp2_with fail
    go_ret2
    exact ⟨by rw [unhide fin] <;> rfl, rfl⟩
  · have HD := hide hd
    clear hd hne
    go_enter Tryz.func49, Tryz.ntmps49
    go_wp2_with fail
    go_loopg [5, 6] s.size (fun gh s5 s6 wr => ∃ (k : Nat) (n : Int), Hid (gh = s.size - k) ∧ s6 = .int .i64 k ∧ s5 = .int .i64 n ∧ k ≤ s.size ∧ Hid (n = J.valK s k) ∧ Hid (wr = w))
    case atStart => exact ⟨0, 0, rfl, rfl, rfl, by omega, rfl, rfl⟩
    case round =>
      obtain ⟨k, n, hg, rfl, rfl, hk, hn, hw⟩ := hrel
      have hbd := J.valK_small s (unhide HD) k hk (by omega)
      rw [← hn.out] at hbd
      by_cases hlt : k < s.size
      · have hltz : (k : Int) < (s.size : Int) := by omega
        have hdd := J.dig_yes ((unhide HD) k hlt)
        have hn2 := hide (show n * 10 + ((s[k].toNat : Int) - 48) = J.valK s (k + 1) by rw [J.valK_succ s k hlt, hn.out])
        go_wp2_with fail
        go_roundg (s.size - (k + 1))
        case rel => exact ⟨k + 1, _, rfl, by go_num, rfl, by omega, unhide hn2, hw⟩
        case measure => have := hg.out; omega
      · have hltz : ¬ (k : Int) < (s.size : Int) := by omega
        have hke : k = s.size := by omega
        by_cases hbig : 1000000000000000 < n
        · have fin := hide (show J.numVal false s = (0, false) by unfold J.numVal; rw [if_pos (.inr (by rw [← hke, ← hn.out]; exact hbig))])
          clear hke
          go_wp2_with fail
          go_ret2
          exact ⟨by rw [unhide fin] <;> rfl, hw⟩
        · have fin := hide (show J.numVal false s = (n, true) by unfold J.numVal; rw [if_neg (by rw [← hke, ← hn.out]; omega), if_neg (by simp), hn.out, hke])
          clear hke
          go_wp2_with fail
          go_ret2
          exact ⟨by rw [unhide fin] <;> rfl, hw⟩
set_option maxHeartbeats 2000000 in
/-- A number with a sign: its digits are d. -/
theorem l2Value_neg (s d : ByteArray) (w : World) (h0 : 0 < s.size) (hs : s.size ≤ 1048576) (hne : (s[0].toNat : Int) = 45) (hde : d = s.extract 1 s.size) (hd : J.allDig d) :
    Calls Tryz.prog 49 #[.string s] w fun e w' => e = .returned (.tuple #[.int .i64 (J.numVal true d).1, .bool (J.numVal true d).2]) ∧ w' = w := by
  have hneb : ((s[0].toNat : Int) == 45) = true := by simp [hne]
  have h0z : (0 : Int) < (s.size : Int) := by omega
  have h1z : (1 : Int) ≤ (s.size : Int) := by omega
  have hdz : d.size ≤ 1048576 := by rw [hde, ByteArray.size_extract]; omega
  have hex : s.extract 1 s.size = d := hde.symm
  clear hde
  by_cases h16 : 16 < d.size
  · have fin := hide (show J.numVal true d = (0, false) by unfold J.numVal; rw [if_pos (.inl h16)])
    go_enter Tryz.func49, Tryz.ntmps49
    go_wp2_with fail
    go_ret2
    exact ⟨by rw [unhide fin] <;> rfl, rfl⟩
  · have HD := hide hd
    clear hd hne
    go_enter Tryz.func49, Tryz.ntmps49
    go_wp2_with fail
    go_loopg [5, 6] d.size (fun gh s5 s6 wr => ∃ (k : Nat) (n : Int), Hid (gh = d.size - k) ∧ s6 = .int .i64 k ∧ s5 = .int .i64 n ∧ k ≤ d.size ∧ Hid (n = J.valK d k) ∧ Hid (wr = w))
    case atStart => exact ⟨0, 0, rfl, rfl, rfl, by omega, rfl, rfl⟩
    case round =>
      obtain ⟨k, n, hg, rfl, rfl, hk, hn, hw⟩ := hrel
      have hbd := J.valK_small d (unhide HD) k hk (by omega)
      rw [← hn.out] at hbd
      by_cases hlt : k < d.size
      · have hltz : (k : Int) < (d.size : Int) := by omega
        have hdd := J.dig_yes ((unhide HD) k hlt)
        have hn2 := hide (show n * 10 + ((d[k].toNat : Int) - 48) = J.valK d (k + 1) by rw [J.valK_succ d k hlt, hn.out])
        go_wp2_with fail
        go_roundg (d.size - (k + 1))
        case rel => exact ⟨k + 1, _, rfl, by go_num, rfl, by omega, unhide hn2, hw⟩
        case measure => have := hg.out; omega
      · have hltz : ¬ (k : Int) < (d.size : Int) := by omega
        have hke : k = d.size := by omega
        by_cases hbig : 1000000000000000 < n
        · have fin := hide (show J.numVal true d = (0, false) by unfold J.numVal; rw [if_pos (.inr (by rw [← hke, ← hn.out]; exact hbig))])
          clear hke
          go_wp2_with fail
          go_ret2
          exact ⟨by rw [unhide fin] <;> rfl, hw⟩
        · have fin := hide (show J.numVal true d = (-n, true) by unfold J.numVal; rw [if_neg (by rw [← hke, ← hn.out]; omega), if_pos rfl, hn.out, hke])
          clear hke
          go_wp2_with fail
          go_ret2
          exact ⟨by rw [unhide fin] <;> rfl, hw⟩

namespace J
/-- Is it a numeral, whole? -/
def isNum (s : ByteArray) : Prop := (num s 0).1 = s.size ∧ 0 < s.size
theorem run_all (p : UInt8 → Bool) (s : ByteArray) (k : Nat) (h : run p s k = s.size) : ∀ j (hj : j < s.size), k ≤ j → p s[j] = true := by
  intro j hj hkj
  induction hm : s.size - k generalizing k with
  | zero => omega
  | succ m ih =>
    have hk : k < s.size := by omega
    cases hb : p s[k] with
    | false => rw [run_stop p s k hk hb] at h; omega
    | true =>
      by_cases e : j = k
      · subst e; exact hb
      · exact ih (k + 1) (by rw [← run_go p s k hk hb]; exact h) (by omega) (by omega)
end J
end Go.Proofs.YtepfdlbnnkojbaaGreatDoor

namespace Go.Proofs.YtepfdlbnnkojbaaGreatDoor
open Go.RowKit
set_option linter.unusedVariables false

namespace J
theorem isNum_digs {s : ByteArray} (h : isNum s) : ∀ j (hj : j < s.size), sign s 0 ≤ j → dig s[j] = true := by
  obtain ⟨h1, h2⟩ := h
  unfold num at h1
  by_cases hp : sign s 0 < s.size
  · rw [dif_pos hp] at h1
    cases hd : dig s[sign s 0] with
    | false => rw [if_pos hd] at h1; simp only at h1; omega
    | true =>
      rw [if_neg (by rw [hd]; simp)] at h1
      by_cases h0 : s[sign s 0].toNat = 48
      · rw [if_pos h0] at h1
        simp only at h1
        intro j hj hle
        have e : j = sign s 0 := by omega
        subst e; exact hd
      · rw [if_neg h0] at h1
        simp only at h1
        exact run_all dig s (sign s 0) (by omega)
  · rw [dif_neg hp] at h1; simp only at h1; omega
def digitsOf (s : ByteArray) : ByteArray := if peek s 0 = 45 then s.extract 1 s.size else s
def negOf (s : ByteArray) : Bool := decide (peek s 0 = 45)
theorem digits_all {s : ByteArray} (h : isNum s) : allDig (digitsOf s) := by
  have hd := isNum_digs h
  unfold digitsOf
  by_cases hp : peek s 0 = 45
  · have e : sign s 0 = 1 := by unfold sign; rw [if_pos hp]
    rw [if_pos hp]
    intro k hk
    have hk2 : 1 + k < s.size := by rw [ByteArray.size_extract] at hk; omega
    rw [ByteArray.getElem_extract]
    exact hd (1 + k) hk2 (by omega)
  · have e : sign s 0 = 0 := by unfold sign; rw [if_neg hp]
    rw [if_neg hp]
    intro k hk
    exact hd k hk (by omega)
/-- What DecodeNumber answers. -/
def numOut (s : ByteArray) : Int × Int :=
  if (num s 0).1 = s.size ∧ 0 < s.size then (if (numVal (negOf s) (digitsOf s)).2 = true then (0, (numVal (negOf s) (digitsOf s)).1) else (3, 0)) else (5, 0)
theorem numOut_no {s : ByteArray} (h : ¬ isNum s) : numOut s = (5, 0) := by unfold isNum at h; unfold numOut; rw [if_neg h]
theorem numOut_big {s : ByteArray} (h : isNum s) (h2 : (numVal (negOf s) (digitsOf s)).2 = false) : numOut s = (3, 0) := by unfold isNum at h; unfold numOut; rw [if_pos h, if_neg (by rw [h2]; simp)]
theorem numOut_ok {s : ByteArray} (h : isNum s) (h2 : (numVal (negOf s) (digitsOf s)).2 = true) : numOut s = (0, (numVal (negOf s) (digitsOf s)).1) := by unfold isNum at h; unfold numOut; rw [if_pos h, if_pos h2]
end J

/-- spec.l2Value at a numeral. -/
theorem l2Value_any (s : ByteArray) (w : World) (hs : s.size ≤ 1048576) (h : J.isNum s) :
    Calls Tryz.prog 49 #[.string s] w fun e w' => e = .returned (.tuple #[.int .i64 (J.numVal (J.negOf s) (J.digitsOf s)).1, .bool (J.numVal (J.negOf s) (J.digitsOf s)).2]) ∧ w' = w := by
  have hall := J.digits_all h
  have h0 := h.2
  by_cases hp : J.peek s 0 = 45
  · have e1 : J.negOf s = true := by unfold J.negOf; simp [hp]
    have e2 : J.digitsOf s = s.extract 1 s.size := by unfold J.digitsOf; rw [if_pos hp]
    rw [e2] at hall
    rw [e1, e2]
    exact l2Value_neg s _ w h0 hs (by rw [← J.peek_in s 0 h0]; exact hp) rfl hall
  · have e1 : J.negOf s = false := by unfold J.negOf; simp [hp]
    have e2 : J.digitsOf s = s := by unfold J.digitsOf; rw [if_neg hp]
    rw [e2] at hall
    rw [e1, e2]
    exact l2Value_plain s w h0 hs (by rw [← J.peek_in s 0 h0]; exact hp) hall

end Go.Proofs.YtepfdlbnnkojbaaGreatDoor

namespace Go.Proofs.YtepfdlbnnkojbaaGreatDoor
open Go.RowKit
set_option linter.unusedVariables false
namespace J
theorem run_ge (p : UInt8 → Bool) (s : ByteArray) (k : Nat) : k ≤ run p s k := by unfold run; omega
theorem run_in (p : UInt8 → Bool) (s : ByteArray) (k : Nat) : ∀ j (hj : j < s.size), k ≤ j → j < run p s k → p s[j] = true := by
  intro j hj hkj hjr
  induction hm : j - k generalizing k with
  | zero =>
    have e : j = k := by omega
    subst e
    cases hb : p s[j] with
    | true => rfl
    | false => rw [run_stop p s j hj hb] at hjr; omega
  | succ m ih =>
    have hk : k < s.size := by omega
    cases hb : p s[k] with
    | false => rw [run_stop p s k hk hb] at hjr; omega
    | true => exact ih (k + 1) (by omega) (by rw [← run_go p s k hk hb]; exact hjr) (by omega)
theorem run_full (p : UInt8 → Bool) (s : ByteArray) (k : Nat) (hk : k ≤ s.size) (h : ∀ j (hj : j < s.size), k ≤ j → p s[j] = true) : run p s k = s.size := by
  induction hm : s.size - k generalizing k with
  | zero => rw [run_end p s k (by omega)]; omega
  | succ m ih =>
    have hk2 : k < s.size := by omega
    rw [run_go p s k hk2 (h k hk2 (Nat.le_refl _))]
    exact ih (k + 1) (by omega) (fun j hj hkj => h j hj (by omega)) (by omega)
theorem ext_size {s : ByteArray} {k m : Nat} (hm : m ≤ s.size) : (s.extract k m).size = m - k := by rw [ByteArray.size_extract]; omega
theorem ext_at {s : ByteArray} {k m j : Nat} (hj : j < (s.extract k m).size) (hk : k + j < s.size) : (s.extract k m)[j] = s[k + j] := by rw [ByteArray.getElem_extract]
theorem ext_peek {s : ByteArray} {k m j : Nat} (hm : m ≤ s.size) (hj : k + j < m) : peek (s.extract k m) j = peek s (k + j) := by
  have h1 : j < (s.extract k m).size := by rw [ext_size hm]; omega
  rw [peek_in _ _ h1, peek_in s (k + j) (by omega), ext_at h1 (by omega)]
/-- What stands between the ends of a number is a numeral. -/
theorem isNum_ext {s : ByteArray} {k m : Nat} (h : num s k = ((m : Int), 0)) (hm : m ≤ s.size) : isNum (s.extract k m) ∧ k < m := by
  unfold num at h
  by_cases hp : sign s k < s.size
  · rw [dif_pos hp] at h
    cases hd : dig s[sign s k] with
    | false => rw [if_pos hd] at h; simp only [Prod.mk.injEq] at h; omega
    | true =>
      rw [if_neg (by rw [hd]; simp)] at h
      have hsk : k ≤ sign s k ∧ sign s k ≤ k + 1 := by unfold sign; split <;> omega
      have hpm : sign s k < m := by
        by_cases h0 : s[sign s k].toNat = 48
        · rw [if_pos h0] at h; simp only [Prod.mk.injEq] at h; omega
        · rw [if_neg h0] at h
          simp only [Prod.mk.injEq] at h
          rw [run_go dig s (sign s k) hp hd] at h
          have := run_ge dig s (sign s k + 1)
          omega
      have hsz := ext_size (s := s) (k := k) hm
      have hsign : sign (s.extract k m) 0 = sign s k - k := by
        have e := ext_peek (s := s) (k := k) (m := m) (j := 0) hm (by omega)
        unfold sign at hpm ⊢
        rw [e, Nat.add_zero]
        split <;> omega
      have hlt : sign (s.extract k m) 0 < (s.extract k m).size := by rw [hsign, hsz]; omega
      have hat : (s.extract k m)[sign (s.extract k m) 0] = s[sign s k] := by
        rw [ext_at hlt (by rw [hsign]; omega)]
        congr 1
        rw [hsign]; omega
      refine ⟨⟨?_, by rw [hsz]; omega⟩, by omega⟩
      unfold num
      rw [dif_pos hlt, hat, if_neg (by rw [hd]; simp)]
      by_cases h0 : s[sign s k].toNat = 48
      · rw [if_pos h0] at h ⊢
        simp only [Prod.mk.injEq] at h ⊢
        rw [hsign, hsz]
        omega
      · rw [if_neg h0] at h ⊢
        simp only [Prod.mk.injEq] at h ⊢
        rw [run_full dig (s.extract k m) _ (by omega) (fun j hj hle => by
          rw [hsz] at hj
          have hj2 : k + j < s.size := by omega
          rw [ext_at (by rw [hsz]; exact hj) hj2]
          exact run_in dig s (sign s k) (k + j) hj2 (by omega) (by omega))]
  · rw [dif_neg hp] at h; simp only [Prod.mk.injEq] at h; omega
/-- A number within a text: a code and a place, or its value and where it ends. -/
def wholeR (s : ByteArray) (k : Nat) : (Int × Nat) ⊕ (Int × Nat) :=
  if (num s k).1 < 0 then .inl (5, (num s k).2.toNat) else if (numOut (s.extract k (num s k).1.toNat)).1 ≠ 0 then .inl (3, k) else .inr ((numOut (s.extract k (num s k).1.toNat)).2, (num s k).1.toNat)
theorem wholeR_no {s : ByteArray} {k m : Nat} (h : num s k = (-1, (m : Int))) : wholeR s k = .inl (5, m) := by
  unfold wholeR; rw [h]; simp
theorem wholeR_yes {s : ByteArray} {k m : Nat} (h : num s k = ((m : Int), 0)) : wholeR s k = if (numOut (s.extract k m)).1 ≠ 0 then .inl (3, k) else .inr ((numOut (s.extract k m)).2, m) := by
  unfold wholeR; rw [h, if_neg (by simp), Int.toNat_natCast]
theorem numOut_code {s : ByteArray} (h : isNum s) : (numOut s).1 = 0 ∨ (numOut s).1 = 3 := by
  cases h2 : (numVal (negOf s) (digitsOf s)).2 with
  | true => rw [numOut_ok h h2]; exact .inl rfl
  | false => rw [numOut_big h h2]; exact .inr rfl
end J

end Go.Proofs.YtepfdlbnnkojbaaGreatDoor

namespace Go.Proofs.YtepfdlbnnkojbaaGreatDoor
open Go.RowKit
set_option linter.unusedVariables false

namespace J
def blank (b : UInt8) : Bool := b.toNat == 32 || b.toNat == 9 || b.toNat == 10 || b.toNat == 13
def skip (s : ByteArray) (k : Nat) : Nat := k + ((s.data.toList.drop k).takeWhile blank).length
theorem drop_cons (s : ByteArray) (k : Nat) (h : k < s.size) : s.data.toList.drop k = s[k] :: s.data.toList.drop (k + 1) := List.drop_eq_getElem_cons (by simpa using h)
theorem skip_end (s : ByteArray) (k : Nat) (h : s.size ≤ k) : skip s k = k := by
  unfold skip; rw [List.drop_eq_nil_of_le (by simpa using h)]; rfl
theorem skip_stop (s : ByteArray) (k : Nat) (h : k < s.size) (hb : blank s[k] = false) : skip s k = k := by
  unfold skip; rw [drop_cons s k h, List.takeWhile_cons, hb]; rfl
theorem skip_go (s : ByteArray) (k : Nat) (h : k < s.size) (hb : blank s[k] = true) : skip s k = skip s (k + 1) := by
  unfold skip; rw [drop_cons s k h, List.takeWhile_cons, hb]; simp only [if_true, List.length_cons]; omega
theorem skip_le (s : ByteArray) (k : Nat) (h : k ≤ s.size) : skip s k ≤ s.size := by
  unfold skip
  have h1 := (List.takeWhile_sublist blank (l := s.data.toList.drop k)).length_le
  rw [List.length_drop] at h1
  have : s.data.toList.length = s.size := by simp
  omega
theorem skip_ge (s : ByteArray) (k : Nat) : k ≤ skip s k := by unfold skip; omega
theorem blank_iff (s : ByteArray) (k : Nat) (h : k < s.size) : blank s[k] = (peek s k == 32 || peek s k == 9 || peek s k == 10 || peek s k == 13) := by
  rw [peek_in s k h]; unfold blank
  have e : ∀ n : Nat, ((s[k].toNat : Int) == (n : Int)) = (s[k].toNat == n) := fun n => by
    rw [Bool.eq_iff_iff]; simp only [beq_iff_eq]; omega
  rw [← e 32, ← e 9, ← e 10, ← e 13]; rfl
end J

theorem J.blank_int (b : UInt8) : J.blank b = ((b.toNat : Int) == 32 || (b.toNat : Int) == 9 || (b.toNat : Int) == 10 || (b.toNat : Int) == 13) := by
  unfold J.blank
  have e : ∀ n : Nat, ((b.toNat : Int) == (n : Int)) = (b.toNat == n) := fun n => by
    rw [Bool.eq_iff_iff]; simp only [beq_iff_eq]; omega
  rw [← e 32, ← e 9, ← e 10, ← e 13]; rfl

set_option maxHeartbeats 1000000 in
theorem l2Blank_any (b : UInt8) (w : World) : Calls Tryz.prog 33 #[.int .u8 (b.toNat : Int)] w fun e w' => e = .returned (.bool (J.blank b)) ∧ w' = w := by
  rw [J.blank_int]
  generalize (b.toNat : Int) = c
  go_enter Tryz.func33, Tryz.ntmps33
  go_wp2_with fail
  all_goals (go_ret; exact ⟨ret_bool (by simp [*]), rfl⟩)

set_option maxHeartbeats 1000000 in
theorem l2Skip_any (s : ByteArray) (k : Nat) (w : World) (hk : k ≤ s.size) (hs : s.size ≤ 1048576) :
    Calls Tryz.prog 16 #[.string s, .int .i64 k] w fun e w' => e = .returned (.int .i64 (J.skip s k)) ∧ w' = w := by
  go_enter Tryz.func16, Tryz.ntmps16
  go_wp2_with fail
  go_loopg [1] (s.size - k) (fun gh s1 wr => ∃ j : Nat, Hid (gh = s.size - j) ∧ s1 = .int .i64 j ∧ j ≤ s.size ∧ Hid (J.skip s j = J.skip s k) ∧ Hid (wr = w))
  case atStart => exact ⟨k, rfl, rfl, hk, rfl, rfl⟩
  case round =>
    obtain ⟨j, hg, rfl, hj, hsk, hw⟩ := hrel
    by_cases hlt : j < s.size
    · have hltz : (j : Int) < (s.size : Int) := by omega
      cases hb : J.blank s[j] with
      | true =>
        have hsk2 := hide ((J.skip_go s j hlt hb).symm.trans hsk.out)
        go_wp2_with fail
        refine (l2Blank_any s[j] _).mono ?_
        rintro e w1 ⟨rfl, rfl⟩
        rw [hb]
        go_wp2_with fail
        go_roundg (s.size - (j + 1))
        case rel => exact ⟨j + 1, rfl, by go_num, by omega, unhide hsk2, hw⟩
        case measure => have := hg.out; omega
      | false =>
        have fin := hide ((J.skip_stop s j hlt hb).symm.trans hsk.out)
        go_wp2_with fail
        refine (l2Blank_any s[j] _).mono ?_
        rintro e w1 ⟨rfl, rfl⟩
        rw [hb]
        go_wp2_with fail
        go_ret
        exact ⟨ret_int (by rw [← unhide fin]), hw⟩
    · have hltz : ¬ (j : Int) < (s.size : Int) := by omega
      have fin := hide ((J.skip_end s j (by omega)).symm.trans hsk.out)
      go_wp2_with fail
      go_ret
      exact ⟨ret_int (by rw [← unhide fin]), hw⟩

set_option maxHeartbeats 1000000 in
theorem skipBlanks_any (b : Nat) (t : TypeId) (s : ByteArray) (k : Nat) (rest : List Value) (w : World) (h : Rd w b t s k rest) (hk : k ≤ s.size) (hs : s.size ≤ 1048576) :
    Calls Tryz.prog 51 #[.pointer (some ⟨b, 0, none⟩)] w fun e w' => e = .returned (.tuple #[]) ∧ Rd w' b t s (J.skip s k) rest ∧ Tch w.heap.size b w w' := by
  go_enter Tryz.func51, Tryz.ntmps51
  go_wp2_with fail
  go_loopg [] (s.size - k) (fun gh wr => ∃ j : Nat, Hid (gh = s.size - j) ∧ j ≤ s.size ∧ Hid (J.skip s j = J.skip s k) ∧ Rd wr b t s j rest ∧ Tch w.heap.size b w wr)
  case atStart => exact ⟨k, rfl, hk, rfl, h, Tch.refl _ _ _⟩
  case round =>
    obtain ⟨j, hg, hj, hsk, hr, ht⟩ := hrel
    by_cases c0 : J.peek s j = 32
    · have hjs := J.peek_lt s j 32 (by decide) c0
      have hsk2 := hide ((J.skip_go s j hjs (by rw [J.blank_iff s j hjs, c0]; rfl)).symm.trans hsk.out)
      go_wp2_with fail
      refine (take_yes b t s j 32 rest _ hr hs (by decide) c0).mono ?_
      rintro e w1 ⟨rfl, hr1, ht1⟩
      have ht2 := ht.trans (ht1.mono ht.size)
      clear ht1
      go_wp2_with fail
      go_roundg (s.size - (j + 1))
      case rel => exact ⟨j + 1, rfl, by omega, unhide hsk2, hr1, ht2⟩
      case measure => have := hg.out; omega
    · go_wp2_with fail
      refine (take_no b t s j 32 rest _ hr hj hs c0).mono ?_
      rintro e w1 ⟨rfl, q, rfl⟩
      have hr := hr.drewN q
      have ht := ht.drewN q
      generalize wr.drewN q = wr at *
      by_cases c1 : J.peek s j = 9
      · have hjs := J.peek_lt s j 9 (by decide) c1
        have hsk2 := hide ((J.skip_go s j hjs (by rw [J.blank_iff s j hjs, c1]; rfl)).symm.trans hsk.out)
        go_wp2_with fail
        refine (take_yes b t s j 9 rest _ hr hs (by decide) c1).mono ?_
        rintro e w1 ⟨rfl, hr1, ht1⟩
        have ht2 := ht.trans (ht1.mono ht.size)
        clear ht1
        go_wp2_with fail
        go_roundg (s.size - (j + 1))
        case rel => exact ⟨j + 1, rfl, by omega, unhide hsk2, hr1, ht2⟩
        case measure => have := hg.out; omega
      · go_wp2_with fail
        refine (take_no b t s j 9 rest _ hr hj hs c1).mono ?_
        rintro e w1 ⟨rfl, q, rfl⟩
        have hr := hr.drewN q
        have ht := ht.drewN q
        generalize wr.drewN q = wr at *
        by_cases c2 : J.peek s j = 10
        · have hjs := J.peek_lt s j 10 (by decide) c2
          have hsk2 := hide ((J.skip_go s j hjs (by rw [J.blank_iff s j hjs, c2]; rfl)).symm.trans hsk.out)
          go_wp2_with fail
          refine (take_yes b t s j 10 rest _ hr hs (by decide) c2).mono ?_
          rintro e w1 ⟨rfl, hr1, ht1⟩
          have ht2 := ht.trans (ht1.mono ht.size)
          clear ht1
          go_wp2_with fail
          go_roundg (s.size - (j + 1))
          case rel => exact ⟨j + 1, rfl, by omega, unhide hsk2, hr1, ht2⟩
          case measure => have := hg.out; omega
        · go_wp2_with fail
          refine (take_no b t s j 10 rest _ hr hj hs c2).mono ?_
          rintro e w1 ⟨rfl, q, rfl⟩
          have hr := hr.drewN q
          have ht := ht.drewN q
          generalize wr.drewN q = wr at *
          by_cases c3 : J.peek s j = 13
          · have hjs := J.peek_lt s j 13 (by decide) c3
            have hsk2 := hide ((J.skip_go s j hjs (by rw [J.blank_iff s j hjs, c3]; rfl)).symm.trans hsk.out)
            go_wp2_with fail
            refine (take_yes b t s j 13 rest _ hr hs (by decide) c3).mono ?_
            rintro e w1 ⟨rfl, hr1, ht1⟩
            have ht2 := ht.trans (ht1.mono ht.size)
            clear ht1
            go_wp2_with fail
            go_roundg (s.size - (j + 1))
            case rel => exact ⟨j + 1, rfl, by omega, unhide hsk2, hr1, ht2⟩
            case measure => have := hg.out; omega
          · go_wp2_with fail
            refine (take_no b t s j 13 rest _ hr hj hs c3).mono ?_
            rintro e w1 ⟨rfl, q, rfl⟩
            have hr := hr.drewN q
            have ht := ht.drewN q
            have hfin := hide (show J.skip s j = j from by
              by_cases hjs : j < s.size
              · refine J.skip_stop s j hjs ?_
                rw [J.blank_iff s j hjs]
                simp [c0, c1, c2, c3]
              · exact J.skip_end s j (by omega))
            have hfin2 : Rd (wr.drewN q) b t s (J.skip s k) rest := by rw [← hsk.out, unhide hfin]; exact hr
            go_wp2_with fail
            go_end0
            exact ⟨rfl, hfin2, ht⟩
end Go.Proofs.YtepfdlbnnkojbaaGreatDoor
