/-
  A reader of bytes of the program: its text and its place in memory; (*byteReader).peek and (*byteReader).take.
-/
import Derived.Test.YtabpjknbdahddaaGreatDoorText
import Derived.Test.YtabpjknbdahddaaGreatDoorMem
import Derived.Deep.LoopGhost
import Derived.Deep.QuietTactic
import Derived.BigQuiet
import Derived.RegionTactic
import Derived.BigRegion
namespace Go.Proofs.YtabpjknbdahddaaGreatDoor
open Go.RowKit
set_option linter.unusedVariables false

namespace J
/-- What the reader peeks at. -/
def peek (s : ByteArray) (k : Nat) : Int := if h : k < s.size then (s[k].toNat : Int) else 0
theorem peek_in (s : ByteArray) (k : Nat) (h : k < s.size) : peek s k = (s[k].toNat : Int) := by unfold peek; rw [dif_pos h]
theorem peek_out (s : ByteArray) (k : Nat) (h : ¬ k < s.size) : peek s k = 0 := by unfold peek; rw [dif_neg h]
theorem peek_lt (s : ByteArray) (k : Nat) (c : Int) (hc : 0 < c) (h : peek s k = c) : k < s.size := by
  by_cases hk : k < s.size
  · exact hk
  · rw [peek_out s k hk] at h; omega
theorem peek_bd (s : ByteArray) (k : Nat) : 0 ≤ peek s k ∧ peek s k ≤ 255 := by
  unfold peek
  split
  · rename_i h; have := s[k].toNat_lt; omega
  · omega
end J

/-- Below block number B all but block b is as it was. -/
structure Tch (B b : Nat) (w w' : World) : Prop where
  os : w'.os = w.os
  tape : w'.tape = w.tape
  output : w'.output = w.output
  size : w.heap.size ≤ w'.heap.size
  block : ∀ k, k < B → k ≠ b → w'.heap[k]? = w.heap[k]?
theorem Tch.refl (B b : Nat) (w : World) : Tch B b w w := ⟨rfl, rfl, rfl, Nat.le_refl _, fun _ _ _ => rfl⟩
theorem Tch.trans {B b : Nat} {u v w : World} (h : Tch B b u v) (k : Tch B b v w) : Tch B b u w :=
  ⟨k.os.trans h.os, k.tape.trans h.tape, k.output.trans h.output, Nat.le_trans h.size k.size, fun i h1 h2 => (k.block i h1 h2).trans (h.block i h1 h2)⟩
theorem Tch.set (B b j : Nat) (w : World) (u : Value) : Tch B b w (w.setCell ⟨b, j, none⟩ u) :=
  ⟨rfl, rfl, rfl, by simp [World.setCell], fun k _ hk => Below.heap_setCell _ _ _ _ (by simpa using hk)⟩
theorem Tch.mono {B B' b : Nat} {w w' : World} (h : Tch B b w w') (h1 : B' ≤ B) : Tch B' b w w' := ⟨h.os, h.tape, h.output, h.size, fun k hk hn => h.block k (by omega) hn⟩
theorem Tch.below {B B' b : Nat} {w w' : World} (h : Tch B b w w') (h1 : B' ≤ B) (h2 : B' ≤ b) : Below B' w w' :=
  ⟨h.os, h.tape, h.output, h.size, fun k hk => h.block k (by omega) (by omega)⟩

/-- A reader of bytes: its text and its place, and what else it holds. -/
def Rd (w : World) (b : Nat) (t : TypeId) (s : ByteArray) (k : Nat) (rest : List Value) : Prop := Own w b t (.string s :: .int .i64 k :: rest)

theorem Rd.drewN {w : World} {b : Nat} {t : TypeId} {s : ByteArray} {k : Nat} {rest : List Value} (h : Rd w b t s k rest) (q : Nat) : Rd (w.drewN q) b t s k rest := h
theorem Tch.drewN {B b : Nat} {w w' : World} (h : Tch B b w w') (k : Nat) : Tch B b w (w'.drewN k) := ⟨h.os, h.tape, h.output, h.size, h.block⟩

set_option maxHeartbeats 1000000 in
theorem ended_any (b : Nat) (t : TypeId) (s : ByteArray) (k : Nat) (rest : List Value) (w : World) (h : Rd w b t s k rest) (hs : s.size ≤ 1048576) :
    Calls Tryz.prog 48 #[.pointer (some ⟨b, 0, none⟩)] w fun e w' => e = .returned (.bool (decide (s.size ≤ k))) ∧ ∃ q, w' = w.drewN q := by
  have r0 := fun q => show (w.drewN q).cell? ⟨b, 0, none⟩ = some (.string s) from h.cell 0
  have r1 := fun q => show (w.drewN q).cell? ⟨b, 1, none⟩ = some (.int .i64 k) from h.cell 1
  have hd := hide (show decide ((s.size : Int) ≤ (k : Int)) = decide (s.size ≤ k) by rw [decide_eq_decide]; omega)
  clear h
  go_enter Tryz.func48, Tryz.ntmps48
  go_wp2_with fail
  go_quiet (fail)
  go_wp2_with fail
  go_ret
  exact ⟨by first | rfl | exact ret_bool (unhide hd), _, rfl⟩

set_option maxHeartbeats 1000000 in
theorem peek_any (b : Nat) (t : TypeId) (s : ByteArray) (k : Nat) (rest : List Value) (w : World) (h : Rd w b t s k rest) (hk : k ≤ s.size) (hs : s.size ≤ 1048576) :
    Calls Tryz.prog 94 #[.pointer (some ⟨b, 0, none⟩)] w fun e w' => e = .returned (.int .u8 (J.peek s k)) ∧ ∃ q, w' = w.drewN q := by
  have r0 := fun q => show (w.drewN q).cell? ⟨b, 0, none⟩ = some (.string s) from h.cell 0
  have r1 := fun q => show (w.drewN q).cell? ⟨b, 1, none⟩ = some (.int .i64 k) from h.cell 1
  have HE := hide (ended_any b t s k rest w h hs)
  by_cases hlt : k < s.size
  · have hltz2 : (k : Int) < (s.size : Int) := by omega
    rw [J.peek_in s k hlt]
    rw [decide_eq_false (by omega)] at HE
    clear h
    go_enter Tryz.func94, Tryz.ntmps94
    go_wp2_with fail
    refine (unhide HE).mono ?_
    rintro e1 w1 ⟨rfl, q1, hw1⟩
    have r0' := fun q => show (w1.drewN q).cell? ⟨b, 0, none⟩ = some (.string s) by rw [hw1]; exact r0 0
    have r1' := fun q => show (w1.drewN q).cell? ⟨b, 1, none⟩ = some (.int .i64 k) by rw [hw1]; exact r1 0
    have HW1 := hide hw1
    have hltz : ¬ (s.size : Int) ≤ (k : Int) := by omega
    clear r0 r1 hw1
    go_wp2_with fail
    go_quiet (fail)
    go_wp2_with fail
    go_ret
    exact ⟨rfl, _, by rw [unhide HW1, World.drewN_drewN]⟩
  · rw [J.peek_out s k hlt]
    rw [decide_eq_true (by omega)] at HE
    clear h
    go_enter Tryz.func94, Tryz.ntmps94
    go_wp2_with fail
    refine (unhide HE).mono ?_
    rintro e1 w1 ⟨rfl, q1, rfl⟩
    clear r0 r1
    go_wp2_with fail
    go_ret
    exact ⟨rfl, _, rfl⟩

set_option maxHeartbeats 1000000 in
theorem take_yes (b : Nat) (t : TypeId) (s : ByteArray) (k : Nat) (c : Int) (rest : List Value) (w : World) (h : Rd w b t s k rest) (hs : s.size ≤ 1048576) (hc : 0 < c) (hp : J.peek s k = c) :
    Calls Tryz.prog 93 #[.pointer (some ⟨b, 0, none⟩), .int .u8 c] w fun e w' => e = .returned (.bool true) ∧ Rd w' b t s (k + 1) rest ∧ Tch w.heap.size b w w' := by
  have hlt := J.peek_lt s k c hc hp
  have H := peek_any b t s k rest w h (by omega) hs
  rw [hp] at H
  have r1 := h.cell 1
  have z1 := h.frozen 1
  have hset := hide (show Rd (w.setCell ⟨b, 1, none⟩ (.int .i64 ((k : Int) + 1))) b t s (k + 1) rest from h.set 1 _)
  simp only [List.getElem?_cons_zero, List.getElem?_cons_succ] at r1
  clear h
  go_enter Tryz.func93, Tryz.ntmps93
  go_wp2_with fail
  refine H.mono ?_
  rintro e w1 ⟨rfl, q, rfl⟩
  go_wp2_with fail
  go_ret
  exact ⟨rfl, (unhide hset).drewN q, (Tch.set _ _ _ _ _).drewN q⟩

set_option maxHeartbeats 1000000 in
theorem take_no (b : Nat) (t : TypeId) (s : ByteArray) (k : Nat) (c : Int) (rest : List Value) (w : World) (h : Rd w b t s k rest) (hk : k ≤ s.size) (hs : s.size ≤ 1048576) (hp : J.peek s k ≠ c) :
    Calls Tryz.prog 93 #[.pointer (some ⟨b, 0, none⟩), .int .u8 c] w fun e w' => e = .returned (.bool false) ∧ ∃ q, w' = w.drewN q := by
  have H := peek_any b t s k rest w h hk hs
  generalize J.peek s k = q at *
  have hq : (q == c) = false := by simp [hp]
  clear h
  go_enter Tryz.func93, Tryz.ntmps93
  go_wp2_with fail
  refine H.mono ?_
  rintro e w1 ⟨rfl, q, rfl⟩
  go_wp2_with fail
  go_ret
  exact ⟨rfl, q, rfl⟩

end Go.Proofs.YtabpjknbdahddaaGreatDoor
