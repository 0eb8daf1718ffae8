/-
  A reader of bytes of the program: its text and its place in memory; (*byteReader).peek and (*byteReader).take.
  Blanks: the first place of a text from a place on that holds none; spec.l2Skip, and impl's reader of bytes.
-/
import Derived.Test.YtikeffckhklhbaaGreatDoorX00
import Derived.Test.YtikeffckhklhbaaGreatDoorX01
import Derived.BigQuiet
import Derived.BigRegion
import Derived.Deep.LoopGhost
import Derived.Deep.QuietTactic
import Derived.RegionTactic
namespace Go.Proofs.YtikeffckhklhbaaGreatDoor
open Go.RowKit
set_option linter.unusedVariables false

namespace J
/-- What the reader peeks at. -/
def peek (s : ByteArray) (k : Nat) : Int := if h : k < s.size then (s[k].toNat : Int) else 0
theorem peek_in (s : ByteArray) (k : Nat) (h : k < s.size) : peek s k = (s[k].toNat : Int) := by unfold peek; rw [dif_pos h]
theorem peek_out (s : ByteArray) (k : Nat) (h : ¬ k < s.size) : peek s k = 0 := by unfold peek; rw [dif_neg h]
theorem peek_lt (s : ByteArray) (k : Nat) (c : Int) (hc : 0 < c) (h : peek s k = c) : k < s.size := by
  by_cases hk : k < s.size
  · exact hk
  · rw [peek_out s k hk] at h; omega
theorem peek_bd (s : ByteArray) (k : Nat) : 0 ≤ peek s k ∧ peek s k ≤ 255 := by
  unfold peek
  split
  · rename_i h; have := s[k].toNat_lt; omega
  · omega
end J

/-- Below block number B all but block b is as it was. -/
structure Tch (B b : Nat) (w w' : World) : Prop where
  os : w'.os = w.os
  tape : w'.tape = w.tape
  output : w'.output = w.output
  size : w.heap.size ≤ w'.heap.size
  block : ∀ k, k < B → k ≠ b → w'.heap[k]? = w.heap[k]?
theorem Tch.refl (B b : Nat) (w : World) : Tch B b w w := ⟨rfl, rfl, rfl, Nat.le_refl _, fun _ _ _ => rfl⟩
theorem Tch.trans {B b : Nat} {u v w : World} (h : Tch B b u v) (k : Tch B b v w) : Tch B b u w :=
  ⟨k.os.trans h.os, k.tape.trans h.tape, k.output.trans h.output, Nat.le_trans h.size k.size, fun i h1 h2 => (k.block i h1 h2).trans (h.block i h1 h2)⟩
theorem Tch.set (B b j : Nat) (w : World) (u : Value) : Tch B b w (w.setCell ⟨b, j, none⟩ u) :=
  ⟨rfl, rfl, rfl, by simp [World.setCell], fun k _ hk => Below.heap_setCell _ _ _ _ (by simpa using hk)⟩
theorem Tch.mono {B B' b : Nat} {w w' : World} (h : Tch B b w w') (h1 : B' ≤ B) : Tch B' b w w' := ⟨h.os, h.tape, h.output, h.size, fun k hk hn => h.block k (by omega) hn⟩
theorem Tch.below {B B' b : Nat} {w w' : World} (h : Tch B b w w') (h1 : B' ≤ B) (h2 : B' ≤ b) : Below B' w w' :=
  ⟨h.os, h.tape, h.output, h.size, fun k hk => h.block k (by omega) (by omega)⟩

/-- A reader of bytes: its text and its place, and what else it holds. -/
def Rd (w : World) (b : Nat) (t : TypeId) (s : ByteArray) (k : Nat) (rest : List Value) : Prop := Own w b t (.string s :: .int .i64 k :: rest)

theorem Rd.drewN {w : World} {b : Nat} {t : TypeId} {s : ByteArray} {k : Nat} {rest : List Value} (h : Rd w b t s k rest) (q : Nat) : Rd (w.drewN q) b t s k rest := h
theorem Tch.drewN {B b : Nat} {w w' : World} (h : Tch B b w w') (k : Nat) : Tch B b w (w'.drewN k) := ⟨h.os, h.tape, h.output, h.size, h.block⟩

set_option maxHeartbeats 1000000 in
theorem ended_any (b : Nat) (t : TypeId) (s : ByteArray) (k : Nat) (rest : List Value) (w : World) (h : Rd w b t s k rest) (hs : s.size ≤ 1048576) :
    Calls Tryz.prog 38 #[.pointer (some ⟨b, 0, none⟩)] w fun e w' => e = .returned (.bool (decide (s.size ≤ k))) ∧ ∃ q, w' = w.drewN q := by
  have r0 := fun q => show (w.drewN q).cell? ⟨b, 0, none⟩ = some (.string s) from h.cell 0
  have r1 := fun q => show (w.drewN q).cell? ⟨b, 1, none⟩ = some (.int .i64 k) from h.cell 1
  have hd := hide (show decide ((s.size : Int) ≤ (k : Int)) = decide (s.size ≤ k) by rw [decide_eq_decide]; omega)
  clear h
  go_enter Tryz.func38, Tryz.ntmps38
  go_wp2_with fail
  go_quiet (fail)
  go_wp2_with fail
  go_ret
  exact ⟨by first | rfl | exact ret_bool (unhide hd), _, rfl⟩

set_option maxHeartbeats 1000000 in
theorem peek_any (b : Nat) (t : TypeId) (s : ByteArray) (k : Nat) (rest : List Value) (w : World) (h : Rd w b t s k rest) (hk : k ≤ s.size) (hs : s.size ≤ 1048576) :
    Calls Tryz.prog 86 #[.pointer (some ⟨b, 0, none⟩)] w fun e w' => e = .returned (.int .u8 (J.peek s k)) ∧ ∃ q, w' = w.drewN q := by
  have r0 := fun q => show (w.drewN q).cell? ⟨b, 0, none⟩ = some (.string s) from h.cell 0
  have r1 := fun q => show (w.drewN q).cell? ⟨b, 1, none⟩ = some (.int .i64 k) from h.cell 1
  have HE := hide (ended_any b t s k rest w h hs)
  by_cases hlt : k < s.size
  · have hltz2 : (k : Int) < (s.size : Int) := by omega
    rw [J.peek_in s k hlt]
    rw [decide_eq_false (by omega)] at HE
    clear h
    go_enter Tryz.func86, Tryz.ntmps86
    go_wp2_with fail
    refine (unhide HE).mono ?_
    rintro e1 w1 ⟨rfl, q1, hw1⟩
    have r0' := fun q => show (w1.drewN q).cell? ⟨b, 0, none⟩ = some (.string s) by rw [hw1]; exact r0 0
    have r1' := fun q => show (w1.drewN q).cell? ⟨b, 1, none⟩ = some (.int .i64 k) by rw [hw1]; exact r1 0
    have HW1 := hide hw1
    have hltz : ¬ (s.size : Int) ≤ (k : Int) := by omega
    clear r0 r1 hw1
    go_wp2_with fail
    go_quiet (fail)
    go_wp2_with fail
    go_ret
    exact ⟨rfl, _, by rw [unhide HW1, World.drewN_drewN]⟩
  · rw [J.peek_out s k hlt]
    rw [decide_eq_true (by omega)] at HE
    clear h
    go_enter Tryz.func86, Tryz.ntmps86
    go_wp2_with fail
    refine (unhide HE).mono ?_
    rintro e1 w1 ⟨rfl, q1, rfl⟩
    clear r0 r1
    go_wp2_with fail
    go_ret
    exact ⟨rfl, _, rfl⟩

set_option maxHeartbeats 1000000 in
theorem take_yes (b : Nat) (t : TypeId) (s : ByteArray) (k : Nat) (c : Int) (rest : List Value) (w : World) (h : Rd w b t s k rest) (hs : s.size ≤ 1048576) (hc : 0 < c) (hp : J.peek s k = c) :
    Calls Tryz.prog 85 #[.pointer (some ⟨b, 0, none⟩), .int .u8 c] w fun e w' => e = .returned (.bool true) ∧ Rd w' b t s (k + 1) rest ∧ Tch w.heap.size b w w' := by
  have hlt := J.peek_lt s k c hc hp
  have H := peek_any b t s k rest w h (by omega) hs
  rw [hp] at H
  have r1 := h.cell 1
  have z1 := h.frozen 1
  have hset := hide (show Rd (w.setCell ⟨b, 1, none⟩ (.int .i64 ((k : Int) + 1))) b t s (k + 1) rest from h.set 1 _)
  simp only [List.getElem?_cons_zero, List.getElem?_cons_succ] at r1
  clear h
  go_enter Tryz.func85, Tryz.ntmps85
  go_wp2_with fail
  refine H.mono ?_
  rintro e w1 ⟨rfl, q, rfl⟩
  go_wp2_with fail
  go_ret
  exact ⟨rfl, (unhide hset).drewN q, (Tch.set _ _ _ _ _).drewN q⟩

set_option maxHeartbeats 1000000 in
theorem take_no (b : Nat) (t : TypeId) (s : ByteArray) (k : Nat) (c : Int) (rest : List Value) (w : World) (h : Rd w b t s k rest) (hk : k ≤ s.size) (hs : s.size ≤ 1048576) (hp : J.peek s k ≠ c) :
    Calls Tryz.prog 85 #[.pointer (some ⟨b, 0, none⟩), .int .u8 c] w fun e w' => e = .returned (.bool false) ∧ ∃ q, w' = w.drewN q := by
  have H := peek_any b t s k rest w h hk hs
  generalize J.peek s k = q at *
  have hq : (q == c) = false := by simp [hp]
  clear h
  go_enter Tryz.func85, Tryz.ntmps85
  go_wp2_with fail
  refine H.mono ?_
  rintro e w1 ⟨rfl, q, rfl⟩
  go_wp2_with fail
  go_ret
  exact ⟨rfl, q, rfl⟩

end Go.Proofs.YtikeffckhklhbaaGreatDoor

namespace Go.Proofs.YtikeffckhklhbaaGreatDoor
open Go.RowKit
set_option linter.unusedVariables false

namespace J
def blank (b : UInt8) : Bool := b.toNat == 32 || b.toNat == 9 || b.toNat == 10 || b.toNat == 13
def skip (s : ByteArray) (k : Nat) : Nat := k + ((s.data.toList.drop k).takeWhile blank).length
theorem drop_cons (s : ByteArray) (k : Nat) (h : k < s.size) : s.data.toList.drop k = s[k] :: s.data.toList.drop (k + 1) := List.drop_eq_getElem_cons (by simpa using h)
theorem skip_end (s : ByteArray) (k : Nat) (h : s.size ≤ k) : skip s k = k := by
  unfold skip; rw [List.drop_eq_nil_of_le (by simpa using h)]; rfl
theorem skip_stop (s : ByteArray) (k : Nat) (h : k < s.size) (hb : blank s[k] = false) : skip s k = k := by
  unfold skip; rw [drop_cons s k h, List.takeWhile_cons, hb]; rfl
theorem skip_go (s : ByteArray) (k : Nat) (h : k < s.size) (hb : blank s[k] = true) : skip s k = skip s (k + 1) := by
  unfold skip; rw [drop_cons s k h, List.takeWhile_cons, hb]; simp only [if_true, List.length_cons]; omega
theorem skip_le (s : ByteArray) (k : Nat) (h : k ≤ s.size) : skip s k ≤ s.size := by
  unfold skip
  have h1 := (List.takeWhile_sublist blank (l := s.data.toList.drop k)).length_le
  rw [List.length_drop] at h1
  have : s.data.toList.length = s.size := by simp
  omega
theorem skip_ge (s : ByteArray) (k : Nat) : k ≤ skip s k := by unfold skip; omega
theorem blank_iff (s : ByteArray) (k : Nat) (h : k < s.size) : blank s[k] = (peek s k == 32 || peek s k == 9 || peek s k == 10 || peek s k == 13) := by
  rw [peek_in s k h]; unfold blank
  have e : ∀ n : Nat, ((s[k].toNat : Int) == (n : Int)) = (s[k].toNat == n) := fun n => by
    rw [Bool.eq_iff_iff]; simp only [beq_iff_eq]; omega
  rw [← e 32, ← e 9, ← e 10, ← e 13]; rfl
end J

theorem J.blank_int (b : UInt8) : J.blank b = ((b.toNat : Int) == 32 || (b.toNat : Int) == 9 || (b.toNat : Int) == 10 || (b.toNat : Int) == 13) := by
  unfold J.blank
  have e : ∀ n : Nat, ((b.toNat : Int) == (n : Int)) = (b.toNat == n) := fun n => by
    rw [Bool.eq_iff_iff]; simp only [beq_iff_eq]; omega
  rw [← e 32, ← e 9, ← e 10, ← e 13]; rfl

set_option maxHeartbeats 1000000 in
theorem l2Blank_any (b : UInt8) (w : World) : Calls Tryz.prog 57 #[.int .u8 (b.toNat : Int)] w fun e w' => e = .returned (.bool (J.blank b)) ∧ w' = w := by
  rw [J.blank_int]
  generalize (b.toNat : Int) = c
  go_enter Tryz.func57, Tryz.ntmps57
  go_wp2_with fail
  all_goals (go_ret; exact ⟨ret_bool (by simp [*]), rfl⟩)

set_option maxHeartbeats 1000000 in
theorem l2Skip_any (s : ByteArray) (k : Nat) (w : World) (hk : k ≤ s.size) (hs : s.size ≤ 1048576) :
    Calls Tryz.prog 24 #[.string s, .int .i64 k] w fun e w' => e = .returned (.int .i64 (J.skip s k)) ∧ w' = w := by
  go_enter Tryz.func24, Tryz.ntmps24
  go_wp2_with fail
  go_loopg [1] (s.size - k) (fun gh s1 wr => ∃ j : Nat, Hid (gh = s.size - j) ∧ s1 = .int .i64 j ∧ j ≤ s.size ∧ Hid (J.skip s j = J.skip s k) ∧ Hid (wr = w))
  case atStart => exact ⟨k, rfl, rfl, hk, rfl, rfl⟩
  case round =>
    obtain ⟨j, hg, rfl, hj, hsk, hw⟩ := hrel
    by_cases hlt : j < s.size
    · have hltz : (j : Int) < (s.size : Int) := by omega
      cases hb : J.blank s[j] with
      | true =>
        have hsk2 := hide ((J.skip_go s j hlt hb).symm.trans hsk.out)
        go_wp2_with fail
        refine (l2Blank_any s[j] _).mono ?_
        rintro e w1 ⟨rfl, rfl⟩
        rw [hb]
        go_wp2_with fail
        go_roundg (s.size - (j + 1))
        case rel => exact ⟨j + 1, rfl, by go_num, by omega, unhide hsk2, hw⟩
        case measure => have := hg.out; omega
      | false =>
        have fin := hide ((J.skip_stop s j hlt hb).symm.trans hsk.out)
        go_wp2_with fail
        refine (l2Blank_any s[j] _).mono ?_
        rintro e w1 ⟨rfl, rfl⟩
        rw [hb]
        go_wp2_with fail
        go_ret
        exact ⟨ret_int (by rw [← unhide fin]), hw⟩
    · have hltz : ¬ (j : Int) < (s.size : Int) := by omega
      have fin := hide ((J.skip_end s j (by omega)).symm.trans hsk.out)
      go_wp2_with fail
      go_ret
      exact ⟨ret_int (by rw [← unhide fin]), hw⟩

set_option maxHeartbeats 1000000 in
theorem skipBlanks_any (b : Nat) (t : TypeId) (s : ByteArray) (k : Nat) (rest : List Value) (w : World) (h : Rd w b t s k rest) (hk : k ≤ s.size) (hs : s.size ≤ 1048576) :
    Calls Tryz.prog 66 #[.pointer (some ⟨b, 0, none⟩)] w fun e w' => e = .returned (.tuple #[]) ∧ Rd w' b t s (J.skip s k) rest ∧ Tch w.heap.size b w w' := by
  go_enter Tryz.func66, Tryz.ntmps66
  go_wp2_with fail
  go_loopg [] (s.size - k) (fun gh wr => ∃ j : Nat, Hid (gh = s.size - j) ∧ j ≤ s.size ∧ Hid (J.skip s j = J.skip s k) ∧ Rd wr b t s j rest ∧ Tch w.heap.size b w wr)
  case atStart => exact ⟨k, rfl, hk, rfl, h, Tch.refl _ _ _⟩
  case round =>
    obtain ⟨j, hg, hj, hsk, hr, ht⟩ := hrel
    by_cases c0 : J.peek s j = 32
    · have hjs := J.peek_lt s j 32 (by decide) c0
      have hsk2 := hide ((J.skip_go s j hjs (by rw [J.blank_iff s j hjs, c0]; rfl)).symm.trans hsk.out)
      go_wp2_with fail
      refine (take_yes b t s j 32 rest _ hr hs (by decide) c0).mono ?_
      rintro e w1 ⟨rfl, hr1, ht1⟩
      have ht2 := ht.trans (ht1.mono ht.size)
      clear ht1
      go_wp2_with fail
      go_roundg (s.size - (j + 1))
      case rel => exact ⟨j + 1, rfl, by omega, unhide hsk2, hr1, ht2⟩
      case measure => have := hg.out; omega
    · go_wp2_with fail
      refine (take_no b t s j 32 rest _ hr hj hs c0).mono ?_
      rintro e w1 ⟨rfl, q, rfl⟩
      have hr := hr.drewN q
      have ht := ht.drewN q
      generalize wr.drewN q = wr at *
      by_cases c1 : J.peek s j = 9
      · have hjs := J.peek_lt s j 9 (by decide) c1
        have hsk2 := hide ((J.skip_go s j hjs (by rw [J.blank_iff s j hjs, c1]; rfl)).symm.trans hsk.out)
        go_wp2_with fail
        refine (take_yes b t s j 9 rest _ hr hs (by decide) c1).mono ?_
        rintro e w1 ⟨rfl, hr1, ht1⟩
        have ht2 := ht.trans (ht1.mono ht.size)
        clear ht1
        go_wp2_with fail
        go_roundg (s.size - (j + 1))
        case rel => exact ⟨j + 1, rfl, by omega, unhide hsk2, hr1, ht2⟩
        case measure => have := hg.out; omega
      · go_wp2_with fail
        refine (take_no b t s j 9 rest _ hr hj hs c1).mono ?_
        rintro e w1 ⟨rfl, q, rfl⟩
        have hr := hr.drewN q
        have ht := ht.drewN q
        generalize wr.drewN q = wr at *
        by_cases c2 : J.peek s j = 10
        · have hjs := J.peek_lt s j 10 (by decide) c2
          have hsk2 := hide ((J.skip_go s j hjs (by rw [J.blank_iff s j hjs, c2]; rfl)).symm.trans hsk.out)
          go_wp2_with fail
          refine (take_yes b t s j 10 rest _ hr hs (by decide) c2).mono ?_
          rintro e w1 ⟨rfl, hr1, ht1⟩
          have ht2 := ht.trans (ht1.mono ht.size)
          clear ht1
          go_wp2_with fail
          go_roundg (s.size - (j + 1))
          case rel => exact ⟨j + 1, rfl, by omega, unhide hsk2, hr1, ht2⟩
          case measure => have := hg.out; omega
        · go_wp2_with fail
          refine (take_no b t s j 10 rest _ hr hj hs c2).mono ?_
          rintro e w1 ⟨rfl, q, rfl⟩
          have hr := hr.drewN q
          have ht := ht.drewN q
          generalize wr.drewN q = wr at *
          by_cases c3 : J.peek s j = 13
          · have hjs := J.peek_lt s j 13 (by decide) c3
            have hsk2 := hide ((J.skip_go s j hjs (by rw [J.blank_iff s j hjs, c3]; rfl)).symm.trans hsk.out)
            go_wp2_with fail
            refine (take_yes b t s j 13 rest _ hr hs (by decide) c3).mono ?_
            rintro e w1 ⟨rfl, hr1, ht1⟩
            have ht2 := ht.trans (ht1.mono ht.size)
            clear ht1
            go_wp2_with fail
            go_roundg (s.size - (j + 1))
            case rel => exact ⟨j + 1, rfl, by omega, unhide hsk2, hr1, ht2⟩
            case measure => have := hg.out; omega
          · go_wp2_with fail
            refine (take_no b t s j 13 rest _ hr hj hs c3).mono ?_
            rintro e w1 ⟨rfl, q, rfl⟩
            have hr := hr.drewN q
            have ht := ht.drewN q
            have hfin := hide (show J.skip s j = j from by
              by_cases hjs : j < s.size
              · refine J.skip_stop s j hjs ?_
                rw [J.blank_iff s j hjs]
                simp [c0, c1, c2, c3]
              · exact J.skip_end s j (by omega))
            have hfin2 : Rd (wr.drewN q) b t s (J.skip s k) rest := by rw [← hsk.out, unhide hfin]; exact hr
            go_wp2_with fail
            go_end0
            exact ⟨rfl, hfin2, ht⟩
end Go.Proofs.YtikeffckhklhbaaGreatDoor
