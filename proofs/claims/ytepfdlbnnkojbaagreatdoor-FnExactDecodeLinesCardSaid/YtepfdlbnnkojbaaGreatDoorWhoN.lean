/-
  (*byteReader).word, (*scalarReader).hexDigit, escaped, stringByte.
  (*scalarReader).quoted.
  (*scalarReader).wholeNumber.
  (*scalarReader).number.
-/
import Derived.Test.YtepfdlbnnkojbaaGreatDoorSkipT
import Derived.Test.YtepfdlbnnkojbaaGreatDoorNumQ
import Derived.Test.YtepfdlbnnkojbaaGreatDoorStrT
import Derived.Lib.BufferRead
import Derived.Deep.RegionHeld3
namespace Go.Proofs.YtepfdlbnnkojbaaGreatDoor
open Go.RowKit
set_option linter.unusedVariables false
set_option linter.unusedSimpArgs false

/-- A byte past which the reader goes. -/
theorem Rd.step {w : World} {b : Nat} {t : TypeId} {s : ByteArray} {k : Nat} {rest : List Value} (h : Rd w b t s k rest) : Rd (w.setCell ⟨b, 1, none⟩ (.int .i64 ((k : Int) + 1))) b t s (k + 1) rest := h.set 1 _

set_option maxRecDepth 100000 in
set_option maxHeartbeats 1000000 in
theorem word_any (b : Nat) (t : TypeId) (s : ByteArray) (k : Nat) (rest : List Value) (w : World) (h : Rd w b t s k rest) (hk : k ≤ s.size) (hs : s.size ≤ 1048576) (ws : ByteArray) (hw : ws.size ≤ 10) (hz : ∀ j (hj : j < ws.size), 0 < ws[j].toNat) :
    Calls Tryz.prog 62 #[.pointer (some ⟨b, 0, none⟩), .string ws] w fun e w' => ((∃ m, J.wordR s k ws.data.toList = .inr m ∧ m ≤ s.size ∧ e = .returned .nilIface ∧ Rd w' b t s m rest) ∨ (∃ m, J.wordR s k ws.data.toList = .inl m ∧ m ≤ s.size ∧ e = .returned (.iface 50 (.agg #[.int .i64 5, .int .i64 ((m : Nat) : Int)])) ∧ Rd w' b t s m rest)) ∧ Tch w.heap.size b w w' := by
  go_enter Tryz.func62, Tryz.ntmps62
  go_wp2_with fail
  go_loopg [8] ws.size (fun gh s8 wr => ∃ j : Nat, Hid (gh = ws.size - j) ∧ s8 = .int .i64 j ∧ j ≤ ws.size ∧ k + j ≤ s.size ∧ Hid (J.wordR s k ws.data.toList = J.wordR s (k + j) (ws.data.toList.drop j)) ∧ Rd wr b t s (k + j) rest ∧ Tch w.heap.size b w wr)
  case atStart => exact ⟨0, rfl, rfl, by omega, by omega, rfl, h, Tch.refl _ _ _⟩
  case round =>
    obtain ⟨j, hg, rfl, hj, hkj, hwr, hr, ht⟩ := hrel
    by_cases hlt : j < ws.size
    · have hltI : (j : Int) < (ws.size : Int) := by omega
      have hc0 := hz j hlt
      have hdrop : ws.data.toList.drop j = ws[j] :: ws.data.toList.drop (j + 1) := List.drop_eq_getElem_cons (by simpa using hlt)
      have hwr2 : J.wordR s (k + j) (ws.data.toList.drop j) = if J.peek s (k + j) = (ws[j].toNat : Int) then J.wordR s (k + j + 1) (ws.data.toList.drop (j + 1)) else .inl (k + j) := by rw [hdrop, J.wordR]
      have HW := hide (hwr.out.trans hwr2)
      clear hwr2 hdrop
      by_cases hp : J.peek s (k + j) = (ws[j].toNat : Int)
      · rw [if_pos hp] at HW
        have hlt2 := J.peek_lt s (k + j) _ (by omega) hp
        have HT := hide (fun wq (hq : Rd wq b t s (k + j) rest) => take_yes b t s (k + j) (ws[j].toNat : Int) rest wq hq hs (by omega) hp)
        clear hp
        go_wp2_with fail
        refine ((unhide HT) _ hr).mono ?_
        rintro e w1 ⟨rfl, hr1, ht1⟩
        have ht2 := ht.trans (ht1.mono ht.size)
        clear ht1 HT hr
        go_wp2_with fail
        go_roundg (ws.size - (j + 1))
        case rel => exact ⟨j + 1, rfl, by go_num, by omega, by omega, unhide HW, hr1, ht2⟩
        case measure => have := hg.out; omega
      · rw [if_neg hp] at HW
        have HT := hide (fun wq (hq : Rd wq b t s (k + j) rest) => take_no b t s (k + j) (ws[j].toNat : Int) rest wq hq hkj hs hp)
        clear hp
        go_wp2_with fail
        refine ((unhide HT) _ hr).mono ?_
        rintro e w1 ⟨rfl, q, hw1⟩
        have hr1 : Rd w1 b t s (k + j) rest := by rw [hw1]; exact hr.drewN q
        have ht1 : Tch w.heap.size b w w1 := by rw [hw1]; exact ht.drewN q
        clear HT hr hw1 ht
        go_wp2_with fail
        refine (stuck_any b t s (k + j) rest _ hr1).mono ?_
        rintro e w2 ⟨rfl, hr2, ht2⟩
        have ht3 := ht1.trans (ht2.mono ht1.size)
        clear ht1 ht2 hr1
        go_wp2_with fail
        go_ret
        exact ⟨.inr ⟨k + j, unhide HW, hkj, rfl, hr2⟩, ht3⟩
    · have hge : ¬ (j : Int) < (ws.size : Int) := by omega
      have HW := hide (hwr.out.trans (show J.wordR s (k + j) (ws.data.toList.drop j) = .inr (k + j) by rw [List.drop_of_length_le (by simp; show ws.size ≤ j; omega), J.wordR]))
      go_wp2_with fail
      go_ret
      exact ⟨.inl ⟨k + j, unhide HW, hkj, rfl, hr⟩, ht⟩

/-- What a reader of one byte leaves: the byte and the place behind it, or an error. -/
def ByteLeft (b : Nat) (t : TypeId) (s : ByteArray) (rest : List Value) (R : (Int × Nat) ⊕ (Int × Nat)) (e : Ending) (w' : World) : Prop :=
  (∃ c m, R = .inr (c, m) ∧ e = .returned (.tuple #[.int .u8 c, .nilIface]) ∧ Rd w' b t s m rest) ∨ (∃ (c : Int) (m q : Nat), R = .inl (c, m) ∧ e = .returned (.tuple #[.int .u8 0, .iface 50 (.agg #[.int .i64 c, .int .i64 (m : Int)])]) ∧ q ≤ s.size ∧ Rd w' b t s q rest)


set_option maxRecDepth 100000 in
set_option maxHeartbeats 1000000 in
theorem hexDigit_no0 (b : Nat) (t : TypeId) (s : ByteArray) (k : Nat) (rest : List Value) (w : World) (h : Rd w b t s k rest) (hk : k ≤ s.size) (hs : s.size ≤ 1048576) (hx : J.peek s k < 48) :
    Calls Tryz.prog 89 #[.pointer (some ⟨b, 0, none⟩)] w fun e w' => e = .returned (.tuple #[.int .u8 0, .iface 50 (.agg #[.int .i64 5, .int .i64 ((k : Nat) : Int)])]) ∧ Rd w' b t s k rest ∧ Tch w.heap.size b w w' := by
  have HP := hide (peek_any b t s k rest w h hk hs)
  have hbd := J.peek_bd s k
  generalize J.peek s k = c at *
  have hd : (decide (48 ≤ c) && decide (c ≤ 57)) = false := by simp; omega
  go_enter Tryz.func89, Tryz.ntmps89
  go_wp2_with fail
  refine (unhide HP).mono ?_
  rintro e w1 ⟨rfl, q, hw1⟩
  have hr1 : Rd w1 b t s k rest := by rw [hw1]; exact h.drewN q
  have ht1 : Tch w.heap.size b w w1 := by rw [hw1]; exact (Tch.refl _ _ _).drewN q
  clear hw1 HP h
  go_wp2_with fail
  refine (isDigit_any c _).mono ?_
  rintro e w2 ⟨rfl, hw2⟩
  have hw3 := hw2.symm
  clear hw2
  subst hw3
  rw [hd]
  clear hd
  go_wp2_with fail
  refine (stuck_any b t s k rest _ hr1).mono ?_
  rintro e w4 ⟨rfl, hr4, ht4⟩
  have ht5 := ht1.trans (ht4.mono ht1.size)
  clear ht1 ht4 hr1
  go_wp2_with fail
  go_ret2
  exact ⟨rfl, hr4, ht5⟩

set_option maxRecDepth 100000 in
set_option maxHeartbeats 1000000 in
theorem hexDigit_no1 (b : Nat) (t : TypeId) (s : ByteArray) (k : Nat) (rest : List Value) (w : World) (h : Rd w b t s k rest) (hk : k ≤ s.size) (hs : s.size ≤ 1048576) (hx : 57 < J.peek s k ∧ J.peek s k < 65) :
    Calls Tryz.prog 89 #[.pointer (some ⟨b, 0, none⟩)] w fun e w' => e = .returned (.tuple #[.int .u8 0, .iface 50 (.agg #[.int .i64 5, .int .i64 ((k : Nat) : Int)])]) ∧ Rd w' b t s k rest ∧ Tch w.heap.size b w w' := by
  have HP := hide (peek_any b t s k rest w h hk hs)
  have hbd := J.peek_bd s k
  generalize J.peek s k = c at *
  have hd : (decide (48 ≤ c) && decide (c ≤ 57)) = false := by simp; omega
  go_enter Tryz.func89, Tryz.ntmps89
  go_wp2_with fail
  refine (unhide HP).mono ?_
  rintro e w1 ⟨rfl, q, hw1⟩
  have hr1 : Rd w1 b t s k rest := by rw [hw1]; exact h.drewN q
  have ht1 : Tch w.heap.size b w w1 := by rw [hw1]; exact (Tch.refl _ _ _).drewN q
  clear hw1 HP h
  go_wp2_with fail
  refine (isDigit_any c _).mono ?_
  rintro e w2 ⟨rfl, hw2⟩
  have hw3 := hw2.symm
  clear hw2
  subst hw3
  rw [hd]
  clear hd
  go_wp2_with fail
  refine (stuck_any b t s k rest _ hr1).mono ?_
  rintro e w4 ⟨rfl, hr4, ht4⟩
  have ht5 := ht1.trans (ht4.mono ht1.size)
  clear ht1 ht4 hr1
  go_wp2_with fail
  go_ret2
  exact ⟨rfl, hr4, ht5⟩

set_option maxRecDepth 100000 in
set_option maxHeartbeats 1000000 in
theorem hexDigit_no2 (b : Nat) (t : TypeId) (s : ByteArray) (k : Nat) (rest : List Value) (w : World) (h : Rd w b t s k rest) (hk : k ≤ s.size) (hs : s.size ≤ 1048576) (hx : 70 < J.peek s k ∧ J.peek s k < 97) :
    Calls Tryz.prog 89 #[.pointer (some ⟨b, 0, none⟩)] w fun e w' => e = .returned (.tuple #[.int .u8 0, .iface 50 (.agg #[.int .i64 5, .int .i64 ((k : Nat) : Int)])]) ∧ Rd w' b t s k rest ∧ Tch w.heap.size b w w' := by
  have HP := hide (peek_any b t s k rest w h hk hs)
  have hbd := J.peek_bd s k
  generalize J.peek s k = c at *
  have hd : (decide (48 ≤ c) && decide (c ≤ 57)) = false := by simp; omega
  go_enter Tryz.func89, Tryz.ntmps89
  go_wp2_with fail
  refine (unhide HP).mono ?_
  rintro e w1 ⟨rfl, q, hw1⟩
  have hr1 : Rd w1 b t s k rest := by rw [hw1]; exact h.drewN q
  have ht1 : Tch w.heap.size b w w1 := by rw [hw1]; exact (Tch.refl _ _ _).drewN q
  clear hw1 HP h
  go_wp2_with fail
  refine (isDigit_any c _).mono ?_
  rintro e w2 ⟨rfl, hw2⟩
  have hw3 := hw2.symm
  clear hw2
  subst hw3
  rw [hd]
  clear hd
  go_wp2_with fail
  refine (stuck_any b t s k rest _ hr1).mono ?_
  rintro e w4 ⟨rfl, hr4, ht4⟩
  have ht5 := ht1.trans (ht4.mono ht1.size)
  clear ht1 ht4 hr1
  go_wp2_with fail
  go_ret2
  exact ⟨rfl, hr4, ht5⟩

set_option maxRecDepth 100000 in
set_option maxHeartbeats 1000000 in
theorem hexDigit_no3 (b : Nat) (t : TypeId) (s : ByteArray) (k : Nat) (rest : List Value) (w : World) (h : Rd w b t s k rest) (hk : k ≤ s.size) (hs : s.size ≤ 1048576) (hx : 102 < J.peek s k) :
    Calls Tryz.prog 89 #[.pointer (some ⟨b, 0, none⟩)] w fun e w' => e = .returned (.tuple #[.int .u8 0, .iface 50 (.agg #[.int .i64 5, .int .i64 ((k : Nat) : Int)])]) ∧ Rd w' b t s k rest ∧ Tch w.heap.size b w w' := by
  have HP := hide (peek_any b t s k rest w h hk hs)
  have hbd := J.peek_bd s k
  generalize J.peek s k = c at *
  have hd : (decide (48 ≤ c) && decide (c ≤ 57)) = false := by simp; omega
  go_enter Tryz.func89, Tryz.ntmps89
  go_wp2_with fail
  refine (unhide HP).mono ?_
  rintro e w1 ⟨rfl, q, hw1⟩
  have hr1 : Rd w1 b t s k rest := by rw [hw1]; exact h.drewN q
  have ht1 : Tch w.heap.size b w w1 := by rw [hw1]; exact (Tch.refl _ _ _).drewN q
  clear hw1 HP h
  go_wp2_with fail
  refine (isDigit_any c _).mono ?_
  rintro e w2 ⟨rfl, hw2⟩
  have hw3 := hw2.symm
  clear hw2
  subst hw3
  rw [hd]
  clear hd
  go_wp2_with fail
  refine (stuck_any b t s k rest _ hr1).mono ?_
  rintro e w4 ⟨rfl, hr4, ht4⟩
  have ht5 := ht1.trans (ht4.mono ht1.size)
  clear ht1 ht4 hr1
  go_wp2_with fail
  go_ret2
  exact ⟨rfl, hr4, ht5⟩

set_option maxRecDepth 100000 in
set_option maxHeartbeats 1000000 in
theorem hexDigit_yes0 (b : Nat) (t : TypeId) (s : ByteArray) (k : Nat) (rest : List Value) (w : World) (h : Rd w b t s k rest) (hk : k ≤ s.size) (hs : s.size ≤ 1048576) (hx : 48 ≤ J.peek s k ∧ J.peek s k ≤ 57) :
    Calls Tryz.prog 89 #[.pointer (some ⟨b, 0, none⟩)] w fun e w' => e = .returned (.tuple #[.int .u8 (J.peek s k - 48), .nilIface]) ∧ Rd w' b t s (k + 1) rest ∧ Tch w.heap.size b w w' := by
  have HP := hide (peek_any b t s k rest w h hk hs)
  have hbd := J.peek_bd s k
  have hlt := J.peek_lt s k (J.peek s k) (by omega) rfl
  generalize J.peek s k = c at *
  have hd : (decide (48 ≤ c) && decide (c ≤ 57)) = true := by simp; omega
  go_enter Tryz.func89, Tryz.ntmps89
  go_wp2_with fail
  refine (unhide HP).mono ?_
  rintro e w1 ⟨rfl, q, hw1⟩
  have hr1 : Rd w1 b t s k rest := by rw [hw1]; exact h.drewN q
  have ht1 : Tch w.heap.size b w w1 := by rw [hw1]; exact (Tch.refl _ _ _).drewN q
  clear hw1 HP h
  go_wp2_with fail
  refine (isDigit_any c _).mono ?_
  rintro e w2 ⟨rfl, hw2⟩
  have hw3 := hw2.symm
  clear hw2
  subst hw3
  rw [hd]
  clear hd
  have q1 := hr1.cell 1
  have z1 := hr1.frozen 1
  simp only [List.getElem?_cons_zero, List.getElem?_cons_succ] at q1
  have hr2 := hide hr1.step
  have ht2 := hide (ht1.trans (Tch.set w.heap.size b 1 w1 (.int .i64 ((k : Int) + 1))))
  go_wp2_with fail
  go_ret2
  exact ⟨rfl, unhide hr2, unhide ht2⟩

set_option maxRecDepth 100000 in
set_option maxHeartbeats 1000000 in
theorem hexDigit_yes1 (b : Nat) (t : TypeId) (s : ByteArray) (k : Nat) (rest : List Value) (w : World) (h : Rd w b t s k rest) (hk : k ≤ s.size) (hs : s.size ≤ 1048576) (hx : 97 ≤ J.peek s k ∧ J.peek s k ≤ 102) :
    Calls Tryz.prog 89 #[.pointer (some ⟨b, 0, none⟩)] w fun e w' => e = .returned (.tuple #[.int .u8 (J.peek s k - 87), .nilIface]) ∧ Rd w' b t s (k + 1) rest ∧ Tch w.heap.size b w w' := by
  have HP := hide (peek_any b t s k rest w h hk hs)
  have hbd := J.peek_bd s k
  have hlt := J.peek_lt s k (J.peek s k) (by omega) rfl
  generalize J.peek s k = c at *
  have hd : (decide (48 ≤ c) && decide (c ≤ 57)) = false := by simp; omega
  go_enter Tryz.func89, Tryz.ntmps89
  go_wp2_with fail
  refine (unhide HP).mono ?_
  rintro e w1 ⟨rfl, q, hw1⟩
  have hr1 : Rd w1 b t s k rest := by rw [hw1]; exact h.drewN q
  have ht1 : Tch w.heap.size b w w1 := by rw [hw1]; exact (Tch.refl _ _ _).drewN q
  clear hw1 HP h
  go_wp2_with fail
  refine (isDigit_any c _).mono ?_
  rintro e w2 ⟨rfl, hw2⟩
  have hw3 := hw2.symm
  clear hw2
  subst hw3
  rw [hd]
  clear hd
  have q1 := hr1.cell 1
  have z1 := hr1.frozen 1
  simp only [List.getElem?_cons_zero, List.getElem?_cons_succ] at q1
  have hr2 := hide hr1.step
  have ht2 := hide (ht1.trans (Tch.set w.heap.size b 1 w1 (.int .i64 ((k : Int) + 1))))
  go_wp2_with fail
  go_ret2
  exact ⟨rfl, unhide hr2, unhide ht2⟩

set_option maxRecDepth 100000 in
set_option maxHeartbeats 1000000 in
theorem hexDigit_yes2 (b : Nat) (t : TypeId) (s : ByteArray) (k : Nat) (rest : List Value) (w : World) (h : Rd w b t s k rest) (hk : k ≤ s.size) (hs : s.size ≤ 1048576) (hx : 65 ≤ J.peek s k ∧ J.peek s k ≤ 70) :
    Calls Tryz.prog 89 #[.pointer (some ⟨b, 0, none⟩)] w fun e w' => e = .returned (.tuple #[.int .u8 (J.peek s k - 55), .nilIface]) ∧ Rd w' b t s (k + 1) rest ∧ Tch w.heap.size b w w' := by
  have HP := hide (peek_any b t s k rest w h hk hs)
  have hbd := J.peek_bd s k
  have hlt := J.peek_lt s k (J.peek s k) (by omega) rfl
  generalize J.peek s k = c at *
  have hd : (decide (48 ≤ c) && decide (c ≤ 57)) = false := by simp; omega
  go_enter Tryz.func89, Tryz.ntmps89
  go_wp2_with fail
  refine (unhide HP).mono ?_
  rintro e w1 ⟨rfl, q, hw1⟩
  have hr1 : Rd w1 b t s k rest := by rw [hw1]; exact h.drewN q
  have ht1 : Tch w.heap.size b w w1 := by rw [hw1]; exact (Tch.refl _ _ _).drewN q
  clear hw1 HP h
  go_wp2_with fail
  refine (isDigit_any c _).mono ?_
  rintro e w2 ⟨rfl, hw2⟩
  have hw3 := hw2.symm
  clear hw2
  subst hw3
  rw [hd]
  clear hd
  have q1 := hr1.cell 1
  have z1 := hr1.frozen 1
  simp only [List.getElem?_cons_zero, List.getElem?_cons_succ] at q1
  have hr2 := hide hr1.step
  have ht2 := hide (ht1.trans (Tch.set w.heap.size b 1 w1 (.int .i64 ((k : Int) + 1))))
  go_wp2_with fail
  go_ret2
  exact ⟨rfl, unhide hr2, unhide ht2⟩

theorem hexDigit_any (b : Nat) (t : TypeId) (s : ByteArray) (k : Nat) (rest : List Value) (w : World) (h : Rd w b t s k rest) (hk : k ≤ s.size) (hs : s.size ≤ 1048576) :
    Calls Tryz.prog 89 #[.pointer (some ⟨b, 0, none⟩)] w fun e w' => ((0 ≤ J.hexI (J.peek s k) ∧ e = .returned (.tuple #[.int .u8 (J.hexI (J.peek s k)), .nilIface]) ∧ Rd w' b t s (k + 1) rest) ∨ (J.hexI (J.peek s k) < 0 ∧ e = .returned (.tuple #[.int .u8 0, .iface 50 (.agg #[.int .i64 5, .int .i64 ((k : Nat) : Int)])]) ∧ Rd w' b t s k rest)) ∧ Tch w.heap.size b w w' := by
  have e0 : 48 ≤ J.peek s k ∧ J.peek s k ≤ 57 → J.hexI (J.peek s k) = J.peek s k - 48 := fun h => by unfold J.hexI; rw [if_pos h]
  have e1 : 97 ≤ J.peek s k ∧ J.peek s k ≤ 102 → J.hexI (J.peek s k) = J.peek s k - 87 := fun h => by unfold J.hexI; rw [if_neg (by omega), if_pos h]
  have e2 : 65 ≤ J.peek s k ∧ J.peek s k ≤ 70 → J.hexI (J.peek s k) = J.peek s k - 55 := fun h => by unfold J.hexI; rw [if_neg (by omega), if_neg (by omega), if_pos h]
  by_cases c0 : 48 ≤ J.peek s k ∧ J.peek s k ≤ 57
  · refine (hexDigit_yes0 b t s k rest w h hk hs c0).mono ?_
    rintro e w' ⟨rfl, hr, ht⟩
    exact ⟨.inl ⟨by rw [e0 c0]; omega, by rw [e0 c0], hr⟩, ht⟩
  by_cases c1 : 97 ≤ J.peek s k ∧ J.peek s k ≤ 102
  · refine (hexDigit_yes1 b t s k rest w h hk hs c1).mono ?_
    rintro e w' ⟨rfl, hr, ht⟩
    exact ⟨.inl ⟨by rw [e1 c1]; omega, by rw [e1 c1], hr⟩, ht⟩
  by_cases c2 : 65 ≤ J.peek s k ∧ J.peek s k ≤ 70
  · refine (hexDigit_yes2 b t s k rest w h hk hs c2).mono ?_
    rintro e w' ⟨rfl, hr, ht⟩
    exact ⟨.inl ⟨by rw [e2 c2]; omega, by rw [e2 c2], hr⟩, ht⟩
  have en : J.hexI (J.peek s k) < 0 := by unfold J.hexI; rw [if_neg c0, if_neg c1, if_neg c2]; decide
  have fin : ∀ (e : Ending) (w' : World), e = .returned (.tuple #[.int .u8 0, .iface 50 (.agg #[.int .i64 5, .int .i64 ((k : Nat) : Int)])]) ∧ Rd w' b t s k rest ∧ Tch w.heap.size b w w' → ((0 ≤ J.hexI (J.peek s k) ∧ e = .returned (.tuple #[.int .u8 (J.hexI (J.peek s k)), .nilIface]) ∧ Rd w' b t s (k + 1) rest) ∨ (J.hexI (J.peek s k) < 0 ∧ e = .returned (.tuple #[.int .u8 0, .iface 50 (.agg #[.int .i64 5, .int .i64 ((k : Nat) : Int)])]) ∧ Rd w' b t s k rest)) ∧ Tch w.heap.size b w w' := fun (e : Ending) w' ⟨h1, h2, h3⟩ => ⟨.inr ⟨en, h1, h2⟩, h3⟩
  by_cases d0 : J.peek s k < 48
  · exact (hexDigit_no0 b t s k rest w h hk hs d0).mono fin
  by_cases d1 : J.peek s k < 65
  · exact (hexDigit_no1 b t s k rest w h hk hs (by omega)).mono fin
  by_cases d2 : J.peek s k < 97
  · exact (hexDigit_no2 b t s k rest w h hk hs (by omega)).mono fin
  · exact (hexDigit_no3 b t s k rest w h hk hs (by omega)).mono fin

set_option maxRecDepth 100000 in
set_option maxHeartbeats 1000000 in
theorem escaped_plain0 (b : Nat) (t : TypeId) (s : ByteArray) (k : Nat) (rest : List Value) (w : World) (h : Rd w b t s k rest) (hk : k ≤ s.size) (hs : s.size ≤ 1048576) (hp : J.peek s k = 34) :
    Calls Tryz.prog 79 #[.pointer (some ⟨b, 0, none⟩)] w fun e w' => e = .returned (.tuple #[.int .u8 34, .nilIface]) ∧ Rd w' b t s (k + 1) rest ∧ Tch w.heap.size b w w' := by
  have HP := hide (peek_any b t s k rest w h hk hs)
  have hlt := J.peek_lt s k 34 (by decide) hp
  rw [hp] at HP
  clear hp
  go_enter Tryz.func79, Tryz.ntmps79
  go_wp2_with fail
  refine (unhide HP).mono ?_
  rintro e w1 ⟨rfl, q, hw1⟩
  have hr1 : Rd w1 b t s k rest := by rw [hw1]; exact h.drewN q
  have ht1 : Tch w.heap.size b w w1 := by rw [hw1]; exact (Tch.refl _ _ _).drewN q
  clear hw1 HP h
  have q1 := hr1.cell 1
  have z1 := hr1.frozen 1
  simp only [List.getElem?_cons_zero, List.getElem?_cons_succ] at q1
  have hr2 := hide hr1.step
  have ht2 := hide (ht1.trans (Tch.set w.heap.size b 1 w1 (.int .i64 ((k : Int) + 1))))
  go_wp2_with fail
  go_ret2
  exact ⟨rfl, unhide hr2, unhide ht2⟩

set_option maxRecDepth 100000 in
set_option maxHeartbeats 1000000 in
theorem escaped_plain1 (b : Nat) (t : TypeId) (s : ByteArray) (k : Nat) (rest : List Value) (w : World) (h : Rd w b t s k rest) (hk : k ≤ s.size) (hs : s.size ≤ 1048576) (hp : J.peek s k = 92) :
    Calls Tryz.prog 79 #[.pointer (some ⟨b, 0, none⟩)] w fun e w' => e = .returned (.tuple #[.int .u8 92, .nilIface]) ∧ Rd w' b t s (k + 1) rest ∧ Tch w.heap.size b w w' := by
  have HP := hide (peek_any b t s k rest w h hk hs)
  have hlt := J.peek_lt s k 92 (by decide) hp
  rw [hp] at HP
  clear hp
  go_enter Tryz.func79, Tryz.ntmps79
  go_wp2_with fail
  refine (unhide HP).mono ?_
  rintro e w1 ⟨rfl, q, hw1⟩
  have hr1 : Rd w1 b t s k rest := by rw [hw1]; exact h.drewN q
  have ht1 : Tch w.heap.size b w w1 := by rw [hw1]; exact (Tch.refl _ _ _).drewN q
  clear hw1 HP h
  have q1 := hr1.cell 1
  have z1 := hr1.frozen 1
  simp only [List.getElem?_cons_zero, List.getElem?_cons_succ] at q1
  have hr2 := hide hr1.step
  have ht2 := hide (ht1.trans (Tch.set w.heap.size b 1 w1 (.int .i64 ((k : Int) + 1))))
  go_wp2_with fail
  go_ret2
  exact ⟨rfl, unhide hr2, unhide ht2⟩

set_option maxRecDepth 100000 in
set_option maxHeartbeats 1000000 in
theorem escaped_plain2 (b : Nat) (t : TypeId) (s : ByteArray) (k : Nat) (rest : List Value) (w : World) (h : Rd w b t s k rest) (hk : k ≤ s.size) (hs : s.size ≤ 1048576) (hp : J.peek s k = 47) :
    Calls Tryz.prog 79 #[.pointer (some ⟨b, 0, none⟩)] w fun e w' => e = .returned (.tuple #[.int .u8 47, .nilIface]) ∧ Rd w' b t s (k + 1) rest ∧ Tch w.heap.size b w w' := by
  have HP := hide (peek_any b t s k rest w h hk hs)
  have hlt := J.peek_lt s k 47 (by decide) hp
  rw [hp] at HP
  clear hp
  go_enter Tryz.func79, Tryz.ntmps79
  go_wp2_with fail
  refine (unhide HP).mono ?_
  rintro e w1 ⟨rfl, q, hw1⟩
  have hr1 : Rd w1 b t s k rest := by rw [hw1]; exact h.drewN q
  have ht1 : Tch w.heap.size b w w1 := by rw [hw1]; exact (Tch.refl _ _ _).drewN q
  clear hw1 HP h
  have q1 := hr1.cell 1
  have z1 := hr1.frozen 1
  simp only [List.getElem?_cons_zero, List.getElem?_cons_succ] at q1
  have hr2 := hide hr1.step
  have ht2 := hide (ht1.trans (Tch.set w.heap.size b 1 w1 (.int .i64 ((k : Int) + 1))))
  go_wp2_with fail
  go_ret2
  exact ⟨rfl, unhide hr2, unhide ht2⟩

theorem or16_nat : ∀ a : Fin 16, ∀ b : Fin 16, bits BinOp.or IntKind.u8 (((a.val : Nat) : Int) * 16) ((b.val : Nat) : Int) = ((a.val : Nat) : Int) * 16 + ((b.val : Nat) : Int) := by decide +kernel
theorem or16 (x y : Int) (h0 : 0 ≤ x) (h1 : x ≤ 15) (h2 : 0 ≤ y) (h3 : y ≤ 15) : bits BinOp.or IntKind.u8 (x * 16) y = x * 16 + y := by
  have h := or16_nat ⟨x.toNat, by omega⟩ ⟨y.toNat, by omega⟩
  simp only at h
  rw [Int.toNat_of_nonneg h0, Int.toNat_of_nonneg h2] at h
  exact h

set_option maxRecDepth 100000 in
set_option maxHeartbeats 2000000 in
theorem escaped_rest (b : Nat) (t : TypeId) (s : ByteArray) (k : Nat) (rest : List Value) (w : World) (h : Rd w b t s k rest) (hk : k ≤ s.size) (hs : s.size ≤ 1048576) (hp : ¬ (J.peek s k = 34 ∨ J.peek s k = 92 ∨ J.peek s k = 47)) :
    Calls Tryz.prog 79 #[.pointer (some ⟨b, 0, none⟩)] w fun e w' => ByteLeft b t s rest (J.escR s k) e w' ∧ Tch w.heap.size b w w' := by
  have HP := hide (peek_any b t s k rest w h hk hs)
  have HEW := hide (fun m => J.escR_word (s := s) (k := k) (m := m) hp)
  have HEU := hide (fun m => J.escR_u (s := s) (k := k) (m := m) hp)
  generalize hc : J.peek s k = c at hp HP
  have e1 : (c == 34) = false := by simp; omega
  have e2 : (c == 92) = false := by simp; omega
  have e3 : (c == 47) = false := by simp; omega
  clear hp hc
  go_enter Tryz.func79, Tryz.ntmps79
  go_wp2_with fail
  refine (unhide HP).mono ?_
  rintro e w1 ⟨rfl, q, hw1⟩
  have hr1 : Rd w1 b t s k rest := by rw [hw1]; exact h.drewN q
  have ht1 : Tch w.heap.size b w w1 := by rw [hw1]; exact (Tch.refl _ _ _).drewN q
  clear hw1 HP h
  go_wp2_with fail
  refine (word_any b t s k rest _ hr1 hk hs ⟨#[117, 48, 48]⟩ (by decide) (by decide)).mono ?_
  rintro e w2 ⟨hleft, ht2⟩
  have ht3 := ht1.trans (ht2.mono ht1.size)
  clear ht1 ht2 hr1
  rcases hleft with ⟨m, hm, hms, rfl, hr2⟩ | ⟨m, hm, hms, rfl, hr2⟩
  · obtain ⟨rfl, he⟩ := (unhide HEU) m hm
    have HE := hide he
    clear he hm HEW HEU
    have q1 := hr2.cell 1
    simp only [List.getElem?_cons_zero, List.getElem?_cons_succ] at q1
    go_wp2_with fail
    refine (hexDigit_any b t s (k + 3) rest _ hr2 hms hs).mono ?_
    rintro e w3 ⟨hleft, ht4⟩
    have ht5 := ht3.trans (ht4.mono ht3.size)
    clear ht3 ht4 hr2 q1
    have hb1 := J.hexI_bd (J.peek s (k + 3))
    have hin := hide (J.hexI_in s (k + 3))
    generalize J.hexI (J.peek s (k + 3)) = x at *
    rcases hleft with ⟨hx, rfl, hr3⟩ | ⟨hx, rfl, hr3⟩
    · have hlt3 := (unhide hin) hx
      rw [if_neg (by omega)] at HE
      go_wp2_with fail
      refine (hexDigit_any b t s (k + 3 + 1) rest _ hr3 (by omega) hs).mono ?_
      rintro e w4 ⟨hleft, ht6⟩
      have ht7 := ht5.trans (ht6.mono ht5.size)
      clear ht5 ht6 hr3
      have hb2 := J.hexI_bd (J.peek s (k + 3 + 1))
      have hin2 := hide (J.hexI_in s (k + 3 + 1))
      have hk4 : k + 3 + 1 = k + 4 := rfl
      rw [hk4] at *
      generalize J.hexI (J.peek s (k + 4)) = y at *
      rcases hleft with ⟨hy, rfl, hr4⟩ | ⟨hy, rfl, hr4⟩
      · have hlt4 := (unhide hin2) hy
        rw [if_neg (by omega)] at HE
        have hor := or16 x y hx hb1.2 hy hb2.2
        have hxy : 16 * x + y = x * 16 + y := by omega
        rw [hxy] at HE
        clear hxy
        have hv0 : 0 ≤ x * 16 + y := by omega
        have hv1 : x * 16 + y ≤ 255 := by omega
        clear hin hin2
        generalize hv : x * 16 + y = v at *
        clear hv
        by_cases h1 : v < 32
        · rw [if_pos (.inl h1)] at HE
          go_wp2_with fail
          go_ret2
          exact ⟨.inr ⟨5, k + 3, k + 5, unhide HE, rfl, by omega, hr4⟩, ht7⟩
        by_cases h2 : 126 < v
        · rw [if_pos (.inr h2)] at HE
          go_wp2_with fail
          go_ret2
          exact ⟨.inr ⟨5, k + 3, k + 5, unhide HE, rfl, by omega, hr4⟩, ht7⟩
        · rw [if_neg (by omega)] at HE
          go_wp2_with fail
          go_ret2
          exact ⟨.inl ⟨v, k + 5, unhide HE, rfl, hr4⟩, ht7⟩
      · rw [if_pos hy] at HE
        go_wp2_with fail
        go_ret2
        exact ⟨.inr ⟨5, k + 4, k + 4, unhide HE, rfl, by omega, hr4⟩, ht7⟩
    · rw [if_pos hx] at HE
      go_wp2_with fail
      go_ret2
      exact ⟨.inr ⟨5, k + 3, k + 3, unhide HE, rfl, hms, hr3⟩, ht5⟩
  · have HE := hide ((unhide HEW) m hm)
    clear hm HEW HEU
    go_wp2_with fail
    go_ret2
    exact ⟨.inr ⟨5, m, m, unhide HE, rfl, hms, hr2⟩, ht3⟩

theorem escaped_any (b : Nat) (t : TypeId) (s : ByteArray) (k : Nat) (rest : List Value) (w : World) (h : Rd w b t s k rest) (hk : k ≤ s.size) (hs : s.size ≤ 1048576) : Calls Tryz.prog 79 #[.pointer (some ⟨b, 0, none⟩)] w fun e w' => ByteLeft b t s rest (J.escR s k) e w' ∧ Tch w.heap.size b w w' := by
  by_cases hp : J.peek s k = 34 ∨ J.peek s k = 92 ∨ J.peek s k = 47
  · have he := J.escR_plain hp
    rcases hp with hp | hp | hp
    · refine (escaped_plain0 b t s k rest w h hk hs hp).mono ?_
      rintro e w' ⟨rfl, hr, ht⟩
      exact ⟨.inl ⟨_, _, he, by rw [hp], hr⟩, ht⟩
    · refine (escaped_plain1 b t s k rest w h hk hs hp).mono ?_
      rintro e w' ⟨rfl, hr, ht⟩
      exact ⟨.inl ⟨_, _, he, by rw [hp], hr⟩, ht⟩
    · refine (escaped_plain2 b t s k rest w h hk hs hp).mono ?_
      rintro e w' ⟨rfl, hr, ht⟩
      exact ⟨.inl ⟨_, _, he, by rw [hp], hr⟩, ht⟩
  · exact escaped_rest b t s k rest w h hk hs hp

set_option maxRecDepth 100000 in
set_option maxHeartbeats 1000000 in
theorem stringByte_any (b : Nat) (t : TypeId) (s : ByteArray) (k : Nat) (rest : List Value) (w : World) (h : Rd w b t s k rest) (hk : k ≤ s.size) (hs : s.size ≤ 1048576) : Calls Tryz.prog 70 #[.pointer (some ⟨b, 0, none⟩)] w fun e w' => ByteLeft b t s rest (J.sbR s k) e w' ∧ Tch w.heap.size b w w' := by
  by_cases hp : J.peek s k = 92
  · have hlt := J.peek_lt s k 92 (by decide) hp
    have HE := hide (show J.sbR s k = J.escR s (k + 1) by unfold J.sbR; rw [if_pos hp])
    go_enter Tryz.func70, Tryz.ntmps70
    go_wp2_with fail
    refine (take_yes b t s k 92 rest _ h hs (by decide) hp).mono ?_
    rintro e w1 ⟨rfl, hr1, ht1⟩
    clear hp h
    go_wp2_with fail
    refine (escaped_any b t s (k + 1) rest _ hr1 (by omega) hs).mono ?_
    rintro e w2 ⟨hleft, ht2⟩
    have ht3 := ht1.trans (ht2.mono ht1.size)
    clear ht1 ht2 hr1
    rcases hleft with ⟨c, m, hm, rfl, hr2⟩ | ⟨c, m, q, hm, rfl, hq, hr2⟩
    · have HM := hide ((unhide HE).trans hm)
      clear hm
      go_wp2_with fail
      go_ret2
      exact ⟨.inl ⟨c, m, unhide HM, rfl, hr2⟩, ht3⟩
    · have HM := hide ((unhide HE).trans hm)
      clear hm
      go_wp2_with fail
      go_ret2
      exact ⟨.inr ⟨c, m, q, unhide HM, rfl, hq, hr2⟩, ht3⟩
  · have HE := hide (show J.sbR s k = if J.peek s k < 32 ∨ 126 < J.peek s k then .inl (5, k) else .inr (J.peek s k, k + 1) by unfold J.sbR; rw [if_neg hp])
    have hbd := J.peek_bd s k
    have hpl := hide (fun (hc : 0 < J.peek s k) => J.peek_lt s k (J.peek s k) hc rfl)
    have HTK := hide (take_no b t s k 92 rest w h hk hs hp)
    go_enter Tryz.func70, Tryz.ntmps70
    go_wp2_with fail
    refine (unhide HTK).mono ?_
    rintro e w0 ⟨rfl, q0, hw0⟩
    have hr0 : Rd w0 b t s k rest := by rw [hw0]; exact h.drewN q0
    have ht0 : Tch w.heap.size b w w0 := by rw [hw0]; exact (Tch.refl _ _ _).drewN q0
    clear hw0 h HTK hp
    go_wp2_with fail
    refine (peek_any b t s k rest _ hr0 hk hs).mono ?_
    rintro e w1 ⟨rfl, q, hw1⟩
    have hr1 : Rd w1 b t s k rest := by rw [hw1]; exact hr0.drewN q
    have ht1 : Tch w.heap.size b w w1 := by rw [hw1]; exact ht0.drewN q
    clear hw1 hr0 ht0
    generalize J.peek s k = c at *
    by_cases h1 : c < 32
    · rw [if_pos (.inl h1)] at HE
      go_wp2_with fail
      refine (stuck_any b t s k rest _ hr1).mono ?_
      rintro e w4 ⟨rfl, hr4, ht4⟩
      have ht5 := ht1.trans (ht4.mono ht1.size)
      clear ht1 ht4 hr1
      go_wp2_with fail
      go_ret2
      exact ⟨.inr ⟨5, k, k, unhide HE, rfl, hk, hr4⟩, ht5⟩
    by_cases h2 : 126 < c
    · rw [if_pos (.inr h2)] at HE
      go_wp2_with fail
      refine (stuck_any b t s k rest _ hr1).mono ?_
      rintro e w4 ⟨rfl, hr4, ht4⟩
      have ht5 := ht1.trans (ht4.mono ht1.size)
      clear ht1 ht4 hr1
      go_wp2_with fail
      go_ret2
      exact ⟨.inr ⟨5, k, k, unhide HE, rfl, hk, hr4⟩, ht5⟩
    · rw [if_neg (by omega)] at HE
      have hlt := (unhide hpl) (by omega)
      have q1 := hr1.cell 1
      have z1 := hr1.frozen 1
      simp only [List.getElem?_cons_zero, List.getElem?_cons_succ] at q1
      have hr2 := hide hr1.step
      have ht2 := hide (ht1.trans (Tch.set w.heap.size b 1 w1 (.int .i64 ((k : Int) + 1))))
      clear hpl
      go_wp2_with fail
      go_ret2
      exact ⟨.inl ⟨c, k + 1, unhide HE, rfl, unhide hr2⟩, unhide ht2⟩

end Go.Proofs.YtepfdlbnnkojbaaGreatDoor

namespace Go.Proofs.YtepfdlbnnkojbaaGreatDoor
open Go.RowKit
set_option linter.unusedVariables false
set_option linter.unusedSimpArgs false

theorem Tch.owns {B b base : Nat} {w w' : World} {e : TypeId} {size : Nat} {v : Value} {n : Nat} {xs : List Value} (ht : Tch B b w w') (h : w.ownsRow base e size v n xs) (hB : w.heap.size ≤ B) (hb : b < base) : w'.ownsRow base e size v n xs := by
  obtain ⟨h0, h1 | ⟨g, cap, cur, h2, hg, hh, rest⟩⟩ := h
  · exact ⟨h0, .inl h1⟩
  · exact ⟨h0, .inr ⟨g, cap, cur, h2, hg, (ht.block g (Nat.lt_of_lt_of_le (Array.getElem?_eq_some_iff.1 hh).1 hB) (by omega)).trans hh, rest⟩⟩
theorem Tch.alloc {B b : Nat} {w w' : World} (h : Tch B b w w') (hB : B ≤ w'.heap.size) (o : Obj) : Tch B b w (w'.alloc o) :=
  ⟨h.os, h.tape, h.output, by have := h.size; simp; omega, fun k hk hn => (Below.heap_alloc w' o k (by omega)).trans (h.block k hk hn)⟩
theorem Tch.grown {B b : Nat} {w w1 w2 : World} {row : Option Nat} (h : Tch B b w w1) (hg : w1.grownBy w2 row) (hB : B ≤ w1.heap.size) (hr : ∀ k, row = some k → B ≤ k) : Tch B b w w2 :=
  ⟨hg.os.trans h.os, hg.tape.trans h.tape, hg.output.trans h.output, Nat.le_trans h.size hg.size, fun k hk hn => (hg.block k (by omega) (fun e => by have := hr k e.symm; omega)).trans (h.block k hk hn)⟩
theorem Rd.grown {w w' : World} {b : Nat} {t : TypeId} {s : ByteArray} {k : Nat} {rest : List Value} {row : Option Nat} (h : Rd w b t s k rest) (hg : w.grownBy w' row) (hne : row ≠ some b) : Rd w' b t s k rest := by
  obtain ⟨c, hc, e⟩ := h
  exact ⟨c, (hg.block b (Array.getElem?_eq_some_iff.1 hc).1 (fun h => hne h.symm)).trans hc, e⟩
theorem Rd.alloc {w : World} {b : Nat} {t : TypeId} {s : ByteArray} {k : Nat} {rest : List Value} (h : Rd w b t s k rest) (o : Obj) : Rd (w.alloc o) b t s k rest := Own.alloc h o
theorem Rd.lt {w : World} {b : Nat} {t : TypeId} {s : ByteArray} {k : Nat} {rest : List Value} (h : Rd w b t s k rest) : b < w.heap.size := Own.lt h
theorem bv_byte (l : List UInt8) (c : Int) (h0 : 0 ≤ c) (h1 : c ≤ 255) : J.bv l ++ [Value.int .u8 c] = J.bv (l ++ [UInt8.ofNat c.toNat]) := by
  have e : ((UInt8.ofNat c.toNat).toNat : Int) = c := by rw [UInt8.toNat_ofNat']; omega
  rw [← J.bv_snoc, e]

/-- What a reader of a string leaves. -/
def TextLeft (b : Nat) (t : TypeId) (s : ByteArray) (rest : List Value) (R : (Int × Nat) ⊕ (List UInt8 × Nat)) (e : Ending) (w' : World) : Prop :=
  (∃ l m, R = .inr (l, m) ∧ e = .returned (.tuple #[.string (J.bytes l), .nilIface]) ∧ m ≤ s.size ∧ Rd w' b t s m rest) ∨ (∃ (c : Int) (m q : Nat), R = .inl (c, m) ∧ e = .returned (.tuple #[.string ByteArray.empty, .iface 50 (.agg #[.int .i64 c, .int .i64 (m : Int)])]) ∧ q ≤ s.size ∧ Rd w' b t s q rest)

set_option maxRecDepth 100000 in
set_option maxHeartbeats 2000000 in
theorem quoted_any (b : Nat) (t : TypeId) (s : ByteArray) (k : Nat) (rest : List Value) (w : World) (h : Rd w b t s k rest) (hk : k ≤ s.size) (hs : s.size ≤ 1048576) : Calls Tryz.prog 63 #[.pointer (some ⟨b, 0, none⟩)] w fun e w' => TextLeft b t s rest (J.quotR s k) e w' ∧ Tch w.heap.size b w w' := by
  obtain ⟨i0, hi, hz0, hz1, hz2⟩ := info_parts Tryz.info5
  have q1 := h.cell 1
  simp only [List.getElem?_cons_zero, List.getElem?_cons_succ] at q1
  have hbw := h.lt
  by_cases hp : J.peek s k = 34
  · have hlt := J.peek_lt s k 34 (by decide) hp
    have HQ1 := hide (fun p => J.quotR_bad (p := p) hp)
    have HQ2 := hide (fun l e => J.quotR_big (l := l) (e := e) hp)
    have HQ3 := hide (fun l e => J.quotR_ok (l := l) (e := e) hp)
    have HF := hide (J.qF_fuel s (s.size + 1) (s.size + 1 - (k + 1)) (k + 1) [] (by omega) (by omega) (by omega))
    have HTK := hide (take_yes b t s k 34 rest w h hs (by decide) hp)
    clear hp
    go_enter Tryz.func63, Tryz.ntmps63
    go_wp2_with fail
    refine (unhide HTK).mono ?_
    rintro e w1 ⟨rfl, hr1, ht1⟩
    clear h HTK q1
    go_wp2_with fail
    go_loopg [5] (s.size + 1 - (k + 1)) (fun gh s5 wr => ∃ (i : Nat) (l : List UInt8), Hid (gh = s.size + 1 - i) ∧ i ≤ s.size ∧ wr.ownsRow w.heap.size 5 1 s5 l.length (J.bv l) ∧ l.length ≤ i ∧ Hid (J.qF s (s.size + 1) (k + 1) [] = J.qF s (s.size + 1 - i) i l) ∧ Rd wr b t s i rest ∧ Tch w.heap.size b w wr)
    case atStart => exact ⟨k + 1, [], rfl, by omega, World.ownsRow_nil _ _ _ _, by simp, unhide HF, hr1, ht1⟩
    case round =>
      obtain ⟨i, l, hg, his, hown, hli, hqf, hr, ht⟩ := hrel
      obtain ⟨xa, xn, xc, rfl⟩ : ∃ a n c, u5 = Value.slice a n c := by
        obtain ⟨_, ⟨rfl, _⟩ | ⟨g, cap, cur, rfl, _⟩⟩ := hown
        · exact ⟨_, _, _, rfl⟩
        · exact ⟨_, _, _, rfl⟩
      have hwsz := ht.size
      by_cases hp : J.peek s i = 34
      · have hlt2 := J.peek_lt s i 34 (by decide) hp
        have HE := hide (hqf.out.trans (J.qF_end his l hp))
        have HTK2 := hide (take_yes b t s i 34 rest wr hr hs (by decide) hp)
        clear hp
        go_wp2_with fail
        refine (unhide HTK2).mono ?_
        rintro e w2 ⟨rfl, hr2, ht2⟩
        have ht3 := ht.trans (ht2.mono hwsz)
        have hown2 := ht2.owns hown (Nat.le_refl _) hbw
        clear HTK2 ht2 ht hr hown
        have hlen : ∃ a c, Value.slice xa xn xc = Value.slice a l.length c := by
          obtain ⟨_, ⟨h1, h2⟩ | ⟨g, cap, cur, h1, _⟩⟩ := hown2
          · cases h1; exact ⟨_, _, by rw [h2]⟩
          · exact ⟨_, _, h1⟩
        obtain ⟨xa', xc', hx⟩ := hlen
        cases hx
        by_cases hbig : 60 < l.length
        · have hbI : (60 : Int) < (l.length : Int) := by omega
          have HR := hide ((unhide HQ2) l _ (unhide HE) hbig)
          clear hown2
          go_wp2_with fail
          go_ret2
          exact ⟨.inr ⟨2, k, i + 1, unhide HR, rfl, by omega, hr2⟩, ht3⟩
        · have hbI : ¬ (60 : Int) < (l.length : Int) := by omega
          have HR := hide ((unhide HQ3) l _ (unhide HE) hbig)
          rcases hown2.2 with ⟨hnil, h0⟩ | ⟨g2, cap2, cur, hsome, hgb, _⟩
          · have hl0 : l = [] := List.length_eq_zero_iff.1 h0
            subst hl0
            obtain ⟨rfl, rfl⟩ : xa = none ∧ xc = 0 := by injection hnil with e1 e2 e3; exact ⟨e1, e3⟩
            have hcv : (convert 88 9 (.slice none 0 0)).run Tryz.prog w2 = .ok (.string ByteArray.empty) w2 := Lib.run_convert_nil_bytes w2 88 9 5 0 Tryz.underlying88 Tryz.underlying5 Tryz.underlying9
            clear hown2 h0
            go_wp2_with fail
            go_ret2
            exact ⟨.inl ⟨[], i + 1, unhide HR, rfl, by omega, hr2⟩, ht3⟩
          · obtain ⟨rfl, rfl⟩ : xa = some ⟨g2, 0, none⟩ ∧ xc = cap2 := by injection hsome with e1 e2 e3; exact ⟨e1, e3⟩
            have hcv := show (convert 88 9 (.slice (some ⟨g2, 0, none⟩) l.length xc)).run Tryz.prog w2 = .ok (.string (J.bytes l)) w2 from
              run_convert_bytes_back _ _ _ 5 _ xc _ Tryz.underlying88 Tryz.underlying5 Tryz.underlying9 (J.owns_cells hown2)
            clear hown2
            go_wp2_with fail
            go_ret2
            exact ⟨.inl ⟨l, i + 1, unhide HR, rfl, by omega, hr2⟩, ht3⟩
      · have HTK2 := hide (take_no b t s i 34 rest wr hr his hs hp)
        have HNX := hide (fun c j (hsb : J.sbR s i = .inr (c, j)) => hqf.out.trans (J.qF_next his l hp hsb))
        have HBD := hide (fun p (hsb : J.sbR s i = .inl p) => hqf.out.trans (J.qF_bad his l hp hsb))
        clear hp
        go_wp2_with fail
        refine (unhide HTK2).mono ?_
        rintro e w2 ⟨rfl, q2, hw2⟩
        have hr2 : Rd w2 b t s i rest := by rw [hw2]; exact hr.drewN q2
        have ht2 : Tch w.heap.size b w w2 := by rw [hw2]; exact ht.drewN q2
        have hown2 : w2.ownsRow w.heap.size 5 1 (.slice xa xn xc) l.length (J.bv l) := by rw [hw2]; exact hown
        clear HTK2 hw2 hr ht hown
        go_wp2_with fail
        refine (stringByte_any b t s i rest _ hr2 his hs).mono ?_
        rintro e w3 ⟨hleft, ht3⟩
        have ht4 := ht2.trans (ht3.mono ht2.size)
        have hown3 := ht3.owns hown2 (Nat.le_refl _) hbw
        have hwsz3 := ht4.size
        clear ht2 ht3 hr2 hown2
        rcases hleft with ⟨c, j, hsb, rfl, hr3⟩ | ⟨c, j, q, hsb, rfl, hq, hr3⟩
        · have hok := J.sbR_ok his hsb
          have HN := hide ((unhide HNX) c j hsb)
          clear hsb HNX HBD
          have hown1 := hide (fun o => hown3.alloc o)
          have hone := hide (J.one_word w3 c)
          have honep := hide (J.one_plain c)
          have hb63 : l.length + 1 ≤ maxLen := by unfold maxLen; omega
          have hby : (l.length + 1) * 1 ≤ 140737488355328 := by omega
          have hbase : w.heap.size ≤ w3.heap.size + 1 := by omega
          have hbse := hide (J.owns_base hown3)
          clear hown3
          go_wp2_with (at_builtin; refine wpList_append_own _ rfl (.tmp 35) (.tmp 37) 88 rfl w.heap.size 5 i0 (.int .u8 0) 1 1 Tryz.underlying88 hi hz0 hz1 hz2 rfl (by decide) _ l.length _ rfl ((unhide hown1) _) ⟨w3.heap.size, 0, none⟩ 1 1 [.int .u8 c] rfl rfl (unhide hone) (unhide honep) hb63 hby (by simpa using hbase) ?_)
          intro v4 w4 ho4 hg4 _
          have ht5 : Tch w.heap.size b w w4 := (ht4.alloc hwsz3 _).grown hg4 (by simpa using hbase) (unhide hbse)
          have hr4 : Rd w4 b t s j rest := (hr3.alloc _).grown hg4 (fun e => by have := (unhide hbse) b e; omega)
          have HO4 := hide (show w4.ownsRow w.heap.size 5 1 v4 (l ++ [UInt8.ofNat c.toNat]).length (J.bv (l ++ [UInt8.ofNat c.toNat])) by
            rw [List.length_append, ← bv_byte l c (by omega) (by omega)]; exact ho4)
          clear ho4 hg4 hown1 hone honep hbse hr3 ht4
          obtain ⟨ya, yn, yc, rfl⟩ : ∃ a n c, v4 = Value.slice a n c := by
            obtain ⟨_, ⟨rfl, _⟩ | ⟨g, cap, cur, rfl, _⟩⟩ := unhide HO4
            · exact ⟨_, _, _, rfl⟩
            · exact ⟨_, _, _, rfl⟩
          go_wp2_with fail
          go_roundg (s.size + 1 - j)
          case rel => exact ⟨j, _, rfl, by omega, unhide HO4, by rw [List.length_append]; show l.length + 1 ≤ j; omega, unhide HN, hr4, ht5⟩
          case measure => have := hg.out; omega
        · have HR := hide ((unhide HQ1) _ ((unhide HBD) _ hsb))
          clear hsb HNX HBD hown3
          go_wp2_with fail
          go_ret2
          exact ⟨.inr ⟨c, j, q, unhide HR, rfl, hq, hr3⟩, ht4⟩
  · have HR := hide (J.quotR_no hp)
    have HTK := hide (take_no b t s k 34 rest w h hk hs hp)
    clear hp
    go_enter Tryz.func63, Tryz.ntmps63
    go_wp2_with fail
    refine (unhide HTK).mono ?_
    rintro e w1 ⟨rfl, q, hw1⟩
    have hr1 : Rd w1 b t s k rest := by rw [hw1]; exact h.drewN q
    have ht1 : Tch w.heap.size b w w1 := by rw [hw1]; exact (Tch.refl _ _ _).drewN q
    clear hw1 HTK h q1
    go_wp2_with fail
    refine (stuck_any b t s k rest _ hr1).mono ?_
    rintro e w4 ⟨rfl, hr4, ht4⟩
    have ht5 := ht1.trans (ht4.mono ht1.size)
    clear ht1 ht4 hr1
    go_wp2_with fail
    go_ret2
    exact ⟨.inr ⟨5, k, k, unhide HR, rfl, hk, hr4⟩, ht5⟩

end Go.Proofs.YtepfdlbnnkojbaaGreatDoor

namespace Go.Proofs.YtepfdlbnnkojbaaGreatDoor
open Go.RowKit
set_option linter.unusedVariables false
set_option linter.unusedSimpArgs false

theorem Tch.cell {B b : Nat} {w w' : World} (h : Tch B b w w') (g o : Nat) (hg : g < B) (hb : g ≠ b) : w'.cell? ⟨g, o, none⟩ = w.cell? ⟨g, o, none⟩ := by
  simp only [World.cell?, h.block g hg hb]
theorem Tch.of_below {B b : Nat} {w w' : World} (h : Below B w w') : Tch B b w w' := ⟨h.os, h.tape, h.output, h.size, fun k hk _ => h.block k hk⟩
theorem Rd.below {B : Nat} {w w' : World} {b : Nat} {t : TypeId} {s : ByteArray} {k : Nat} {rest : List Value} (h : Rd w b t s k rest) (hb : Below B w w') (hB : b < B) : Rd w' b t s k rest := Own.below h hb hB
theorem kept_int0 {w w2 : World} (hb : Below (w.alloc (.cells #[.int .i64 0, .int .i64 0] 130)).heap.size (w.alloc (.cells #[.int .i64 0, .int .i64 0] 130)) w2) : Own w2 w.heap.size 130 [.int .i64 0, .int .i64 0] :=
  Own.below (w := (w.alloc (.cells #[.int .i64 0, .int .i64 0] 130))) ⟨_, heap_alloc_new _ _, rfl⟩ hb (by show w.heap.size < (w.alloc _).heap.size; simp)
theorem kept_int1 {w w2 : World} (hb : Below (w.alloc (.cells #[.int .i64 0, .int .i64 0] 130)).drew.heap.size (w.alloc (.cells #[.int .i64 0, .int .i64 0] 130)).drew w2) : Own w2 w.heap.size 130 [.int .i64 0, .int .i64 0] :=
  Own.below (w := (w.alloc (.cells #[.int .i64 0, .int .i64 0] 130)).drew) ⟨_, heap_alloc_new _ _, rfl⟩ hb (by show w.heap.size < (w.alloc _).heap.size; simp)
theorem kept_int2 {w w2 : World} (hb : Below (w.alloc (.cells #[.int .i64 0, .int .i64 0] 130)).drew.drew.heap.size (w.alloc (.cells #[.int .i64 0, .int .i64 0] 130)).drew.drew w2) : Own w2 w.heap.size 130 [.int .i64 0, .int .i64 0] :=
  Own.below (w := (w.alloc (.cells #[.int .i64 0, .int .i64 0] 130)).drew.drew) ⟨_, heap_alloc_new _ _, rfl⟩ hb (by show w.heap.size < (w.alloc _).heap.size; simp)
theorem kept_int3 {w w2 : World} (hb : Below (w.alloc (.cells #[.int .i64 0, .int .i64 0] 130)).drew.drew.drew.heap.size (w.alloc (.cells #[.int .i64 0, .int .i64 0] 130)).drew.drew.drew w2) : Own w2 w.heap.size 130 [.int .i64 0, .int .i64 0] :=
  Own.below (w := (w.alloc (.cells #[.int .i64 0, .int .i64 0] 130)).drew.drew.drew) ⟨_, heap_alloc_new _ _, rfl⟩ hb (by show w.heap.size < (w.alloc _).heap.size; simp)
/-- What the program's reader of numbers leaves. -/
def NumbLeft (b : Nat) (t : TypeId) (s : ByteArray) (rest : List Value) (R : (Int × Nat) ⊕ (Int × Nat)) (e : Ending) (w' : World) : Prop :=
  (∃ c m, R = .inr (c, m) ∧ e = .returned (.tuple #[.int .i64 c, .nilIface]) ∧ m ≤ s.size ∧ Rd w' b t s m rest) ∨ (∃ (c : Int) (m q : Nat), R = .inl (c, m) ∧ e = .returned (.tuple #[.int .i64 0, .iface 50 (.agg #[.int .i64 c, .int .i64 (m : Int)])]) ∧ q ≤ s.size ∧ Rd w' b t s q rest)

set_option maxRecDepth 100000 in
set_option maxHeartbeats 2000000 in
theorem wholeNumber_any (b : Nat) (t : TypeId) (s : ByteArray) (k : Nat) (rest : List Value) (w : World) (h : Rd w b t s k rest) (hk : k ≤ s.size) (hs : s.size ≤ 1048576) (ev : Value) (hev : ev = .nilIface ∨ ∃ te pe, ev = .iface te pe) (hG : 5 < w.heap.size) (hGb : 5 ≠ b) (hv : w.cell? ⟨5, 0, none⟩ = some ev) :
    Calls Tryz.prog 74 #[.pointer (some ⟨b, 0, none⟩)] w fun e w' => NumbLeft b t s rest (J.wholeR s k) e w' ∧ Tch w.heap.size b w w' := by
  have q1 := h.cell 1
  simp only [List.getElem?_cons_zero, List.getElem?_cons_succ] at q1
  have hbw := h.lt
  go_enter Tryz.func74, Tryz.ntmps74
  go_wp2_with fail
  refine (numeral_any b t s k rest _ h hk hs).mono ?_
  rintro e w1 ⟨hleft, ht1⟩
  clear q1 h
  have hv1 : w1.cell? ⟨5, 0, none⟩ = some ev := (ht1.cell _ 0 hG hGb).trans hv
  have hG1 : 5 < w1.heap.size := Nat.lt_of_lt_of_le hG ht1.size
  rcases hleft with ⟨m, hnum, hm, rfl, hr1⟩ | ⟨m, hnum, hm, rfl, hr1⟩
  · have hext := J.isNum_ext hnum hm
    have HW := hide (J.wholeR_yes hnum)
    have hcode := J.numOut_code hext.1
    have hkm := hext.2
    have hes : (s.extract k m).size ≤ 1048576 := by rw [J.ext_size hm]; omega
    have HD := hide (fun (wq : World) (hq : Below w1.heap.size w1 wq) => impl_DecodeNumber (s.extract k m) wq hes ev hev 5 (Nat.lt_of_lt_of_le hG1 hq.size) ((hq.cell (p := ⟨5, 0, none⟩) hG1).trans hv1) rfl)
    clear hext hnum hv hv1 hG1
    have q0 := hr1.cell 0
    have q1 := hr1.cell 1
    simp only [List.getElem?_cons_zero, List.getElem?_cons_succ] at q0 q1
    have hb1 := hr1.lt
    have hkI : (k : Int) ≤ (m : Int) := by omega
    have hmI : (m : Int) ≤ (s.size : Int) := by omega
    generalize hX : J.numOut (s.extract k m) = R at *
    obtain ⟨x, y⟩ := R
    simp only at hcode HW
    have BR : Below w1.heap.size w1 w1 := Below.refl _ _
    have FIN := hide (fun (wf : World) (hbf : Below w1.heap.size w1 wf) => (⟨hr1.below hbf hb1, ht1.trans ((Tch.of_below (b := b) hbf).mono ht1.size)⟩ : Rd wf b t s m rest ∧ Tch w.heap.size b w wf))
    clear hX
    rcases hcode with hx | hx
    · subst hx
      rw [if_neg (by simp)] at HW
      go_wp2_with fail
      go_region_with (go_at_call 83; refine ((unhide HD) _ ?_).mono ?_; (first | exact BR.drew | exact (BR.alloc (Nat.le_refl _) _).drew | exact BR | exact BR.alloc (Nat.le_refl _) _ | exact BR.drew.drew | exact (BR.alloc (Nat.le_refl _) _).drew.drew | exact BR.drew.drew.drew | exact (BR.alloc (Nat.le_refl _) _).drew.drew.drew); rintro e w2 ⟨rfl, hb2⟩; (first | (have hY := kept_int1 hb2; have y0 := hY.cell 0; have y1 := hY.cell 1; have z0 := hY.frozen 0; have z1 := hY.frozen 1; simp only [List.getElem?_cons_zero, List.getElem?_cons_succ] at y0 y1) | (have hY := kept_int2 hb2; have y0 := hY.cell 0; have y1 := hY.cell 1; have z0 := hY.frozen 0; have z1 := hY.frozen 1; simp only [List.getElem?_cons_zero, List.getElem?_cons_succ] at y0 y1) | (have hY := kept_int3 hb2; have y0 := hY.cell 0; have y1 := hY.cell 1; have z0 := hY.frozen 0; have z1 := hY.frozen 1; simp only [List.getElem?_cons_zero, List.getElem?_cons_succ] at y0 y1) | skip))
      all_goals
        clear HD q0 q1
        go_wp2_with fail
        go_ret2
        refine ⟨.inl ⟨y, m, unhide HW, rfl, hm, ((unhide FIN) _ ?_).1⟩, ((unhide FIN) _ ?_).2⟩
        all_goals first | exact (Below.trans BR.drew hb2).alloc (by have := hb2.size; exact this) _ | exact ((Below.trans ((BR.alloc (Nat.le_refl _) _).drew) (hb2.mono (by show w1.heap.size ≤ (w1.alloc _).heap.size; simp))).setCell (Nat.le_refl _) _).setCell (Nat.le_refl _) _
    · subst hx
      rw [if_pos (by simp)] at HW
      go_wp2_with fail
      go_region_with (go_at_call 83; refine ((unhide HD) _ ?_).mono ?_; (first | exact BR.drew | exact (BR.alloc (Nat.le_refl _) _).drew | exact BR | exact BR.alloc (Nat.le_refl _) _ | exact BR.drew.drew | exact (BR.alloc (Nat.le_refl _) _).drew.drew | exact BR.drew.drew.drew | exact (BR.alloc (Nat.le_refl _) _).drew.drew.drew); rintro e w2 ⟨rfl, hb2⟩; (first | (have hY := kept_int1 hb2; have y0 := hY.cell 0; have y1 := hY.cell 1; have z0 := hY.frozen 0; have z1 := hY.frozen 1; simp only [List.getElem?_cons_zero, List.getElem?_cons_succ] at y0 y1) | (have hY := kept_int2 hb2; have y0 := hY.cell 0; have y1 := hY.cell 1; have z0 := hY.frozen 0; have z1 := hY.frozen 1; simp only [List.getElem?_cons_zero, List.getElem?_cons_succ] at y0 y1) | (have hY := kept_int3 hb2; have y0 := hY.cell 0; have y1 := hY.cell 1; have z0 := hY.frozen 0; have z1 := hY.frozen 1; simp only [List.getElem?_cons_zero, List.getElem?_cons_succ] at y0 y1) | skip))
      all_goals
        clear HD q0 q1
        go_wp2_with fail
        first
          | (have c0d := fun q => show ((w2.alloc (.cells #[.int .i64 3, .int .i64 y] 130)).drewN q).cell? ⟨w2.heap.size, 0, none⟩ = some (.int .i64 3) from Own.cell (t := 130) (xs := [.int .i64 3, .int .i64 y]) ⟨_, heap_alloc_new _ _, rfl⟩ 0
             go_quiet (fail)
             go_wp2_with fail
             go_ret2
             refine ⟨.inr ⟨3, k, m, unhide HW, rfl, hm, (((unhide FIN) _ ?_).1).drewN _⟩, (((unhide FIN) _ ?_).2).drewN _⟩
             all_goals exact (Below.trans BR.drew hb2).alloc (by have := hb2.size; exact this) _)
          | (have hYf := (hY.set 0 (.int .i64 3)).set 1 (.int .i64 y)
             have c0d := fun q => show (((w2.setCell ⟨w1.heap.size, 0, none⟩ (.int .i64 3)).setCell ⟨w1.heap.size, 1, none⟩ (.int .i64 y)).drewN q).cell? ⟨w1.heap.size, 0, none⟩ = some (.int .i64 3) from hYf.cell 0
             go_quiet (fail)
             go_wp2_with fail
             go_ret2
             refine ⟨.inr ⟨3, k, m, unhide HW, rfl, hm, (((unhide FIN) _ ?_).1).drewN _⟩, (((unhide FIN) _ ?_).2).drewN _⟩
             all_goals exact ((Below.trans ((BR.alloc (Nat.le_refl _) _).drew) (hb2.mono (by show w1.heap.size ≤ (w1.alloc _).heap.size; simp))).setCell (Nat.le_refl _) _).setCell (Nat.le_refl _) _)
  · have HW := hide (J.wholeR_no hnum)
    go_wp2_with fail
    go_ret2
    exact ⟨.inr ⟨5, m, m, unhide HW, rfl, hm, hr1⟩, ht1⟩

end Go.Proofs.YtepfdlbnnkojbaaGreatDoor

namespace Go.Proofs.YtepfdlbnnkojbaaGreatDoor
open Go.RowKit
set_option linter.unusedVariables false
set_option linter.unusedSimpArgs false

/-- A number behind which no part of a fraction stands. -/
def J.numberR (s : ByteArray) (k : Nat) : (Int × Nat) ⊕ (Int × Nat) :=
  match J.wholeR s k with
  | .inl e => .inl e
  | .inr (v, m) => if J.peek s m = 46 ∨ J.peek s m = 101 ∨ J.peek s m = 69 then .inl (3, m) else .inr (v, m)
theorem J.numberR_no {s : ByteArray} {k : Nat} {p : Int × Nat} (h : J.wholeR s k = .inl p) : J.numberR s k = .inl p := by unfold J.numberR; rw [h]
theorem J.numberR_frac {s : ByteArray} {k m : Nat} {v : Int} (h : J.wholeR s k = .inr (v, m)) (hp : J.peek s m = 46 ∨ J.peek s m = 101 ∨ J.peek s m = 69) : J.numberR s k = .inl (3, m) := by unfold J.numberR; rw [h]; simp only; rw [if_pos hp]
theorem J.numberR_yes {s : ByteArray} {k m : Nat} {v : Int} (h : J.wholeR s k = .inr (v, m)) (hp : ¬ (J.peek s m = 46 ∨ J.peek s m = 101 ∨ J.peek s m = 69)) : J.numberR s k = .inr (v, m) := by unfold J.numberR; rw [h]; simp only; rw [if_neg hp]

set_option maxRecDepth 100000 in
set_option maxHeartbeats 1000000 in
theorem number_any (b : Nat) (t : TypeId) (s : ByteArray) (k : Nat) (rest : List Value) (w : World) (h : Rd w b t s k rest) (hk : k ≤ s.size) (hs : s.size ≤ 1048576) (ev : Value) (hev : ev = .nilIface ∨ ∃ te pe, ev = .iface te pe) (hG : 5 < w.heap.size) (hGb : 5 ≠ b) (hv : w.cell? ⟨5, 0, none⟩ = some ev) : Calls Tryz.prog 66 #[.pointer (some ⟨b, 0, none⟩)] w fun e w' => NumbLeft b t s rest (J.numberR s k) e w' ∧ Tch w.heap.size b w w' := by
  go_enter Tryz.func66, Tryz.ntmps66
  go_wp2_with fail
  refine (wholeNumber_any b t s k rest _ h hk hs ev hev hG hGb hv).mono ?_
  rintro e w1 ⟨hleft, ht1⟩
  clear h hv hG
  rcases hleft with ⟨c, m, hm, rfl, hms, hr1⟩ | ⟨c, m, q, hm, rfl, hq, hr1⟩
  · have HF := hide (J.numberR_frac (v := c) hm)
    have HY := hide (J.numberR_yes (v := c) hm)
    clear hm
    go_wp2_with fail
    refine (peek_any b t s m rest _ hr1 hms hs).mono ?_
    rintro e w2 ⟨rfl, q2, hw2⟩
    have hr2 : Rd w2 b t s m rest := by rw [hw2]; exact hr1.drewN q2
    have ht2 : Tch w.heap.size b w w2 := by rw [hw2]; exact ht1.drewN q2
    clear hw2 hr1 ht1
    have g1 := fun q => show (w2.drewN q).cell? ⟨b, 1, none⟩ = some (.int .i64 m) from hr2.cell 1
    generalize J.peek s m = x at *
    by_cases h1 : x = 46
    · have HR := hide ((unhide HF) (.inl h1))
      subst h1
      clear HF HY
      go_wp2_with fail
      go_quiet (fail)
      go_wp2_with fail
      go_ret2
      exact ⟨.inr ⟨3, m, m, unhide HR, rfl, hms, hr2.drewN _⟩, ht2.drewN _⟩
    by_cases h2 : x = 101
    · have HR := hide ((unhide HF) (.inr (.inl h2)))
      subst h2
      clear HF HY
      go_wp2_with fail
      go_quiet (fail)
      go_wp2_with fail
      go_ret2
      exact ⟨.inr ⟨3, m, m, unhide HR, rfl, hms, hr2.drewN _⟩, ht2.drewN _⟩
    by_cases h3 : x = 69
    · have HR := hide ((unhide HF) (.inr (.inr h3)))
      subst h3
      clear HF HY
      go_wp2_with fail
      go_quiet (fail)
      go_wp2_with fail
      go_ret2
      exact ⟨.inr ⟨3, m, m, unhide HR, rfl, hms, hr2.drewN _⟩, ht2.drewN _⟩
    · have HR := hide ((unhide HY) (by omega))
      have e1 : (x == 46) = false := by simpa using h1
      have e2 : (x == 101) = false := by simpa using h2
      have e3 : (x == 69) = false := by simpa using h3
      clear HF HY h1 h2 h3
      go_wp2_with fail
      go_ret2
      exact ⟨.inl ⟨c, m, unhide HR, rfl, hms, hr2⟩, ht2⟩
  · have HR := hide (J.numberR_no hm)
    clear hm
    go_wp2_with fail
    go_ret2
    exact ⟨.inr ⟨c, m, q, unhide HR, rfl, hq, hr1⟩, ht1⟩

end Go.Proofs.YtepfdlbnnkojbaaGreatDoor
