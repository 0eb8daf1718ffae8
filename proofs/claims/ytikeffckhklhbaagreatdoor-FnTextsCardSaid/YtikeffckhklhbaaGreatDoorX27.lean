/-
  (*byteReader).word, (*scalarReader).hexDigit, escaped, stringByte.
-/
import Derived.Test.YtikeffckhklhbaaGreatDoorX03
import Derived.Test.YtikeffckhklhbaaGreatDoorX04
namespace Go.Proofs.YtikeffckhklhbaaGreatDoor
open Go.RowKit
set_option linter.unusedVariables false
set_option linter.unusedSimpArgs false

/-- A byte past which the reader goes. -/
theorem Rd.step {w : World} {b : Nat} {t : TypeId} {s : ByteArray} {k : Nat} {rest : List Value} (h : Rd w b t s k rest) : Rd (w.setCell ⟨b, 1, none⟩ (.int .i64 ((k : Int) + 1))) b t s (k + 1) rest := h.set 1 _

set_option maxRecDepth 100000 in
set_option maxHeartbeats 1000000 in
theorem word_any (b : Nat) (t : TypeId) (s : ByteArray) (k : Nat) (rest : List Value) (w : World) (h : Rd w b t s k rest) (hk : k ≤ s.size) (hs : s.size ≤ 1048576) (ws : ByteArray) (hw : ws.size ≤ 10) (hz : ∀ j (hj : j < ws.size), 0 < ws[j].toNat) :
    Calls Tryz.prog 87 #[.pointer (some ⟨b, 0, none⟩), .string ws] w fun e w' => ((∃ m, J.wordR s k ws.data.toList = .inr m ∧ m ≤ s.size ∧ e = .returned .nilIface ∧ Rd w' b t s m rest) ∨ (∃ m, J.wordR s k ws.data.toList = .inl m ∧ m ≤ s.size ∧ e = .returned (.iface 55 (.agg #[.int .i64 5, .int .i64 ((m : Nat) : Int)])) ∧ Rd w' b t s m rest)) ∧ Tch w.heap.size b w w' := by
  go_enter Tryz.func87, Tryz.ntmps87
  go_wp2_with fail
  go_loopg [8] ws.size (fun gh s8 wr => ∃ j : Nat, Hid (gh = ws.size - j) ∧ s8 = .int .i64 j ∧ j ≤ ws.size ∧ k + j ≤ s.size ∧ Hid (J.wordR s k ws.data.toList = J.wordR s (k + j) (ws.data.toList.drop j)) ∧ Rd wr b t s (k + j) rest ∧ Tch w.heap.size b w wr)
  case atStart => exact ⟨0, rfl, rfl, by omega, by omega, rfl, h, Tch.refl _ _ _⟩
  case round =>
    obtain ⟨j, hg, rfl, hj, hkj, hwr, hr, ht⟩ := hrel
    by_cases hlt : j < ws.size
    · have hltI : (j : Int) < (ws.size : Int) := by omega
      have hc0 := hz j hlt
      have hdrop : ws.data.toList.drop j = ws[j] :: ws.data.toList.drop (j + 1) := List.drop_eq_getElem_cons (by simpa using hlt)
      have hwr2 : J.wordR s (k + j) (ws.data.toList.drop j) = if J.peek s (k + j) = (ws[j].toNat : Int) then J.wordR s (k + j + 1) (ws.data.toList.drop (j + 1)) else .inl (k + j) := by rw [hdrop, J.wordR]
      have HW := hide (hwr.out.trans hwr2)
      clear hwr2 hdrop
      by_cases hp : J.peek s (k + j) = (ws[j].toNat : Int)
      · rw [if_pos hp] at HW
        have hlt2 := J.peek_lt s (k + j) _ (by omega) hp
        have HT := hide (fun wq (hq : Rd wq b t s (k + j) rest) => take_yes b t s (k + j) (ws[j].toNat : Int) rest wq hq hs (by omega) hp)
        clear hp
        go_wp2_with fail
        refine ((unhide HT) _ hr).mono ?_
        rintro e w1 ⟨rfl, hr1, ht1⟩
        have ht2 := ht.trans (ht1.mono ht.size)
        clear ht1 HT hr
        go_wp2_with fail
        go_roundg (ws.size - (j + 1))
        case rel => exact ⟨j + 1, rfl, by go_num, by omega, by omega, unhide HW, hr1, ht2⟩
        case measure => have := hg.out; omega
      · rw [if_neg hp] at HW
        have HT := hide (fun wq (hq : Rd wq b t s (k + j) rest) => take_no b t s (k + j) (ws[j].toNat : Int) rest wq hq hkj hs hp)
        clear hp
        go_wp2_with fail
        refine ((unhide HT) _ hr).mono ?_
        rintro e w1 ⟨rfl, q, hw1⟩
        have hr1 : Rd w1 b t s (k + j) rest := by rw [hw1]; exact hr.drewN q
        have ht1 : Tch w.heap.size b w w1 := by rw [hw1]; exact ht.drewN q
        clear HT hr hw1 ht
        go_wp2_with fail
        refine (stuck_any b t s (k + j) rest _ hr1).mono ?_
        rintro e w2 ⟨rfl, hr2, ht2⟩
        have ht3 := ht1.trans (ht2.mono ht1.size)
        clear ht1 ht2 hr1
        go_wp2_with fail
        go_ret
        exact ⟨.inr ⟨k + j, unhide HW, hkj, rfl, hr2⟩, ht3⟩
    · have hge : ¬ (j : Int) < (ws.size : Int) := by omega
      have HW := hide (hwr.out.trans (show J.wordR s (k + j) (ws.data.toList.drop j) = .inr (k + j) by rw [List.drop_of_length_le (by simp; show ws.size ≤ j; omega), J.wordR]))
      go_wp2_with fail
      go_ret
      exact ⟨.inl ⟨k + j, unhide HW, hkj, rfl, hr⟩, ht⟩

/-- What a reader of one byte leaves: the byte and the place behind it, or an error. -/
def ByteLeft (b : Nat) (t : TypeId) (s : ByteArray) (rest : List Value) (R : (Int × Nat) ⊕ (Int × Nat)) (e : Ending) (w' : World) : Prop :=
  (∃ c m, R = .inr (c, m) ∧ e = .returned (.tuple #[.int .u8 c, .nilIface]) ∧ Rd w' b t s m rest) ∨ (∃ (c : Int) (m q : Nat), R = .inl (c, m) ∧ e = .returned (.tuple #[.int .u8 0, .iface 55 (.agg #[.int .i64 c, .int .i64 (m : Int)])]) ∧ q ≤ s.size ∧ Rd w' b t s q rest)

set_option maxRecDepth 100000 in
set_option maxHeartbeats 1000000 in
theorem hexDigit_no0 (b : Nat) (t : TypeId) (s : ByteArray) (k : Nat) (rest : List Value) (w : World) (h : Rd w b t s k rest) (hk : k ≤ s.size) (hs : s.size ≤ 1048576) (hx : J.peek s k < 48) :
    Calls Tryz.prog 122 #[.pointer (some ⟨b, 0, none⟩)] w fun e w' => e = .returned (.tuple #[.int .u8 0, .iface 55 (.agg #[.int .i64 5, .int .i64 ((k : Nat) : Int)])]) ∧ Rd w' b t s k rest ∧ Tch w.heap.size b w w' := by
  have HP := hide (peek_any b t s k rest w h hk hs)
  have hbd := J.peek_bd s k
  generalize J.peek s k = c at *
  have hd : (decide (48 ≤ c) && decide (c ≤ 57)) = false := by simp; omega
  go_enter Tryz.func122, Tryz.ntmps122
  go_wp2_with fail
  refine (unhide HP).mono ?_
  rintro e w1 ⟨rfl, q, hw1⟩
  have hr1 : Rd w1 b t s k rest := by rw [hw1]; exact h.drewN q
  have ht1 : Tch w.heap.size b w w1 := by rw [hw1]; exact (Tch.refl _ _ _).drewN q
  clear hw1 HP h
  go_wp2_with fail
  refine (isDigit_any c _).mono ?_
  rintro e w2 ⟨rfl, hw2⟩
  have hw3 := hw2.symm
  clear hw2
  subst hw3
  rw [hd]
  clear hd
  go_wp2_with fail
  refine (stuck_any b t s k rest _ hr1).mono ?_
  rintro e w4 ⟨rfl, hr4, ht4⟩
  have ht5 := ht1.trans (ht4.mono ht1.size)
  clear ht1 ht4 hr1
  go_wp2_with fail
  go_ret2
  exact ⟨rfl, hr4, ht5⟩

set_option maxRecDepth 100000 in
set_option maxHeartbeats 1000000 in
theorem hexDigit_no1 (b : Nat) (t : TypeId) (s : ByteArray) (k : Nat) (rest : List Value) (w : World) (h : Rd w b t s k rest) (hk : k ≤ s.size) (hs : s.size ≤ 1048576) (hx : 57 < J.peek s k ∧ J.peek s k < 65) :
    Calls Tryz.prog 122 #[.pointer (some ⟨b, 0, none⟩)] w fun e w' => e = .returned (.tuple #[.int .u8 0, .iface 55 (.agg #[.int .i64 5, .int .i64 ((k : Nat) : Int)])]) ∧ Rd w' b t s k rest ∧ Tch w.heap.size b w w' := by
  have HP := hide (peek_any b t s k rest w h hk hs)
  have hbd := J.peek_bd s k
  generalize J.peek s k = c at *
  have hd : (decide (48 ≤ c) && decide (c ≤ 57)) = false := by simp; omega
  go_enter Tryz.func122, Tryz.ntmps122
  go_wp2_with fail
  refine (unhide HP).mono ?_
  rintro e w1 ⟨rfl, q, hw1⟩
  have hr1 : Rd w1 b t s k rest := by rw [hw1]; exact h.drewN q
  have ht1 : Tch w.heap.size b w w1 := by rw [hw1]; exact (Tch.refl _ _ _).drewN q
  clear hw1 HP h
  go_wp2_with fail
  refine (isDigit_any c _).mono ?_
  rintro e w2 ⟨rfl, hw2⟩
  have hw3 := hw2.symm
  clear hw2
  subst hw3
  rw [hd]
  clear hd
  go_wp2_with fail
  refine (stuck_any b t s k rest _ hr1).mono ?_
  rintro e w4 ⟨rfl, hr4, ht4⟩
  have ht5 := ht1.trans (ht4.mono ht1.size)
  clear ht1 ht4 hr1
  go_wp2_with fail
  go_ret2
  exact ⟨rfl, hr4, ht5⟩

set_option maxRecDepth 100000 in
set_option maxHeartbeats 1000000 in
theorem hexDigit_no2 (b : Nat) (t : TypeId) (s : ByteArray) (k : Nat) (rest : List Value) (w : World) (h : Rd w b t s k rest) (hk : k ≤ s.size) (hs : s.size ≤ 1048576) (hx : 70 < J.peek s k ∧ J.peek s k < 97) :
    Calls Tryz.prog 122 #[.pointer (some ⟨b, 0, none⟩)] w fun e w' => e = .returned (.tuple #[.int .u8 0, .iface 55 (.agg #[.int .i64 5, .int .i64 ((k : Nat) : Int)])]) ∧ Rd w' b t s k rest ∧ Tch w.heap.size b w w' := by
  have HP := hide (peek_any b t s k rest w h hk hs)
  have hbd := J.peek_bd s k
  generalize J.peek s k = c at *
  have hd : (decide (48 ≤ c) && decide (c ≤ 57)) = false := by simp; omega
  go_enter Tryz.func122, Tryz.ntmps122
  go_wp2_with fail
  refine (unhide HP).mono ?_
  rintro e w1 ⟨rfl, q, hw1⟩
  have hr1 : Rd w1 b t s k rest := by rw [hw1]; exact h.drewN q
  have ht1 : Tch w.heap.size b w w1 := by rw [hw1]; exact (Tch.refl _ _ _).drewN q
  clear hw1 HP h
  go_wp2_with fail
  refine (isDigit_any c _).mono ?_
  rintro e w2 ⟨rfl, hw2⟩
  have hw3 := hw2.symm
  clear hw2
  subst hw3
  rw [hd]
  clear hd
  go_wp2_with fail
  refine (stuck_any b t s k rest _ hr1).mono ?_
  rintro e w4 ⟨rfl, hr4, ht4⟩
  have ht5 := ht1.trans (ht4.mono ht1.size)
  clear ht1 ht4 hr1
  go_wp2_with fail
  go_ret2
  exact ⟨rfl, hr4, ht5⟩

set_option maxRecDepth 100000 in
set_option maxHeartbeats 1000000 in
theorem hexDigit_no3 (b : Nat) (t : TypeId) (s : ByteArray) (k : Nat) (rest : List Value) (w : World) (h : Rd w b t s k rest) (hk : k ≤ s.size) (hs : s.size ≤ 1048576) (hx : 102 < J.peek s k) :
    Calls Tryz.prog 122 #[.pointer (some ⟨b, 0, none⟩)] w fun e w' => e = .returned (.tuple #[.int .u8 0, .iface 55 (.agg #[.int .i64 5, .int .i64 ((k : Nat) : Int)])]) ∧ Rd w' b t s k rest ∧ Tch w.heap.size b w w' := by
  have HP := hide (peek_any b t s k rest w h hk hs)
  have hbd := J.peek_bd s k
  generalize J.peek s k = c at *
  have hd : (decide (48 ≤ c) && decide (c ≤ 57)) = false := by simp; omega
  go_enter Tryz.func122, Tryz.ntmps122
  go_wp2_with fail
  refine (unhide HP).mono ?_
  rintro e w1 ⟨rfl, q, hw1⟩
  have hr1 : Rd w1 b t s k rest := by rw [hw1]; exact h.drewN q
  have ht1 : Tch w.heap.size b w w1 := by rw [hw1]; exact (Tch.refl _ _ _).drewN q
  clear hw1 HP h
  go_wp2_with fail
  refine (isDigit_any c _).mono ?_
  rintro e w2 ⟨rfl, hw2⟩
  have hw3 := hw2.symm
  clear hw2
  subst hw3
  rw [hd]
  clear hd
  go_wp2_with fail
  refine (stuck_any b t s k rest _ hr1).mono ?_
  rintro e w4 ⟨rfl, hr4, ht4⟩
  have ht5 := ht1.trans (ht4.mono ht1.size)
  clear ht1 ht4 hr1
  go_wp2_with fail
  go_ret2
  exact ⟨rfl, hr4, ht5⟩

set_option maxRecDepth 100000 in
set_option maxHeartbeats 1000000 in
theorem hexDigit_yes0 (b : Nat) (t : TypeId) (s : ByteArray) (k : Nat) (rest : List Value) (w : World) (h : Rd w b t s k rest) (hk : k ≤ s.size) (hs : s.size ≤ 1048576) (hx : 48 ≤ J.peek s k ∧ J.peek s k ≤ 57) :
    Calls Tryz.prog 122 #[.pointer (some ⟨b, 0, none⟩)] w fun e w' => e = .returned (.tuple #[.int .u8 (J.peek s k - 48), .nilIface]) ∧ Rd w' b t s (k + 1) rest ∧ Tch w.heap.size b w w' := by
  have HP := hide (peek_any b t s k rest w h hk hs)
  have hbd := J.peek_bd s k
  have hlt := J.peek_lt s k (J.peek s k) (by omega) rfl
  generalize J.peek s k = c at *
  have hd : (decide (48 ≤ c) && decide (c ≤ 57)) = true := by simp; omega
  go_enter Tryz.func122, Tryz.ntmps122
  go_wp2_with fail
  refine (unhide HP).mono ?_
  rintro e w1 ⟨rfl, q, hw1⟩
  have hr1 : Rd w1 b t s k rest := by rw [hw1]; exact h.drewN q
  have ht1 : Tch w.heap.size b w w1 := by rw [hw1]; exact (Tch.refl _ _ _).drewN q
  clear hw1 HP h
  go_wp2_with fail
  refine (isDigit_any c _).mono ?_
  rintro e w2 ⟨rfl, hw2⟩
  have hw3 := hw2.symm
  clear hw2
  subst hw3
  rw [hd]
  clear hd
  have q1 := hr1.cell 1
  have z1 := hr1.frozen 1
  simp only [List.getElem?_cons_zero, List.getElem?_cons_succ] at q1
  have hr2 := hide hr1.step
  have ht2 := hide (ht1.trans (Tch.set w.heap.size b 1 w1 (.int .i64 ((k : Int) + 1))))
  go_wp2_with fail
  go_ret2
  exact ⟨rfl, unhide hr2, unhide ht2⟩

set_option maxRecDepth 100000 in
set_option maxHeartbeats 1000000 in
theorem hexDigit_yes1 (b : Nat) (t : TypeId) (s : ByteArray) (k : Nat) (rest : List Value) (w : World) (h : Rd w b t s k rest) (hk : k ≤ s.size) (hs : s.size ≤ 1048576) (hx : 97 ≤ J.peek s k ∧ J.peek s k ≤ 102) :
    Calls Tryz.prog 122 #[.pointer (some ⟨b, 0, none⟩)] w fun e w' => e = .returned (.tuple #[.int .u8 (J.peek s k - 87), .nilIface]) ∧ Rd w' b t s (k + 1) rest ∧ Tch w.heap.size b w w' := by
  have HP := hide (peek_any b t s k rest w h hk hs)
  have hbd := J.peek_bd s k
  have hlt := J.peek_lt s k (J.peek s k) (by omega) rfl
  generalize J.peek s k = c at *
  have hd : (decide (48 ≤ c) && decide (c ≤ 57)) = false := by simp; omega
  go_enter Tryz.func122, Tryz.ntmps122
  go_wp2_with fail
  refine (unhide HP).mono ?_
  rintro e w1 ⟨rfl, q, hw1⟩
  have hr1 : Rd w1 b t s k rest := by rw [hw1]; exact h.drewN q
  have ht1 : Tch w.heap.size b w w1 := by rw [hw1]; exact (Tch.refl _ _ _).drewN q
  clear hw1 HP h
  go_wp2_with fail
  refine (isDigit_any c _).mono ?_
  rintro e w2 ⟨rfl, hw2⟩
  have hw3 := hw2.symm
  clear hw2
  subst hw3
  rw [hd]
  clear hd
  have q1 := hr1.cell 1
  have z1 := hr1.frozen 1
  simp only [List.getElem?_cons_zero, List.getElem?_cons_succ] at q1
  have hr2 := hide hr1.step
  have ht2 := hide (ht1.trans (Tch.set w.heap.size b 1 w1 (.int .i64 ((k : Int) + 1))))
  go_wp2_with fail
  go_ret2
  exact ⟨rfl, unhide hr2, unhide ht2⟩

set_option maxRecDepth 100000 in
set_option maxHeartbeats 1000000 in
theorem hexDigit_yes2 (b : Nat) (t : TypeId) (s : ByteArray) (k : Nat) (rest : List Value) (w : World) (h : Rd w b t s k rest) (hk : k ≤ s.size) (hs : s.size ≤ 1048576) (hx : 65 ≤ J.peek s k ∧ J.peek s k ≤ 70) :
    Calls Tryz.prog 122 #[.pointer (some ⟨b, 0, none⟩)] w fun e w' => e = .returned (.tuple #[.int .u8 (J.peek s k - 55), .nilIface]) ∧ Rd w' b t s (k + 1) rest ∧ Tch w.heap.size b w w' := by
  have HP := hide (peek_any b t s k rest w h hk hs)
  have hbd := J.peek_bd s k
  have hlt := J.peek_lt s k (J.peek s k) (by omega) rfl
  generalize J.peek s k = c at *
  have hd : (decide (48 ≤ c) && decide (c ≤ 57)) = false := by simp; omega
  go_enter Tryz.func122, Tryz.ntmps122
  go_wp2_with fail
  refine (unhide HP).mono ?_
  rintro e w1 ⟨rfl, q, hw1⟩
  have hr1 : Rd w1 b t s k rest := by rw [hw1]; exact h.drewN q
  have ht1 : Tch w.heap.size b w w1 := by rw [hw1]; exact (Tch.refl _ _ _).drewN q
  clear hw1 HP h
  go_wp2_with fail
  refine (isDigit_any c _).mono ?_
  rintro e w2 ⟨rfl, hw2⟩
  have hw3 := hw2.symm
  clear hw2
  subst hw3
  rw [hd]
  clear hd
  have q1 := hr1.cell 1
  have z1 := hr1.frozen 1
  simp only [List.getElem?_cons_zero, List.getElem?_cons_succ] at q1
  have hr2 := hide hr1.step
  have ht2 := hide (ht1.trans (Tch.set w.heap.size b 1 w1 (.int .i64 ((k : Int) + 1))))
  go_wp2_with fail
  go_ret2
  exact ⟨rfl, unhide hr2, unhide ht2⟩

theorem hexDigit_any (b : Nat) (t : TypeId) (s : ByteArray) (k : Nat) (rest : List Value) (w : World) (h : Rd w b t s k rest) (hk : k ≤ s.size) (hs : s.size ≤ 1048576) :
    Calls Tryz.prog 122 #[.pointer (some ⟨b, 0, none⟩)] w fun e w' => ((0 ≤ J.hexI (J.peek s k) ∧ e = .returned (.tuple #[.int .u8 (J.hexI (J.peek s k)), .nilIface]) ∧ Rd w' b t s (k + 1) rest) ∨ (J.hexI (J.peek s k) < 0 ∧ e = .returned (.tuple #[.int .u8 0, .iface 55 (.agg #[.int .i64 5, .int .i64 ((k : Nat) : Int)])]) ∧ Rd w' b t s k rest)) ∧ Tch w.heap.size b w w' := by
  have e0 : 48 ≤ J.peek s k ∧ J.peek s k ≤ 57 → J.hexI (J.peek s k) = J.peek s k - 48 := fun h => by unfold J.hexI; rw [if_pos h]
  have e1 : 97 ≤ J.peek s k ∧ J.peek s k ≤ 102 → J.hexI (J.peek s k) = J.peek s k - 87 := fun h => by unfold J.hexI; rw [if_neg (by omega), if_pos h]
  have e2 : 65 ≤ J.peek s k ∧ J.peek s k ≤ 70 → J.hexI (J.peek s k) = J.peek s k - 55 := fun h => by unfold J.hexI; rw [if_neg (by omega), if_neg (by omega), if_pos h]
  by_cases c0 : 48 ≤ J.peek s k ∧ J.peek s k ≤ 57
  · refine (hexDigit_yes0 b t s k rest w h hk hs c0).mono ?_
    rintro e w' ⟨rfl, hr, ht⟩
    exact ⟨.inl ⟨by rw [e0 c0]; omega, by rw [e0 c0], hr⟩, ht⟩
  by_cases c1 : 97 ≤ J.peek s k ∧ J.peek s k ≤ 102
  · refine (hexDigit_yes1 b t s k rest w h hk hs c1).mono ?_
    rintro e w' ⟨rfl, hr, ht⟩
    exact ⟨.inl ⟨by rw [e1 c1]; omega, by rw [e1 c1], hr⟩, ht⟩
  by_cases c2 : 65 ≤ J.peek s k ∧ J.peek s k ≤ 70
  · refine (hexDigit_yes2 b t s k rest w h hk hs c2).mono ?_
    rintro e w' ⟨rfl, hr, ht⟩
    exact ⟨.inl ⟨by rw [e2 c2]; omega, by rw [e2 c2], hr⟩, ht⟩
  have en : J.hexI (J.peek s k) < 0 := by unfold J.hexI; rw [if_neg c0, if_neg c1, if_neg c2]; decide
  have fin : ∀ (e : Ending) (w' : World), e = .returned (.tuple #[.int .u8 0, .iface 55 (.agg #[.int .i64 5, .int .i64 ((k : Nat) : Int)])]) ∧ Rd w' b t s k rest ∧ Tch w.heap.size b w w' → ((0 ≤ J.hexI (J.peek s k) ∧ e = .returned (.tuple #[.int .u8 (J.hexI (J.peek s k)), .nilIface]) ∧ Rd w' b t s (k + 1) rest) ∨ (J.hexI (J.peek s k) < 0 ∧ e = .returned (.tuple #[.int .u8 0, .iface 55 (.agg #[.int .i64 5, .int .i64 ((k : Nat) : Int)])]) ∧ Rd w' b t s k rest)) ∧ Tch w.heap.size b w w' := fun (e : Ending) w' ⟨h1, h2, h3⟩ => ⟨.inr ⟨en, h1, h2⟩, h3⟩
  by_cases d0 : J.peek s k < 48
  · exact (hexDigit_no0 b t s k rest w h hk hs d0).mono fin
  by_cases d1 : J.peek s k < 65
  · exact (hexDigit_no1 b t s k rest w h hk hs (by omega)).mono fin
  by_cases d2 : J.peek s k < 97
  · exact (hexDigit_no2 b t s k rest w h hk hs (by omega)).mono fin
  · exact (hexDigit_no3 b t s k rest w h hk hs (by omega)).mono fin

set_option maxRecDepth 100000 in
set_option maxHeartbeats 1000000 in
theorem escaped_plain0 (b : Nat) (t : TypeId) (s : ByteArray) (k : Nat) (rest : List Value) (w : World) (h : Rd w b t s k rest) (hk : k ≤ s.size) (hs : s.size ≤ 1048576) (hp : J.peek s k = 34) :
    Calls Tryz.prog 115 #[.pointer (some ⟨b, 0, none⟩)] w fun e w' => e = .returned (.tuple #[.int .u8 34, .nilIface]) ∧ Rd w' b t s (k + 1) rest ∧ Tch w.heap.size b w w' := by
  have HP := hide (peek_any b t s k rest w h hk hs)
  have hlt := J.peek_lt s k 34 (by decide) hp
  rw [hp] at HP
  clear hp
  go_enter Tryz.func115, Tryz.ntmps115
  go_wp2_with fail
  refine (unhide HP).mono ?_
  rintro e w1 ⟨rfl, q, hw1⟩
  have hr1 : Rd w1 b t s k rest := by rw [hw1]; exact h.drewN q
  have ht1 : Tch w.heap.size b w w1 := by rw [hw1]; exact (Tch.refl _ _ _).drewN q
  clear hw1 HP h
  have q1 := hr1.cell 1
  have z1 := hr1.frozen 1
  simp only [List.getElem?_cons_zero, List.getElem?_cons_succ] at q1
  have hr2 := hide hr1.step
  have ht2 := hide (ht1.trans (Tch.set w.heap.size b 1 w1 (.int .i64 ((k : Int) + 1))))
  go_wp2_with fail
  go_ret2
  exact ⟨rfl, unhide hr2, unhide ht2⟩

set_option maxRecDepth 100000 in
set_option maxHeartbeats 1000000 in
theorem escaped_plain1 (b : Nat) (t : TypeId) (s : ByteArray) (k : Nat) (rest : List Value) (w : World) (h : Rd w b t s k rest) (hk : k ≤ s.size) (hs : s.size ≤ 1048576) (hp : J.peek s k = 92) :
    Calls Tryz.prog 115 #[.pointer (some ⟨b, 0, none⟩)] w fun e w' => e = .returned (.tuple #[.int .u8 92, .nilIface]) ∧ Rd w' b t s (k + 1) rest ∧ Tch w.heap.size b w w' := by
  have HP := hide (peek_any b t s k rest w h hk hs)
  have hlt := J.peek_lt s k 92 (by decide) hp
  rw [hp] at HP
  clear hp
  go_enter Tryz.func115, Tryz.ntmps115
  go_wp2_with fail
  refine (unhide HP).mono ?_
  rintro e w1 ⟨rfl, q, hw1⟩
  have hr1 : Rd w1 b t s k rest := by rw [hw1]; exact h.drewN q
  have ht1 : Tch w.heap.size b w w1 := by rw [hw1]; exact (Tch.refl _ _ _).drewN q
  clear hw1 HP h
  have q1 := hr1.cell 1
  have z1 := hr1.frozen 1
  simp only [List.getElem?_cons_zero, List.getElem?_cons_succ] at q1
  have hr2 := hide hr1.step
  have ht2 := hide (ht1.trans (Tch.set w.heap.size b 1 w1 (.int .i64 ((k : Int) + 1))))
  go_wp2_with fail
  go_ret2
  exact ⟨rfl, unhide hr2, unhide ht2⟩

set_option maxRecDepth 100000 in
set_option maxHeartbeats 1000000 in
theorem escaped_plain2 (b : Nat) (t : TypeId) (s : ByteArray) (k : Nat) (rest : List Value) (w : World) (h : Rd w b t s k rest) (hk : k ≤ s.size) (hs : s.size ≤ 1048576) (hp : J.peek s k = 47) :
    Calls Tryz.prog 115 #[.pointer (some ⟨b, 0, none⟩)] w fun e w' => e = .returned (.tuple #[.int .u8 47, .nilIface]) ∧ Rd w' b t s (k + 1) rest ∧ Tch w.heap.size b w w' := by
  have HP := hide (peek_any b t s k rest w h hk hs)
  have hlt := J.peek_lt s k 47 (by decide) hp
  rw [hp] at HP
  clear hp
  go_enter Tryz.func115, Tryz.ntmps115
  go_wp2_with fail
  refine (unhide HP).mono ?_
  rintro e w1 ⟨rfl, q, hw1⟩
  have hr1 : Rd w1 b t s k rest := by rw [hw1]; exact h.drewN q
  have ht1 : Tch w.heap.size b w w1 := by rw [hw1]; exact (Tch.refl _ _ _).drewN q
  clear hw1 HP h
  have q1 := hr1.cell 1
  have z1 := hr1.frozen 1
  simp only [List.getElem?_cons_zero, List.getElem?_cons_succ] at q1
  have hr2 := hide hr1.step
  have ht2 := hide (ht1.trans (Tch.set w.heap.size b 1 w1 (.int .i64 ((k : Int) + 1))))
  go_wp2_with fail
  go_ret2
  exact ⟨rfl, unhide hr2, unhide ht2⟩

theorem or16_nat : ∀ a : Fin 16, ∀ b : Fin 16, bits BinOp.or IntKind.u8 (((a.val : Nat) : Int) * 16) ((b.val : Nat) : Int) = ((a.val : Nat) : Int) * 16 + ((b.val : Nat) : Int) := by decide +kernel
theorem or16 (x y : Int) (h0 : 0 ≤ x) (h1 : x ≤ 15) (h2 : 0 ≤ y) (h3 : y ≤ 15) : bits BinOp.or IntKind.u8 (x * 16) y = x * 16 + y := by
  have h := or16_nat ⟨x.toNat, by omega⟩ ⟨y.toNat, by omega⟩
  simp only at h
  rw [Int.toNat_of_nonneg h0, Int.toNat_of_nonneg h2] at h
  exact h

set_option maxRecDepth 100000 in
set_option maxHeartbeats 2000000 in
theorem escaped_rest (b : Nat) (t : TypeId) (s : ByteArray) (k : Nat) (rest : List Value) (w : World) (h : Rd w b t s k rest) (hk : k ≤ s.size) (hs : s.size ≤ 1048576) (hp : ¬ (J.peek s k = 34 ∨ J.peek s k = 92 ∨ J.peek s k = 47)) :
    Calls Tryz.prog 115 #[.pointer (some ⟨b, 0, none⟩)] w fun e w' => ByteLeft b t s rest (J.escR s k) e w' ∧ Tch w.heap.size b w w' := by
  have HP := hide (peek_any b t s k rest w h hk hs)
  have HEW := hide (fun m => J.escR_word (s := s) (k := k) (m := m) hp)
  have HEU := hide (fun m => J.escR_u (s := s) (k := k) (m := m) hp)
  generalize hc : J.peek s k = c at hp HP
  have e1 : (c == 34) = false := by simp; omega
  have e2 : (c == 92) = false := by simp; omega
  have e3 : (c == 47) = false := by simp; omega
  clear hp hc
  go_enter Tryz.func115, Tryz.ntmps115
  go_wp2_with fail
  refine (unhide HP).mono ?_
  rintro e w1 ⟨rfl, q, hw1⟩
  have hr1 : Rd w1 b t s k rest := by rw [hw1]; exact h.drewN q
  have ht1 : Tch w.heap.size b w w1 := by rw [hw1]; exact (Tch.refl _ _ _).drewN q
  clear hw1 HP h
  go_wp2_with fail
  refine (word_any b t s k rest _ hr1 hk hs ⟨#[117, 48, 48]⟩ (by decide) (by decide)).mono ?_
  rintro e w2 ⟨hleft, ht2⟩
  have ht3 := ht1.trans (ht2.mono ht1.size)
  clear ht1 ht2 hr1
  rcases hleft with ⟨m, hm, hms, rfl, hr2⟩ | ⟨m, hm, hms, rfl, hr2⟩
  · obtain ⟨rfl, he⟩ := (unhide HEU) m hm
    have HE := hide he
    clear he hm HEW HEU
    have q1 := hr2.cell 1
    simp only [List.getElem?_cons_zero, List.getElem?_cons_succ] at q1
    go_wp2_with fail
    refine (hexDigit_any b t s (k + 3) rest _ hr2 hms hs).mono ?_
    rintro e w3 ⟨hleft, ht4⟩
    have ht5 := ht3.trans (ht4.mono ht3.size)
    clear ht3 ht4 hr2 q1
    have hb1 := J.hexI_bd (J.peek s (k + 3))
    have hin := hide (J.hexI_in s (k + 3))
    generalize J.hexI (J.peek s (k + 3)) = x at *
    rcases hleft with ⟨hx, rfl, hr3⟩ | ⟨hx, rfl, hr3⟩
    · have hlt3 := (unhide hin) hx
      rw [if_neg (by omega)] at HE
      go_wp2_with fail
      refine (hexDigit_any b t s (k + 3 + 1) rest _ hr3 (by omega) hs).mono ?_
      rintro e w4 ⟨hleft, ht6⟩
      have ht7 := ht5.trans (ht6.mono ht5.size)
      clear ht5 ht6 hr3
      have hb2 := J.hexI_bd (J.peek s (k + 3 + 1))
      have hin2 := hide (J.hexI_in s (k + 3 + 1))
      have hk4 : k + 3 + 1 = k + 4 := rfl
      rw [hk4] at *
      generalize J.hexI (J.peek s (k + 4)) = y at *
      rcases hleft with ⟨hy, rfl, hr4⟩ | ⟨hy, rfl, hr4⟩
      · have hlt4 := (unhide hin2) hy
        rw [if_neg (by omega)] at HE
        have hor := or16 x y hx hb1.2 hy hb2.2
        have hxy : 16 * x + y = x * 16 + y := by omega
        rw [hxy] at HE
        clear hxy
        have hv0 : 0 ≤ x * 16 + y := by omega
        have hv1 : x * 16 + y ≤ 255 := by omega
        clear hin hin2
        generalize hv : x * 16 + y = v at *
        clear hv
        by_cases h1 : v < 32
        · rw [if_pos (.inl h1)] at HE
          go_wp2_with fail
          go_ret2
          exact ⟨.inr ⟨5, k + 3, k + 5, unhide HE, rfl, by omega, hr4⟩, ht7⟩
        by_cases h2 : 126 < v
        · rw [if_pos (.inr h2)] at HE
          go_wp2_with fail
          go_ret2
          exact ⟨.inr ⟨5, k + 3, k + 5, unhide HE, rfl, by omega, hr4⟩, ht7⟩
        · rw [if_neg (by omega)] at HE
          go_wp2_with fail
          go_ret2
          exact ⟨.inl ⟨v, k + 5, unhide HE, rfl, hr4⟩, ht7⟩
      · rw [if_pos hy] at HE
        go_wp2_with fail
        go_ret2
        exact ⟨.inr ⟨5, k + 4, k + 4, unhide HE, rfl, by omega, hr4⟩, ht7⟩
    · rw [if_pos hx] at HE
      go_wp2_with fail
      go_ret2
      exact ⟨.inr ⟨5, k + 3, k + 3, unhide HE, rfl, hms, hr3⟩, ht5⟩
  · have HE := hide ((unhide HEW) m hm)
    clear hm HEW HEU
    go_wp2_with fail
    go_ret2
    exact ⟨.inr ⟨5, m, m, unhide HE, rfl, hms, hr2⟩, ht3⟩

theorem escaped_any (b : Nat) (t : TypeId) (s : ByteArray) (k : Nat) (rest : List Value) (w : World) (h : Rd w b t s k rest) (hk : k ≤ s.size) (hs : s.size ≤ 1048576) : Calls Tryz.prog 115 #[.pointer (some ⟨b, 0, none⟩)] w fun e w' => ByteLeft b t s rest (J.escR s k) e w' ∧ Tch w.heap.size b w w' := by
  by_cases hp : J.peek s k = 34 ∨ J.peek s k = 92 ∨ J.peek s k = 47
  · have he := J.escR_plain hp
    rcases hp with hp | hp | hp
    · refine (escaped_plain0 b t s k rest w h hk hs hp).mono ?_
      rintro e w' ⟨rfl, hr, ht⟩
      exact ⟨.inl ⟨_, _, he, by rw [hp], hr⟩, ht⟩
    · refine (escaped_plain1 b t s k rest w h hk hs hp).mono ?_
      rintro e w' ⟨rfl, hr, ht⟩
      exact ⟨.inl ⟨_, _, he, by rw [hp], hr⟩, ht⟩
    · refine (escaped_plain2 b t s k rest w h hk hs hp).mono ?_
      rintro e w' ⟨rfl, hr, ht⟩
      exact ⟨.inl ⟨_, _, he, by rw [hp], hr⟩, ht⟩
  · exact escaped_rest b t s k rest w h hk hs hp

set_option maxRecDepth 100000 in
set_option maxHeartbeats 1000000 in
theorem stringByte_any (b : Nat) (t : TypeId) (s : ByteArray) (k : Nat) (rest : List Value) (w : World) (h : Rd w b t s k rest) (hk : k ≤ s.size) (hs : s.size ≤ 1048576) : Calls Tryz.prog 103 #[.pointer (some ⟨b, 0, none⟩)] w fun e w' => ByteLeft b t s rest (J.sbR s k) e w' ∧ Tch w.heap.size b w w' := by
  by_cases hp : J.peek s k = 92
  · have hlt := J.peek_lt s k 92 (by decide) hp
    have HE := hide (show J.sbR s k = J.escR s (k + 1) by unfold J.sbR; rw [if_pos hp])
    go_enter Tryz.func103, Tryz.ntmps103
    go_wp2_with fail
    refine (take_yes b t s k 92 rest _ h hs (by decide) hp).mono ?_
    rintro e w1 ⟨rfl, hr1, ht1⟩
    clear hp h
    go_wp2_with fail
    refine (escaped_any b t s (k + 1) rest _ hr1 (by omega) hs).mono ?_
    rintro e w2 ⟨hleft, ht2⟩
    have ht3 := ht1.trans (ht2.mono ht1.size)
    clear ht1 ht2 hr1
    rcases hleft with ⟨c, m, hm, rfl, hr2⟩ | ⟨c, m, q, hm, rfl, hq, hr2⟩
    · have HM := hide ((unhide HE).trans hm)
      clear hm
      go_wp2_with fail
      go_ret2
      exact ⟨.inl ⟨c, m, unhide HM, rfl, hr2⟩, ht3⟩
    · have HM := hide ((unhide HE).trans hm)
      clear hm
      go_wp2_with fail
      go_ret2
      exact ⟨.inr ⟨c, m, q, unhide HM, rfl, hq, hr2⟩, ht3⟩
  · have HE := hide (show J.sbR s k = if J.peek s k < 32 ∨ 126 < J.peek s k then .inl (5, k) else .inr (J.peek s k, k + 1) by unfold J.sbR; rw [if_neg hp])
    have hbd := J.peek_bd s k
    have hpl := hide (fun (hc : 0 < J.peek s k) => J.peek_lt s k (J.peek s k) hc rfl)
    have HTK := hide (take_no b t s k 92 rest w h hk hs hp)
    go_enter Tryz.func103, Tryz.ntmps103
    go_wp2_with fail
    refine (unhide HTK).mono ?_
    rintro e w0 ⟨rfl, q0, hw0⟩
    have hr0 : Rd w0 b t s k rest := by rw [hw0]; exact h.drewN q0
    have ht0 : Tch w.heap.size b w w0 := by rw [hw0]; exact (Tch.refl _ _ _).drewN q0
    clear hw0 h HTK hp
    go_wp2_with fail
    refine (peek_any b t s k rest _ hr0 hk hs).mono ?_
    rintro e w1 ⟨rfl, q, hw1⟩
    have hr1 : Rd w1 b t s k rest := by rw [hw1]; exact hr0.drewN q
    have ht1 : Tch w.heap.size b w w1 := by rw [hw1]; exact ht0.drewN q
    clear hw1 hr0 ht0
    generalize J.peek s k = c at *
    by_cases h1 : c < 32
    · rw [if_pos (.inl h1)] at HE
      go_wp2_with fail
      refine (stuck_any b t s k rest _ hr1).mono ?_
      rintro e w4 ⟨rfl, hr4, ht4⟩
      have ht5 := ht1.trans (ht4.mono ht1.size)
      clear ht1 ht4 hr1
      go_wp2_with fail
      go_ret2
      exact ⟨.inr ⟨5, k, k, unhide HE, rfl, hk, hr4⟩, ht5⟩
    by_cases h2 : 126 < c
    · rw [if_pos (.inr h2)] at HE
      go_wp2_with fail
      refine (stuck_any b t s k rest _ hr1).mono ?_
      rintro e w4 ⟨rfl, hr4, ht4⟩
      have ht5 := ht1.trans (ht4.mono ht1.size)
      clear ht1 ht4 hr1
      go_wp2_with fail
      go_ret2
      exact ⟨.inr ⟨5, k, k, unhide HE, rfl, hk, hr4⟩, ht5⟩
    · rw [if_neg (by omega)] at HE
      have hlt := (unhide hpl) (by omega)
      have q1 := hr1.cell 1
      have z1 := hr1.frozen 1
      simp only [List.getElem?_cons_zero, List.getElem?_cons_succ] at q1
      have hr2 := hide hr1.step
      have ht2 := hide (ht1.trans (Tch.set w.heap.size b 1 w1 (.int .i64 ((k : Int) + 1))))
      clear hpl
      go_wp2_with fail
      go_ret2
      exact ⟨.inl ⟨c, k + 1, unhide HE, rfl, unhide hr2⟩, unhide ht2⟩

end Go.Proofs.YtikeffckhklhbaaGreatDoor
