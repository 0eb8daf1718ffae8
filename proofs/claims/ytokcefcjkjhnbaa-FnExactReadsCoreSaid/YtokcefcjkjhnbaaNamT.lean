/-
  Names: spec.IsName and impl.IsName.
-/
import Derived.Test.YtokcefcjkjhnbaaNamM
import Derived.Test.YtokcefcjkjhnbaaMem
namespace Go.Proofs.Ytokcefcjkjhnbaa
open Go.RowKit
set_option linter.unusedVariables false
set_option linter.unusedSimpArgs false

theorem letC_low {c : Int} (h : c < 97) (h2 : c ≠ 95) : J.letC c = false := by unfold J.letC; rw [Bool.or_eq_false_iff, Bool.and_eq_false_iff]; exact ⟨.inl (decide_eq_false (by omega)), by simpa using h2⟩
theorem letC_high {c : Int} (h : 122 < c) : J.letC c = false := by unfold J.letC; rw [Bool.or_eq_false_iff, Bool.and_eq_false_iff]; exact ⟨.inr (decide_eq_false (by omega)), by simp; omega⟩
theorem letC_in {c : Int} (h : 97 ≤ c) (h2 : c ≤ 122) : J.letC c = true := by unfold J.letC; rw [decide_eq_true h, decide_eq_true h2]; rfl
theorem letC_line : J.letC 95 = true := rfl
theorem digC_in {c : Int} (h : 48 ≤ c) (h2 : c ≤ 57) : J.digC c = true := by unfold J.digC; rw [decide_eq_true h, decide_eq_true h2]; rfl
theorem digC_low {c : Int} (h : c < 48) : J.digC c = false := by unfold J.digC; rw [Bool.and_eq_false_iff]; exact .inl (decide_eq_false (by omega))
theorem digC_high {c : Int} (h : 57 < c) : J.digC c = false := by unfold J.digC; rw [Bool.and_eq_false_iff]; exact .inr (decide_eq_false (by omega))
theorem okC_let {k : Nat} {c : Int} (h : J.letC c = true) : J.okC k c = true := by unfold J.okC; rw [h]; rfl
theorem okC_zero {c : Int} (h : J.letC c = false) : J.okC 0 c = false := by unfold J.okC; rw [h]; rfl
theorem okC_rest {k : Nat} {c : Int} (h : J.letC c = false) (hk : k ≠ 0) : J.okC k c = J.digC c := by unfold J.okC; rw [h]; simp [hk]

set_option maxHeartbeats 1000000 in
theorem l4Letter_any (c : Int) (w : World) : Calls Try.prog 150 #[.int .u8 c] w fun e w' => e = .returned (.bool (J.letC c)) ∧ w' = w := by
  by_cases h1 : c < 97
  · by_cases h2 : c = 95
    · subst h2
      go_enter Try.func150, Try.ntmps150
      go_wp2_with fail
      go_ret
      exact ⟨rfl, rfl⟩
    · have e := letC_low h1 h2
      have h3 : ¬ 97 ≤ c := by omega
      rw [e]
      go_enter Try.func150, Try.ntmps150
      go_wp2_with fail
      go_ret
      exact ⟨ret_bool (by simpa using h2), rfl⟩
  · by_cases h2 : c ≤ 122
    · have e := letC_in (by omega) h2
      have h3 : 97 ≤ c := by omega
      rw [e]
      go_enter Try.func150, Try.ntmps150
      go_wp2_with fail
      go_ret
      exact ⟨rfl, rfl⟩
    · have e := letC_high (show 122 < c by omega)
      have h3 : 97 ≤ c := by omega
      have h4 : c ≠ 95 := by omega
      rw [e]
      go_enter Try.func150, Try.ntmps150
      go_wp2_with fail
      go_ret
      exact ⟨ret_bool (by simpa using h4), rfl⟩

set_option maxHeartbeats 1000000 in
theorem l2Digit_nam (c : Int) (w : World) : Calls Try.prog 165 #[.int .u8 c] w fun e w' => e = .returned (.bool (J.digC c)) ∧ w' = w := by
  by_cases h1 : c < 48
  · have e := digC_low h1
    have h3 : ¬ 48 ≤ c := by omega
    rw [e]
    go_enter Try.func165, Try.ntmps165
    go_wp2_with fail
    go_ret
    exact ⟨rfl, rfl⟩
  · by_cases h2 : c ≤ 57
    · have e := digC_in (by omega) h2
      have h3 : 48 ≤ c := by omega
      rw [e]
      go_enter Try.func165, Try.ntmps165
      go_wp2_with fail
      go_ret
      exact ⟨ret_bool (by first | rfl | (simp [h2])), rfl⟩
    · have e := digC_high (show 57 < c by omega)
      have h3 : 48 ≤ c := by omega
      rw [e]
      go_enter Try.func165, Try.ntmps165
      go_wp2_with fail
      go_ret
      exact ⟨ret_bool (by first | rfl | (simp; omega)), rfl⟩

set_option maxHeartbeats 1000000 in
theorem l4Rest_any (c : Int) (w : World) : Calls Try.prog 151 #[.int .u8 c] w fun e w' => e = .returned (.bool (J.letC c || J.digC c)) ∧ w' = w := by
  cases h : J.letC c with
  | true =>
    go_enter Try.func151, Try.ntmps151
    go_wp2_with fail
    refine (l4Letter_any _ _).mono ?_
    rintro e w1 ⟨rfl, rfl⟩
    rw [h]
    go_wp2_with fail
    go_ret
    exact ⟨rfl, rfl⟩
  | false =>
    go_enter Try.func151, Try.ntmps151
    go_wp2_with fail
    refine (l4Letter_any _ _).mono ?_
    rintro e w1 ⟨rfl, rfl⟩
    rw [h]
    go_wp2_with fail
    refine (l2Digit_nam _ _).mono ?_
    rintro e w1 ⟨rfl, rfl⟩
    go_wp2_with fail
    go_ret
    exact ⟨rfl, rfl⟩

set_option maxHeartbeats 2000000 in
theorem specIsName_any (s : ByteArray) (w : World) (hs : s.size ≤ 1048576) : Calls Try.prog 119 #[.string s] w fun e w' => e = .returned (.bool (J.isName s)) ∧ w' = w := by
  by_cases h1 : s.size < 1
  · rw [J.isName_long (.inl h1)]
    have h1z : (s.size : Int) < 1 := by omega
    go_enter Try.func119, Try.ntmps119
    go_wp2_with fail
    go_ret
    exact ⟨rfl, rfl⟩
  by_cases h2 : 12 < s.size
  · rw [J.isName_long (.inr h2)]
    have h1z : ¬ (s.size : Int) < 1 := by omega
    have h2z : (s.size : Int) > 12 := by omega
    go_enter Try.func119, Try.ntmps119
    go_wp2_with fail
    go_ret
    exact ⟨rfl, rfl⟩
  have h1z : ¬ (s.size : Int) < 1 := by omega
  have h2z : ¬ (s.size : Int) > 12 := by omega
  have h0 : 0 < s.size := by omega
  have h0z : (0 : Int) < (s.size : Int) := by omega
  cases hl : J.letC (s[0].toNat : Int) with
  | false =>
    rw [J.isName_stop h0 rfl (J.nrun_stop s 0 h0 (okC_zero hl))]
    go_enter Try.func119, Try.ntmps119
    go_wp2_with fail
    refine (l4Letter_any (s[0].toNat : Int) _).mono ?_
    rintro e w1 ⟨rfl, rfl⟩
    rw [hl]
    go_wp2_with fail
    go_ret
    exact ⟨rfl, rfl⟩
  | true =>
    have HG := hide (J.nrun_go s 0 h0 (okC_let hl)).symm
    go_enter Try.func119, Try.ntmps119
    go_wp2_with fail
    refine (l4Letter_any (s[0].toNat : Int) _).mono ?_
    rintro e w1 ⟨rfl, rfl⟩
    rw [hl]
    go_wp2_with fail
    go_loopg [3] (s.size - 1) (fun gh s3 wr => ∃ j : Nat, Hid (gh = s.size - j) ∧ s3 = .int .i64 j ∧ 0 < j ∧ j ≤ s.size ∧ Hid (J.nrun s j = J.nrun s 0) ∧ Hid (wr = w1))
    case atStart => exact ⟨1, (rfl : s.size - 1 = s.size - 1), rfl, by omega, by omega, unhide HG, rfl⟩
    case round =>
      obtain ⟨j, hg, rfl, hj0, hj, hrun, hw⟩ := hrel
      by_cases hlt : j < s.size
      · have hltz : (j : Int) < (s.size : Int) := by omega
        cases ho : (J.letC (s[j].toNat : Int) || J.digC (s[j].toNat : Int)) with
        | true =>
          have ho2 : J.okC j (s[j].toNat : Int) = true := by
            unfold J.okC
            rw [show (j != 0) = true by simp; omega]
            simpa using ho
          have hr2 := hide ((J.nrun_go s j hlt ho2).symm.trans hrun.out)
          go_wp2_with fail
          refine (l4Rest_any (s[j].toNat : Int) _).mono ?_
          rintro e w2 ⟨rfl, rfl⟩
          rw [ho]
          go_wp2_with fail
          go_roundg (s.size - (j + 1))
          case rel => exact ⟨j + 1, rfl, by go_num, by omega, by omega, unhide hr2, hw⟩
          case measure => have := hg.out; omega
        | false =>
          have ho2 : J.okC j (s[j].toNat : Int) = false := by
            unfold J.okC
            rw [show (j != 0) = true by simp; omega]
            simpa using ho
          have fin := hide (J.isName_stop hlt hrun.out (J.nrun_stop s j hlt ho2))
          go_wp2_with fail
          refine (l4Rest_any (s[j].toNat : Int) _).mono ?_
          rintro e w2 ⟨rfl, rfl⟩
          rw [ho]
          go_wp2_with fail
          go_ret
          exact ⟨ret_bool (unhide fin).symm, hw⟩
      · have hltz : ¬ (j : Int) < (s.size : Int) := by omega
        have hje : j = s.size := by omega
        have fin := hide (J.isName_all (s := s) (by omega) (by omega) (by rw [← hje]; exact hrun.out))
        go_wp2_with fail
        go_ret
        exact ⟨ret_bool (unhide fin).symm, hw⟩

set_option maxHeartbeats 2000000 in
theorem nameRun_any (s : ByteArray) (w : World) (hs : s.size ≤ 1048576) : Calls Try.prog 153 #[.string s] w fun e w' => e = .returned (.int .i64 (J.nrun s 0)) ∧ Below w.heap.size w w' := by
  have HB : Hid (∀ p, Below w.heap.size w (w.iter s p)) := fun p => (Below.refl _ _).alloc (Nat.le_refl _) _
  go_enter Try.func153, Try.ntmps153
  go_wp2_with fail
  go_loopg [] s.size (fun gh wr => ∃ pos : Nat, Hid (gh = s.size - pos) ∧ pos ≤ s.size ∧ wr = w.iter s pos ∧ Hid (J.nrun s pos = J.nrun s 0))
  case atStart => exact ⟨0, rfl, by omega, rfl, rfl⟩
  case round =>
    obtain ⟨pos, hg, hle, rfl, hrun⟩ := hrel
    by_cases hp : pos < s.size
    · by_cases ha : (s[pos]'hp).toNat < 128
      · have hnx : ∀ ty, (Instr.next (.pointer (some ⟨w.heap.size, 0, none⟩)) true ty).run Try.prog (w.iter s pos) = _ := fun ty => run_next_ascii w s pos ty hp ha
        have HGO := hide (fun h => (J.nrun_go s pos hp h).symm.trans hrun.out)
        have HST := hide (fun h => (J.nrun_stop s pos hp h).symm.trans hrun.out)
        clear ha
        generalize ((s[pos]'hp).toNat : Int) = c at *
        by_cases c1 : c < 97
        · by_cases c2 : c = 95
          · have hr2 := hide ((unhide HGO) (by rw [c2]; exact okC_let letC_line))
            subst c2
            clear HGO HST
            go_wp2_with fail
            go_roundg (s.size - (pos + 1))
            case rel => exact ⟨pos + 1, rfl, by omega, rfl, unhide hr2⟩
            case measure => have := hg.out; omega
          · have c3 : ¬ 97 ≤ c := by omega
            have c4 : (c == 95) = false := by simpa using c2
            by_cases hz : pos = 0
            · have fin := hide ((unhide HST) (by rw [hz]; exact okC_zero (letC_low c1 c2)))
              subst hz
              clear HGO HST
              go_wp2_with fail
              all_goals (go_ret; exact ⟨ret_int (by have := unhide fin; omega), HB.out _⟩)
            · have hz1 : ((pos : Int) == 0) = false := by simp; omega
              have hz2 : ¬ (pos : Int) = 0 := by omega
              by_cases d1 : 48 ≤ c
              · by_cases d2 : c ≤ 57
                · have hr2 := hide ((unhide HGO) (by rw [okC_rest (letC_low c1 c2) hz]; exact digC_in d1 d2))
                  clear HGO HST
                  go_wp2_with fail
                  go_roundg (s.size - (pos + 1))
                  case rel => exact ⟨pos + 1, rfl, by omega, rfl, unhide hr2⟩
                  case measure => have := hg.out; omega
                · have fin := hide ((unhide HST) (by rw [okC_rest (letC_low c1 c2) hz]; exact digC_high (by omega)))
                  clear HGO HST
                  go_wp2_with fail
                  all_goals (go_ret; exact ⟨ret_int (by have := unhide fin; omega), HB.out _⟩)
              · have fin := hide ((unhide HST) (by rw [okC_rest (letC_low c1 c2) hz]; exact digC_low (by omega)))
                clear HGO HST
                go_wp2_with fail
                all_goals (go_ret; exact ⟨ret_int (by have := unhide fin; omega), HB.out _⟩)
        · have c3 : 97 ≤ c := by omega
          by_cases c2 : c ≤ 122
          · have hr2 := hide ((unhide HGO) (okC_let (letC_in c3 c2)))
            clear HGO HST
            go_wp2_with fail
            go_roundg (s.size - (pos + 1))
            case rel => exact ⟨pos + 1, rfl, by omega, rfl, unhide hr2⟩
            case measure => have := hg.out; omega
          · have fin := hide ((unhide HST) (by
              by_cases hz : pos = 0
              · rw [hz]; exact okC_zero (letC_high (by omega))
              · rw [okC_rest (letC_high (by omega)) hz]; exact digC_high (by omega)))
            have c4 : (c == 95) = false := by simp; omega
            have c5 : ¬ c ≤ 57 := by omega
            have c6 : 48 ≤ c := by omega
            clear HGO HST
            by_cases hz : pos = 0
            · subst hz
              go_wp2_with fail
              all_goals (go_ret; exact ⟨ret_int (by have := unhide fin; omega), HB.out _⟩)
            · have hz1 : ((pos : Int) == 0) = false := by simp; omega
              go_wp2_with fail
              all_goals (go_ret; exact ⟨ret_int (by have := unhide fin; omega), HB.out _⟩)
      · have hnx : ∀ ty, (Instr.next (.pointer (some ⟨w.heap.size, 0, none⟩)) true ty).run Try.prog (w.iter s pos) = _ := fun ty => run_next_any w s pos ty hp
        have hhi := (decode_high s pos hp (by omega)).1
        have hq : J.okC pos ((s[pos]'hp).toNat : Int) = false := by
          by_cases hz : pos = 0
          · subst hz; exact okC_zero (letC_high (by omega))
          · rw [okC_rest (letC_high (by omega)) hz]; exact digC_high (by omega)
        have fin := hide ((J.nrun_stop s pos hp hq).symm.trans hrun.out)
        clear ha hq
        generalize (Utf8.decode s pos).2 = wd at *
        generalize (Utf8.decode s pos).1 = r at *
        have c3 : 97 ≤ (r : Int) := by omega
        have c2 : ¬ (r : Int) ≤ 122 := by omega
        have c4 : ((r : Int) == 95) = false := by simp; omega
        have c5 : ¬ (r : Int) ≤ 57 := by omega
        have c6 : 48 ≤ (r : Int) := by omega
        by_cases hz : pos = 0
        · subst hz
          go_wp2_with fail
          all_goals (go_ret; exact ⟨ret_int (by have := unhide fin; omega), HB.out _⟩)
        · have hz1 : ((pos : Int) == 0) = false := by simp; omega
          go_wp2_with fail
          all_goals (go_ret; exact ⟨ret_int (by have := unhide fin; omega), HB.out _⟩)
    · have hnx : ∀ ty, (Instr.next (.pointer (some ⟨w.heap.size, 0, none⟩)) true ty).run Try.prog (w.iter s pos) = _ := fun ty => run_next_end w s pos ty hp
      have hpe : pos = s.size := by omega
      have fin := hide ((J.nrun_end s pos (by omega)).symm.trans hrun.out)
      subst hpe
      go_wp2_with fail
      all_goals (go_ret; exact ⟨ret_int (by have := unhide fin; omega), HB.out _⟩)

set_option maxHeartbeats 1000000 in
theorem implIsName_any (s : ByteArray) (w : World) (hs : s.size ≤ 1048576) : Calls Try.prog 123 #[.string s] w fun e w' => e = .returned (.bool (J.isName s)) ∧ Below w.heap.size w w' := by
  have hle := (J.nrun_le s 0 (by omega)).2
  unfold J.isName
  have HN := hide (nameRun_any s w hs)
  generalize J.nrun s 0 = n at *
  by_cases h1 : 0 < n
  · have h1z : (0 : Int) < (n : Int) := by omega
    by_cases h2 : n ≤ 12
    · have h2z : (n : Int) ≤ 12 := by omega
      go_enter Try.func123, Try.ntmps123
      go_wp2_with fail
      refine (unhide HN).mono ?_
      rintro e w1 ⟨rfl, hb1⟩
      go_wp2_with fail
      go_ret
      exact ⟨ret_bool (by rw [decide_eq_true h1, decide_eq_true h2, Bool.true_and, Bool.true_and, Bool.eq_iff_iff, beq_iff_eq, beq_iff_eq]; omega), hb1⟩
    · have h2z : ¬ (n : Int) ≤ 12 := by omega
      go_enter Try.func123, Try.ntmps123
      go_wp2_with fail
      refine (unhide HN).mono ?_
      rintro e w1 ⟨rfl, hb1⟩
      go_wp2_with fail
      go_ret
      exact ⟨ret_bool (by first | (simp [h2]; done) | (rw [decide_eq_false h2]; simp)), hb1⟩
  · have h1z : ¬ (0 : Int) < (n : Int) := by omega
    go_enter Try.func123, Try.ntmps123
    go_wp2_with fail
    refine (unhide HN).mono ?_
    rintro e w1 ⟨rfl, hb1⟩
    go_wp2_with fail
    go_ret
    exact ⟨ret_bool (by first | (simp [h1]; done) | (rw [decide_eq_false h1]; simp)), hb1⟩

end Go.Proofs.Ytokcefcjkjhnbaa
