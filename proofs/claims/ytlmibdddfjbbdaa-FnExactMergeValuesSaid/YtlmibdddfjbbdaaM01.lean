/-
  The small functions of chapter 1 over one text and one cell, of the program and of its model: each returns what the plain function of the same question says.
-/
import Derived.Test.YtlmibdddfjbbdaaM00
import Derived.Test.YtlmibdddfjbbdaaRows
import Derived.WalkKit
import Derived.WalkLawsBesides
import Derived.WalkSpells
namespace Go.Proofs.Ytlmibdddfjbbdaa
open Go.RowKit

theorem ret_bool {a b : Bool} (h : a = b) : Ending.returned (.bool a) = .returned (.bool b) := by rw [h]
theorem ret_int {k : IntKind} {a b : Int} (h : a = b) : Ending.returned (.int k a) = .returned (.int k b) := by rw [h]

theorem take_snoc (s : ByteArray) (k : Nat) (h : k < s.size) : s.data.toList.take (k + 1) = s.data.toList.take k ++ [s[k]] := by
  rw [List.take_succ_eq_append_getElem (by simpa using h)]; rfl

theorem all_snoc (s : ByteArray) (k : Nat) (h : k < s.size) : (s.data.toList.take (k + 1)).all M.byteOk = ((s.data.toList.take k).all M.byteOk && M.byteOk s[k]) := by
  rw [take_snoc s k h]; simp

theorem all_stop (s : ByteArray) (k : Nat) (h : k < s.size) (hb : M.byteOk s[k] = false) : M.textOk s = false := by
  have : s.data.toList.all M.byteOk = false := by
    rw [List.all_eq_false]
    refine ⟨s[k], ?_, by simp [hb]⟩
    have hk : k < s.data.toList.length := by simpa using h
    have : s.data.toList[k] = s[k] := rfl
    rw [← this]
    exact List.getElem_mem hk
  simp [M.textOk, this]

theorem all_end (s : ByteArray) (k : Nat) (hk : k = s.size) (hs : s.size ≤ 60) (h : (s.data.toList.take k).all M.byteOk = true) : M.textOk s = true := by
  subst hk
  rw [List.take_of_length_le (by simp)] at h
  simp [M.textOk, hs, h]

theorem long_no (s : ByteArray) (h : 60 < s.size) : M.textOk s = false := by
  simp [M.textOk]; omega

set_option maxHeartbeats 400000 in
/-- spec.l1Text. -/
theorem l1Text_any (s : ByteArray) (w : World) (hs : s.size ≤ 9223372036854775807) :
    Calls Try.prog 52 #[.string s] w fun e w' => e = .returned (.bool (M.textOk s)) ∧ w' = w := by
  by_cases hlong : 60 < s.size
  · have hn := hide (long_no s hlong)
    go_enter Try.func52, Try.ntmps52
    go_wp2
    go_ret
    exact ⟨ret_bool (unhide hn).symm, rfl⟩
  · have h60 : s.size ≤ 60 := by omega
    go_enter Try.func52, Try.ntmps52
    go_wp2
    go_loop [3] (fun i => ∃ k : Nat, k ≤ s.size ∧ i = .int .i64 k ∧ Hid ((s.data.toList.take k).all M.byteOk = true)) (fun i => s.size - (intOf i).toNat)
    case atStart => exact ⟨0, Nat.zero_le _, rfl, rfl⟩
    case round =>
      obtain ⟨k, hk, rfl, hall⟩ := hrel
      by_cases hlt : k < s.size
      · by_cases h1 : (s[k].toNat : Int) < 32
        · have hn := hide (all_stop s k hlt (by simp [M.byteOk]; omega))
          go_wp2
          go_ret
          exact ⟨ret_bool (unhide hn).symm, rfl⟩
        · by_cases h2 : 126 < (s[k].toNat : Int)
          · have hn := hide (all_stop s k hlt (by simp [M.byteOk]; omega))
            go_wp2
            go_ret
            exact ⟨ret_bool (unhide hn).symm, rfl⟩
          · have hn := hide (all_snoc s k hlt)
            have hb := hide (show M.byteOk s[k] = true by simp [M.byteOk]; omega)
            go_wp2
            go_round
            case rel => exact ⟨k + 1, by omega, by go_num, by show _ = true; rw [unhide hn, hall.out, unhide hb]; rfl⟩
            case measure => simp [intOf]; omega
      · go_wp2
        go_ret
        exact ⟨ret_bool (all_end s k (by omega) h60 hall.out).symm, rfl⟩

set_option maxHeartbeats 400000 in
/-- impl.textFits. -/
theorem textFits_any (s : ByteArray) (w : World) (hs : s.size ≤ 9223372036854775807) :
    Calls Try.prog 55 #[.string s] w fun e w' => e = .returned (.bool (M.textOk s)) ∧ w' = w := by
  by_cases hlong : 60 < s.size
  · have hn := hide (long_no s hlong)
    go_enter Try.func55, Try.ntmps55
    go_wp2
    go_ret
    exact ⟨ret_bool (unhide hn).symm, rfl⟩
  · have h60 : s.size ≤ 60 := by omega
    go_enter Try.func55, Try.ntmps55
    go_wp2
    go_loop [9] (fun i => ∃ k : Nat, k ≤ s.size ∧ i = .int .i64 k ∧ Hid ((s.data.toList.take k).all M.byteOk = true)) (fun i => s.size - (intOf i).toNat)
    case atStart => exact ⟨0, Nat.zero_le _, rfl, rfl⟩
    case round =>
      obtain ⟨k, hk, rfl, hall⟩ := hrel
      by_cases hlt : k < s.size
      · by_cases h1 : (s[k].toNat : Int) < 32
        · have hn := hide (all_stop s k hlt (by simp [M.byteOk]; omega))
          go_wp2
          go_ret
          exact ⟨ret_bool (unhide hn).symm, rfl⟩
        · by_cases h2 : 126 < (s[k].toNat : Int)
          · have hn := hide (all_stop s k hlt (by simp [M.byteOk]; omega))
            go_wp2
            go_ret
            exact ⟨ret_bool (unhide hn).symm, rfl⟩
          · have hn := hide (all_snoc s k hlt)
            have hb := hide (show M.byteOk s[k] = true by simp [M.byteOk]; omega)
            go_wp2
            go_round
            case rel => exact ⟨k + 1, by omega, by go_num, by show _ = true; rw [unhide hn, hall.out, unhide hb]; rfl⟩
            case measure => simp [intOf]; omega
      · go_wp2
        go_ret
        exact ⟨ret_bool (all_end s k (by omega) h60 hall.out).symm, rfl⟩

end Go.Proofs.Ytlmibdddfjbbdaa
