/-
  spec.EncodeValue and impl.EncodeValue answer encV.
-/
import Derived.Test.YtlbmpldknfcfhaaDoorW11
import Derived.Test.YtlbmpldknfcfhaaDoorW16
import Derived.Test.YtlbmpldknfcfhaaDoorW25
import Derived.Test.YtlbmpldknfcfhaaDoorW42
namespace Go.Proofs.YtlbmpldknfcfhaaDoor
open Go.RowKit
set_option linter.unusedVariables false
set_option linter.unusedSimpArgs false

theorem l2Encode_all (f : Nat) : EncSays f := by
  induction f with
  | zero =>
    intro A b off cap w hA hAf
    have := (M.fault_zero hA).1
    omega
  | succ f ih =>
    intro A b off cap w hA hAf hr hb hcap hok
    have hl := (M.fault_zero hA).1
    have h200 := (M.fault_zero hA).2.1
    have hc := J.code_text (code_at hA 0 (by omega))
    by_cases k0 : (A.getD 0 M.zero).kind = 0
    · exact l2Encode_0 f A b off cap w hl h200 hr hcap k0
    by_cases k1 : (A.getD 0 M.zero).kind = 1
    · exact l2Encode_1 f A b off cap w hl h200 hr hcap k1
    by_cases k2 : (A.getD 0 M.zero).kind = 2
    · exact l2Encode_2 f A b off cap w hl h200 hr hcap k2
    by_cases k3 : (A.getD 0 M.zero).kind = 3
    · exact l2Encode_3 f A b off cap w hA hl h200 hr hcap k3
    by_cases k4 : (A.getD 0 M.zero).kind = 4
    · exact l2Encode_4 f A b off cap w hA hl h200 hr hcap k4
    by_cases k5 : (A.getD 0 M.zero).kind = 5
    · exact l2Encode_5 f (hide ih) A b off cap w hA hAf hr hb hcap hok k5
    by_cases k6 : (A.getD 0 M.zero).kind = 6
    · exact l2Encode_6 f (hide ih) A b off cap w hA hAf hr hb hcap hok k6
    omega
theorem itoa_ne (n : Int) : Lib.itoa n ≠ [] := by
  unfold Lib.itoa
  split
  · simp
  · intro h
    have h2 := Lib.decDigits_length n.toNat
    rw [h] at h2
    unfold Lib.nDigits at h2
    split at h2 <;> simp at h2
theorem encL_ne (f : Nat) (v : List M.Cl) : J.encL (f + 1) v ≠ [] := by
  rw [J.encL]
  repeat' split
  all_goals (first | exact itoa_ne _ | (unfold J.quote; simp; done) | (intro h; simp at h; done) | simp)
end Go.Proofs.YtlbmpldknfcfhaaDoor
