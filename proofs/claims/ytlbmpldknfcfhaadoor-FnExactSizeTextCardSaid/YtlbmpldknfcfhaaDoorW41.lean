/-
  spec.l2Decimal and spec.l2Encode: the text of a value.
-/
import Derived.Test.YtlbmpldknfcfhaaDoorW17
import Derived.Test.YtlbmpldknfcfhaaDoorW39
import Derived.Test.YtlbmpldknfcfhaaDoorW40
namespace Go.Proofs.YtlbmpldknfcfhaaDoor
open Go.RowKit
set_option linter.unusedVariables false
set_option linter.unusedSimpArgs false

theorem decDigits_le (u : Nat) (hu : u ≤ 1000000000000000) : (Lib.decDigits u).length ≤ 21 := by
  have h := Lib.itoa_length_le (u : Int) (by omega) (by omega)
  unfold Lib.itoa at h
  rw [if_neg (by omega)] at h
  simpa using h

set_option maxRecDepth 100000 in
set_option maxHeartbeats 2000000 in
theorem l2Decimal_any (n : Int) (h0 : -1000000000000000 ≤ n) (h1 : n ≤ 1000000000000000) (w : World) :
    Calls Tryd.prog 43 #[.int .i64 n] w fun e w' => e = .returned (.string (J.bytes (Lib.itoa n))) ∧ Below w.heap.size w w' := by
  by_cases hz : n < 0
  · obtain ⟨u, hu, hu2⟩ : ∃ u : Nat, n = -(u : Int) ∧ 1 ≤ u := ⟨n.natAbs, by omega, by omega⟩
    have HD := hide (l2Digits_any u (by omega))
    have hl := decDigits_le u (by omega)
    have e : Lib.itoa n = 45 :: Lib.decDigits u := by unfold Lib.itoa; rw [if_pos hz]; congr 2; omega
    have fin : Hid (({ data := #[45] } : ByteArray) ++ ⟨(Lib.decDigits u).toArray⟩ = J.bytes (Lib.itoa n)) := by
      show _ = _
      rw [e]
      exact J.bytes_append [45] (Lib.decDigits u)
    have hsz : (⟨(Lib.decDigits u).toArray⟩ : ByteArray).size ≤ 21 := by simpa [ByteArray.size] using hl
    clear e hl
    have hneg : -n = (u : Int) := by omega
    generalize (⟨(Lib.decDigits u).toArray⟩ : ByteArray) = D at *
    generalize J.bytes (Lib.itoa n) = R at *
    clear hu
    go_enter Tryd.func43, Tryd.ntmps43
    go_wp2_with fail
    refine ((unhide HD) _).mono ?_
    rintro e w1 ⟨rfl, hb1⟩
    go_wp2_with fail
    go_ret
    exact ⟨ret_string fin.out, hb1⟩
  · obtain ⟨u, rfl⟩ : ∃ u : Nat, n = (u : Int) := ⟨n.toNat, by omega⟩
    have HD := hide (l2Digits_any u (by omega))
    have fin : Hid ((⟨(Lib.decDigits u).toArray⟩ : ByteArray) = J.bytes (Lib.itoa u)) := by
      show _ = _
      unfold Lib.itoa; rw [if_neg hz, Int.toNat_natCast]; rfl
    go_enter Tryd.func43, Tryd.ntmps43
    go_wp2_with fail
    refine ((unhide HD) _).mono ?_
    rintro e w1 ⟨rfl, hb1⟩
    go_wp2_with fail
    go_ret
    exact ⟨ret_string fin.out, hb1⟩

end Go.Proofs.YtlbmpldknfcfhaaDoor
