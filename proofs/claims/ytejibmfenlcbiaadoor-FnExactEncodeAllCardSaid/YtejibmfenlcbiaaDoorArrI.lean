/-
  impl.ArrayValue.
-/
import Derived.Test.YtejibmfenlcbiaaDoorArrS
namespace Go.Proofs.YtejibmfenlcbiaaDoor
open Go.RowKit
set_option linter.unusedVariables false

set_option maxHeartbeats 1000000 in
theorem firstFault_any (g : Nat) (ps : List (List M.Cl)) (w : World) (hL : LR w g ps) (hn : ps.length ≤ 1048576) (hln : tot ps ps.length ≤ 1048576) (hok : OkS ps) :
    Calls Tryd.prog 14 #[.slice (some ⟨g, 0, none⟩) ps.length ps.length] w fun e w' => e = .returned (.int .i64 (firstBad ps)) ∧ Below w.heap.size w w' := by
  have HL := hide hL
  have OK := hide hok
  have HN := hide hln
  clear hL hok hln
  go_enter Tryd.func14, Tryd.ntmps14
  go_wp2_with fail
  go_loopg [8] ps.length (fun gh s8 wr => ∃ k : Nat, Hid (gh = ps.length - k) ∧ s8 = .int .i64 k ∧ k ≤ ps.length ∧ Hid (∀ j, j < k → M.valueFault (ps.getD j []) = 0) ∧ Below w.heap.size w wr)
  case atStart => exact ⟨0, rfl, rfl, by omega, fun j hj => absurd hj (by omega), Below.refl _ _⟩
  case round =>
    obtain ⟨k, hg, rfl, hk, hall, hbel⟩ := hrel
    by_cases hlt : k < ps.length
    · obtain ⟨b, f0, hb, hr⟩ := ((unhide HL).below hbel).2 k hlt
      have hq := Nat.le_trans (len_le ps k hlt) (unhide HN)
      have hok := hide ((unhide OK) k hlt)
      have hhit := hide (fun hz => firstBad_hit ps k hall.out hlt hz)
      have hnext := hide (fun (h0 : M.valueFault (ps.getD k []) = 0) j (hj : j < k + 1) => show M.valueFault (ps.getD j []) = 0 by
        by_cases e : j = k
        · subst e; exact h0
        · exact hall.out j (by omega))
      generalize ps.getD k [] = p at *
      go_wp2_with fail
      refine (implFault_any p b 0 p.length _ hr hb hq (Nat.le_refl _) (unhide hok)).mono ?_
      rintro e1 w1 ⟨rfl, hb1⟩
      have B1 : Below w.heap.size w w1 := hbel.trans (hb1.mono hbel.size)
      clear hr f0 hok hb1 hbel
      generalize hqq : M.valueFault p = q at *
      by_cases hz : q = 0
      · subst hz
        have hn2 := hide ((unhide hnext) rfl)
        clear hhit hnext
        go_wp2_with fail
        go_roundg (ps.length - (k + 1))
        case rel => exact ⟨k + 1, rfl, by go_num, by omega, unhide hn2, B1⟩
        case measure => have := hg.out; omega
      · have fin := hide ((unhide hhit) hz)
        have hz' : (q == 0) = false := by simp [hz]
        clear hhit hnext hqq
        go_wp2_with fail
        go_ret
        exact ⟨ret_int (unhide fin).symm, B1⟩
    · have hke : k = ps.length := by omega
      have fin := hide (firstBad_none ps (by rw [← hke]; exact hall.out))
      clear hke
      go_wp2_with fail
      go_ret
      exact ⟨ret_int (unhide fin).symm, hbel⟩

end Go.Proofs.YtejibmfenlcbiaaDoor
