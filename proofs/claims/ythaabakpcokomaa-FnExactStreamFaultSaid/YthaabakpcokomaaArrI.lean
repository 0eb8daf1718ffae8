/-
  impl.ArrayValue.
-/
import Derived.Test.YthaabakpcokomaaArrS
namespace Go.Proofs.Ythaabakpcokomaa
open Go.RowKit
set_option linter.unusedVariables false

set_option maxHeartbeats 1000000 in
theorem firstFault_any (g : Nat) (ps : List (List M.Cl)) (w : World) (hL : LR w g ps) (hn : ps.length ≤ 1048576) (hln : tot ps ps.length ≤ 1048576) (hok : OkS ps) :
    Calls Try.prog 58 #[.slice (some ⟨g, 0, none⟩) ps.length ps.length] w fun e w' => e = .returned (.int .i64 (firstBad ps)) ∧ Below w.heap.size w w' := by
  have HL := hide hL
  have OK := hide hok
  have HN := hide hln
  clear hL hok hln
  go_enter Try.func58, Try.ntmps58
  go_wp2_with fail
  go_loopg [8] ps.length (fun gh s8 wr => ∃ k : Nat, Hid (gh = ps.length - k) ∧ s8 = .int .i64 k ∧ k ≤ ps.length ∧ Hid (∀ j, j < k → M.valueFault (ps.getD j []) = 0) ∧ Below w.heap.size w wr)
  case atStart => exact ⟨0, rfl, rfl, by omega, fun j hj => absurd hj (by omega), Below.refl _ _⟩
  case round =>
    obtain ⟨k, hg, rfl, hk, hall, hbel⟩ := hrel
    by_cases hlt : k < ps.length
    · obtain ⟨b, f0, hb, hr⟩ := ((unhide HL).below hbel).2 k hlt
      have hq := Nat.le_trans (len_le ps k hlt) (unhide HN)
      have hok := hide ((unhide OK) k hlt)
      have hhit := hide (fun hz => firstBad_hit ps k hall.out hlt hz)
      have hnext := hide (fun (h0 : M.valueFault (ps.getD k []) = 0) j (hj : j < k + 1) => show M.valueFault (ps.getD j []) = 0 by
        by_cases e : j = k
        · subst e; exact h0
        · exact hall.out j (by omega))
      generalize ps.getD k [] = p at *
      go_wp2_with fail
      refine (implFault_any p b 0 p.length _ hr hb hq (Nat.le_refl _) (unhide hok)).mono ?_
      rintro e1 w1 ⟨rfl, hb1⟩
      have B1 : Below w.heap.size w w1 := hbel.trans (hb1.mono hbel.size)
      clear hr f0 hok hb1 hbel
      generalize hqq : M.valueFault p = q at *
      by_cases hz : q = 0
      · subst hz
        have hn2 := hide ((unhide hnext) rfl)
        clear hhit hnext
        go_wp2_with fail
        go_roundg (ps.length - (k + 1))
        case rel => exact ⟨k + 1, rfl, by go_num, by omega, unhide hn2, B1⟩
        case measure => have := hg.out; omega
      · have fin := hide ((unhide hhit) hz)
        have hz' : (q == 0) = false := by simp [hz]
        clear hhit hnext hqq
        go_wp2_with fail
        go_ret
        exact ⟨ret_int (unhide fin).symm, B1⟩
    · have hke : k = ps.length := by omega
      have fin := hide (firstBad_none ps (by rw [← hke]; exact hall.out))
      clear hke
      go_wp2_with fail
      go_ret
      exact ⟨ret_int (unhide fin).symm, hbel⟩

set_option maxHeartbeats 1000000 in
theorem layArray_any (g : Nat) (ps : List (List M.Cl)) (w : World) (hL : LR w g ps) (hn : ps.length ≤ 200) (hv : ∀ j, j < ps.length → M.valueFault (ps.getD j []) = 0) :
    Calls Try.prog 113 #[.slice (some ⟨g, 0, none⟩) ps.length ps.length] w fun e w' => ∃ s, e = .returned s ∧ Res w' w.heap.size s (arrV ps) ∧ Below w.heap.size w w' := by
  have HL := hide hL
  have HV := hide hv
  clear hL hv
  go_enter Try.func113, Try.ntmps113
  go_wp2_with fail
  go_loopg [3, 12] ps.length (fun gh s3 s12 wr => ∃ k : Nat, Hid (gh = ps.length - k) ∧ s12 = .int .i64 k ∧ k ≤ ps.length ∧ wr.ownsRow w.heap.size 67 5 s3 (arrK ps k).length (flat (arrK ps k)) ∧ Below w.heap.size w wr)
  case atStart => exact ⟨0, rfl, rfl, by omega, one_own w w.heap.size _ (headCl 5 ps.length) rfl (Nat.le_refl _), (Below.refl _ _).alloc (Nat.le_refl _) _⟩
  case round =>
    obtain ⟨k, hg, rfl, hk, hown, hbel⟩ := hrel
    by_cases hlt : k < ps.length
    · obtain ⟨b, f0, hb, hr⟩ := ((unhide HL).below hbel).2 k hlt
      have hpf := (unhide HV) k hlt
      have hp := fault_len hpf
      have hal := arrK_length ps k
      have hts := tot_small ps k hk (fun j hj => (fault_len ((unhide HV) j (by omega))).2)
      have hpn : ps.getD k [] ≠ [] := by intro e; rw [e] at hp; simp at hp
      have HAP := hide (appendPart_any w.heap.size u3 (arrK ps k) (ps.getD k []) b 0 (ps.getD k []).length ByteArray.empty wr hown hr hpn (by omega) hbel.size)
      rw [setKey_none hpf, ← arrK_succ ps k hlt] at HAP
      clear hown hr hpn hpf hal hts
      generalize ps.getD k [] = p at *
      go_wp2_with fail
      refine (unhide HAP).mono ?_
      rintro e2 w2 ⟨v', rfl, ho2, hb2⟩
      have B2 : Below w.heap.size w w2 := hbel.trans hb2
      have HO2 := hide ho2
      clear ho2 hb2 f0 HAP
      go_wp2_with fail
      go_roundg (ps.length - (k + 1))
      case rel => exact ⟨k + 1, rfl, by go_num, by omega, unhide HO2, B2⟩
      case measure => have := hg.out; omega
    · have hke : k = ps.length := by omega
      have hal := arrK_length ps k
      have hts := tot_small ps k hk (fun j hj => (fault_len ((unhide HV) j (by omega))).2)
      have fin := hide (show Res wr w.heap.size u3 (arrV ps) by unfold arrV; rw [← hke]; exact res_of_owns hown (by omega))
      clear hke hown hal hts
      go_wp2_with fail
      go_ret
      exact ⟨_, rfl, unhide fin, hbel⟩

end Go.Proofs.Ythaabakpcokomaa
