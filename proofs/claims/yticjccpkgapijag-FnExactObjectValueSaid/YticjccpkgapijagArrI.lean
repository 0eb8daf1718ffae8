/-
  impl.ArrayValue.
-/
import Derived.Test.YticjccpkgapijagArrS
namespace Go.Proofs.Yticjccpkgapijag
open Go.RowKit
set_option linter.unusedVariables false

set_option maxHeartbeats 1000000 in
theorem firstFault_any (g : Nat) (ps : List (List M.Cl)) (w : World) (hL : LR w g ps) (hn : ps.length ≤ 1048576) (hln : tot ps ps.length ≤ 1048576) (hok : OkS ps) :
    Calls Try.prog 33 #[.slice (some ⟨g, 0, none⟩) ps.length ps.length] w fun e w' => e = .returned (.int .i64 (firstBad ps)) ∧ Below w.heap.size w w' := by
  have HL := hide hL
  have OK := hide hok
  have HN := hide hln
  clear hL hok hln
  go_enter Try.func33, Try.ntmps33
  go_wp2_with fail
  go_loopg [8] ps.length (fun gh s8 wr => ∃ k : Nat, Hid (gh = ps.length - k) ∧ s8 = .int .i64 k ∧ k ≤ ps.length ∧ Hid (∀ j, j < k → M.valueFault (ps.getD j []) = 0) ∧ Below w.heap.size w wr)
  case atStart => exact ⟨0, rfl, rfl, by omega, fun j hj => absurd hj (by omega), Below.refl _ _⟩
  case round =>
    obtain ⟨k, hg, rfl, hk, hall, hbel⟩ := hrel
    by_cases hlt : k < ps.length
    · obtain ⟨b, f0, hb, hr⟩ := ((unhide HL).below hbel).2 k hlt
      have hq := Nat.le_trans (len_le ps k hlt) (unhide HN)
      have hok := hide ((unhide OK) k hlt)
      have hhit := hide (fun hz => firstBad_hit ps k hall.out hlt hz)
      have hnext := hide (fun (h0 : M.valueFault (ps.getD k []) = 0) j (hj : j < k + 1) => show M.valueFault (ps.getD j []) = 0 by
        by_cases e : j = k
        · subst e; exact h0
        · exact hall.out j (by omega))
      generalize ps.getD k [] = p at *
      go_wp2_with fail
      refine (implFault_any p b 0 p.length _ hr hb hq (Nat.le_refl _) (unhide hok)).mono ?_
      rintro e1 w1 ⟨rfl, hb1⟩
      have B1 : Below w.heap.size w w1 := hbel.trans (hb1.mono hbel.size)
      clear hr f0 hok hb1 hbel
      generalize hqq : M.valueFault p = q at *
      by_cases hz : q = 0
      · subst hz
        have hn2 := hide ((unhide hnext) rfl)
        clear hhit hnext
        go_wp2_with fail
        go_roundg (ps.length - (k + 1))
        case rel => exact ⟨k + 1, rfl, by go_num, by omega, unhide hn2, B1⟩
        case measure => have := hg.out; omega
      · have fin := hide ((unhide hhit) hz)
        have hz' : (q == 0) = false := by simp [hz]
        clear hhit hnext hqq
        go_wp2_with fail
        go_ret
        exact ⟨ret_int (unhide fin).symm, B1⟩
    · have hke : k = ps.length := by omega
      have fin := hide (firstBad_none ps (by rw [← hke]; exact hall.out))
      clear hke
      go_wp2_with fail
      go_ret
      exact ⟨ret_int (unhide fin).symm, hbel⟩

set_option maxHeartbeats 1000000 in
theorem layArray_any (g : Nat) (ps : List (List M.Cl)) (w : World) (hL : LR w g ps) (hn : ps.length ≤ 200) (hv : ∀ j, j < ps.length → M.valueFault (ps.getD j []) = 0) :
    Calls Try.prog 35 #[.slice (some ⟨g, 0, none⟩) ps.length ps.length] w fun e w' => ∃ s, e = .returned s ∧ Res w' w.heap.size s (arrV ps) ∧ Below w.heap.size w w' := by
  have HL := hide hL
  have HV := hide hv
  clear hL hv
  go_enter Try.func35, Try.ntmps35
  go_wp2_with fail
  go_loopg [3, 12] ps.length (fun gh s3 s12 wr => ∃ k : Nat, Hid (gh = ps.length - k) ∧ s12 = .int .i64 k ∧ k ≤ ps.length ∧ wr.ownsRow w.heap.size 62 5 s3 (arrK ps k).length (flat (arrK ps k)) ∧ Below w.heap.size w wr)
  case atStart => exact ⟨0, rfl, rfl, by omega, one_own w w.heap.size _ (headCl 5 ps.length) rfl (Nat.le_refl _), (Below.refl _ _).alloc (Nat.le_refl _) _⟩
  case round =>
    obtain ⟨k, hg, rfl, hk, hown, hbel⟩ := hrel
    by_cases hlt : k < ps.length
    · obtain ⟨b, f0, hb, hr⟩ := ((unhide HL).below hbel).2 k hlt
      have hpf := (unhide HV) k hlt
      have hp := fault_len hpf
      have hal := arrK_length ps k
      have hts := tot_small ps k hk (fun j hj => (fault_len ((unhide HV) j (by omega))).2)
      have hpn : ps.getD k [] ≠ [] := by intro e; rw [e] at hp; simp at hp
      have HAP := hide (appendPart_any w.heap.size u3 (arrK ps k) (ps.getD k []) b 0 (ps.getD k []).length ByteArray.empty wr hown hr hpn (by omega) hbel.size)
      rw [setKey_none hpf, ← arrK_succ ps k hlt] at HAP
      clear hown hr hpn hpf hal hts
      generalize ps.getD k [] = p at *
      go_wp2_with fail
      refine (unhide HAP).mono ?_
      rintro e2 w2 ⟨v', rfl, ho2, hb2⟩
      have B2 : Below w.heap.size w w2 := hbel.trans hb2
      have HO2 := hide ho2
      clear ho2 hb2 f0 HAP
      go_wp2_with fail
      go_roundg (ps.length - (k + 1))
      case rel => exact ⟨k + 1, rfl, by go_num, by omega, unhide HO2, B2⟩
      case measure => have := hg.out; omega
    · have hke : k = ps.length := by omega
      have hal := arrK_length ps k
      have hts := tot_small ps k hk (fun j hj => (fault_len ((unhide HV) j (by omega))).2)
      have fin := hide (show Res wr w.heap.size u3 (arrV ps) by unfold arrV; rw [← hke]; exact res_of_owns hown (by omega))
      clear hke hown hal hts
      go_wp2_with fail
      go_ret
      exact ⟨_, rfl, unhide fin, hbel⟩

set_option maxHeartbeats 1000000 in
theorem implArray_any (g : Nat) (ps : List (List M.Cl)) (w : World) (hL : LR w g ps) (hn : ps.length ≤ 1048576) (hln : tot ps ps.length ≤ 1048576) (hok : OkS ps) :
    Calls Try.prog 10 #[.slice (some ⟨g, 0, none⟩) ps.length ps.length] w fun e w' => ∃ s, e = .returned (.agg #[.int .i64 (arrOut ps).1, s]) ∧ Res w' w.heap.size s (arrOut ps).2 ∧ Below w.heap.size w w' := by
  have HL := hide hL
  have OK := hide hok
  have HN := hide hln
  clear hL hok hln
  have B0 : ∀ o, Below w.heap.size w (w.alloc o) := fun o => (Below.refl _ _).alloc (Nat.le_refl _) o
  have HB0 := hide B0
  clear B0
  by_cases hm : 200 < ps.length
  · have fin := hide (arr_many hm)
    have d1 : decide ((200 : Int) < (ps.length : Int)) = true := decide_eq_true (by omega)
    go_enter Try.func10, Try.ntmps10
    go_wp2_with fail
    refine bodyPost_ret (v := .agg #[.int .i64 2, .slice none 0 0]) (by simp [results, Try.results10, go_sem]) rfl ⟨.slice none 0 0, by rw [unhide fin], ?_, ?_⟩
    · rw [unhide fin]; exact ⟨by simp, .inl ⟨rfl, rfl⟩⟩
    · repeat (first | exact Below.refl _ _ | refine Below.setCell ?_ (Nat.le_refl _) _ | refine Below.alloc ?_ (by simp <;> omega) _)
  have d1 : decide ((200 : Int) < (ps.length : Int)) = false := decide_eq_false (by omega)
  go_enter Try.func10, Try.ntmps10
  go_wp2_with fail
  refine (firstFault_any g ps _ ((unhide HL).below ((unhide HB0) _)) hn (unhide HN) (unhide OK)).mono ?_
  rintro e1 w1 ⟨rfl, hb1⟩
  have hR : Own w1 w.heap.size 26 [.int .i64 0, .slice none 0 0] := Own.below ⟨_, heap_alloc_new _ _, rfl⟩ hb1 (by simp)
  have B1 : Below w.heap.size w w1 := ((unhide HB0) _).trans (hb1.mono (by simp))
  clear hb1
  generalize hq : firstBad ps = q
  by_cases hz : q = 0
  · subst hz
    have HV := hide (firstBad_all ps hq)
    have fin := hide (arr_ok hm hq)
    have hal := arrK_length ps ps.length
    have hts := tot_small ps ps.length (Nat.le_refl _) (fun j hj => (fault_len ((unhide HV) j hj)).2)
    have hvl : (arrV ps).length ≤ 1048576 := by unfold arrV; omega
    have hvn : arrV ps ≠ [] := by unfold arrV arrK; simp
    have hvo := hide (show ∀ c ∈ arrV ps, c.ok from arrK_ok ps (by omega) (unhide OK) ps.length (Nat.le_refl _))
    have hsz := hR.lt
    clear hal hts hq
    go_wp2_with fail
    refine (layArray_any g ps _ ((unhide HL).below B1) (by omega) (unhide HV)).mono ?_
    rintro e2 w2 ⟨s1, rfl, hr1, hb2⟩
    have hR1 := hR.below hb2 hR.lt
    have B2 : Below w.heap.size w w2 := B1.trans (hb2.mono B1.size)
    have hsh := hr1.shape
    obtain ⟨a1, m1, c1, rfl⟩ := hsh
    go_wp2_with fail
    refine (implTold_any _ _ _ _ hr1 hb2.size hvn hvl (unhide hvo)).mono ?_
    rintro e3 w3 ⟨s2, rfl, hr2, hb3⟩
    have hR2 := hR1.below hb3 hR1.lt
    have B3 : Below w.heap.size w w3 := B2.trans (hb3.mono B2.size)
    have hbs2 := hr2.base
    have hr3 : Res w3 w.heap.size s2 (arrOut ps).2 := by rw [unhide fin]; exact hr2.mono B1.size
    rw [← unhide fin]
    have hsh := hr2.shape
    obtain ⟨a2, m2, c2, rfl⟩ := hsh
    have hne : ∀ b', (Value.slice a2 m2 c2).ownBlock = some b' → b' ≠ w.heap.size := fun b' h => by have := hbs2 b' h; omega
    have HR3 := hide (fun x y => (hr3.setOther ⟨w.heap.size, 0, none⟩ x hne).setOther ⟨w.heap.size, 1, none⟩ y hne)
    have r0 := hR2.cell 0
    have r1 := hR2.cell 1
    have z0 := hR2.frozen 0
    have z1 := hR2.frozen 1
    simp only [List.getElem?_cons_zero, List.getElem?_cons_succ] at r0 r1
    clear hr1 hr2 hb2 hb3 hbs2 hne hr3 hR1
    generalize hRR : arrOut ps = R at *
    obtain ⟨rc, rl⟩ := R
    simp only at HR3 ⊢
    have HRR := hide hRR
    clear hRR
    go_wp2_with fail
    refine bodyPost_ret (v := .agg #[.int .i64 rc, .slice a2 m2 c2]) (by simp [results, Try.results10, go_sem, r0, r1]) rfl ⟨.slice a2 m2 c2, by rw [unhide HRR], ?_, ?_⟩
    · rw [unhide HRR]; exact (unhide HR3) _ _
    · exact (B3.setCell (Nat.le_refl _) _).setCell (Nat.le_refl _) _
  · have fin := hide ((arr_bad hm (by rw [hq]; exact hz)).trans (by rw [hq]))
    have hz' : (q == 0) = false := by simp [hz]
    have r0 := hR.cell 0
    have r1 := hR.cell 1
    have z0 := hR.frozen 0
    have z1 := hR.frozen 1
    simp only [List.getElem?_cons_zero, List.getElem?_cons_succ] at r0 r1
    clear hq
    go_wp2_with fail
    refine bodyPost_ret (v := .agg #[.int .i64 q, .slice none 0 0]) (by simp [results, Try.results10, go_sem, r0, r1]) rfl ⟨.slice none 0 0, by rw [unhide fin], ?_, ?_⟩
    · rw [unhide fin]; exact ⟨by simp, .inl ⟨rfl, rfl⟩⟩
    · exact (B1.setCell (Nat.le_refl _) _).setCell (Nat.le_refl _) _
end Go.Proofs.Yticjccpkgapijag
