/-
  spec.ObjectValue.
-/
import Derived.Test.YticjccpkgapijagObjS
namespace Go.Proofs.Yticjccpkgapijag
open Go.RowKit
set_option linter.unusedVariables false

set_option maxRecDepth 100000 in
set_option maxHeartbeats 2000000 in
theorem specObject_any (kg gl : Nat) (ks : List ByteArray) (ps : List (List M.Cl)) (w : World) (hK : OwnT w kg ks) (hL : LR w gl ps) (hnk : ks.length ≤ 1048576) (hn : ps.length ≤ 1048576) (hsm : Small ks) (hln : tot ps ps.length ≤ 1048576) (hok : OkS ps) :
    Calls Try.prog 17 #[.slice (some ⟨kg, 0, none⟩) ks.length ks.length, .slice (some ⟨gl, 0, none⟩) ps.length ps.length] w fun e w' => ∃ s, e = .returned (.agg #[.int .i64 (objOut ks ps).1, s]) ∧ Res w' w.heap.size s (objOut ks ps).2 ∧ Below w.heap.size w w' := by
  have HK := hide hK
  have HL := hide hL
  have OK := hide hok
  have HN := hide hln
  have SM := hide hsm
  clear hK hL hok hln hsm
  have B0 : ∀ o, Below w.heap.size w (w.alloc o) := fun o => (Below.refl _ _).alloc (Nat.le_refl _) o
  have HB0 := hide B0
  clear B0
  by_cases hm : 200 < ks.length
  · have fin := hide (obj_many (ks := ks) (ps := ps) (.inl hm))
    have d1 : decide ((200 : Int) < (ks.length : Int)) = true := decide_eq_true (by omega)
    go_enter Try.func17, Try.ntmps17
    go_wp2_with fail
    refine bodyPost_ret (v := .agg #[.int .i64 2, .slice none 0 0]) (by simp [results, Try.results17, go_sem]) rfl ⟨.slice none 0 0, by rw [unhide fin], ?_, ?_⟩
    · rw [unhide fin]; exact ⟨by simp, .inl ⟨rfl, rfl⟩⟩
    · repeat (first | exact Below.refl _ _ | refine Below.setCell ?_ (Nat.le_refl _) _ | refine Below.alloc ?_ (by simp <;> omega) _)
  have d1 : decide ((200 : Int) < (ks.length : Int)) = false := decide_eq_false (by omega)
  by_cases hm2 : ks.length ≠ ps.length
  · have fin := hide (obj_many (ks := ks) (ps := ps) (.inr hm2))
    have d2 : ((ks.length : Int) == (ps.length : Int)) = false := by simp; omega
    go_enter Try.func17, Try.ntmps17
    go_wp2_with fail
    refine bodyPost_ret (v := .agg #[.int .i64 2, .slice none 0 0]) (by simp [results, Try.results17, go_sem]) rfl ⟨.slice none 0 0, by rw [unhide fin], ?_, ?_⟩
    · rw [unhide fin]; exact ⟨by simp, .inl ⟨rfl, rfl⟩⟩
    · repeat (first | exact Below.refl _ _ | refine Below.setCell ?_ (Nat.le_refl _) _ | refine Below.alloc ?_ (by simp <;> omega) _)
  have hmm := hide (show ¬ (200 < ks.length ∨ ks.length ≠ ps.length) by omega)
  have d2 : ((ks.length : Int) != (ps.length : Int)) = false := by simp; omega
  have hle1 : ks.length ≤ ps.length := by omega
  have hle2 : ps.length ≤ ks.length := by omega
  clear hm2
  go_enter Try.func17, Try.ntmps17
  go_wp2_with fail
  go_loopg [5] ks.length (fun gh s5 wr => ∃ k : Nat, Hid (gh = ks.length - k) ∧ s5 = .int .i64 k ∧ k ≤ ks.length ∧ Hid (∀ j, j < k → M.textOk (ks.getD j ByteArray.empty) = true) ∧ Own wr w.heap.size 26 [.int .i64 0, .slice none 0 0] ∧ Below w.heap.size w wr)
  case atStart => exact ⟨0, rfl, rfl, by omega, fun j hj => absurd hj (by omega), ⟨_, heap_alloc_new _ _, rfl⟩, (unhide HB0) _⟩
  case round =>
    obtain ⟨k, hg, rfl, hk, hall, hR, hbel⟩ := hrel
    clear d2
    by_cases hlt : k < ks.length
    · have f0 := ((unhide HK).below hbel (unhide HK).lt).cell hlt
      have hs1 := (unhide SM) k hlt
      have hbad := hide (fun h => allText_hit ks k hlt h)
      have hnext := hide (fun (h0 : M.textOk (ks.getD k ByteArray.empty) = true) j (hj : j < k + 1) => show M.textOk (ks.getD j ByteArray.empty) = true by
        by_cases e : j = k
        · subst e; exact h0
        · exact hall.out j (by omega))
      generalize ks.getD k ByteArray.empty = key at *
      go_wp2_with fail
      refine (l1Text_any key _ (by omega)).mono ?_
      rintro e1 w1 ⟨rfl, rfl⟩
      clear f0
      cases ht : M.textOk key with
      | true =>
        have hn2 := hide ((unhide hnext) ht)
        clear hbad hnext ht
        go_wp2_with fail
        go_roundg (ks.length - (k + 1))
        case rel => exact ⟨k + 1, rfl, by go_num, by omega, unhide hn2, hR, hbel⟩
        case measure => have := hg.out; omega
      | false =>
        have fin := hide (obj_text (unhide hmm) ((unhide hbad) ht))
        have r0 := hR.cell 0
        have r1 := hR.cell 1
        have z0 := hR.frozen 0
        have z1 := hR.frozen 1
        simp only [List.getElem?_cons_zero, List.getElem?_cons_succ] at r0 r1
        clear hbad hnext ht
        go_wp2_with fail
        refine bodyPost_ret (v := .agg #[.int .i64 5, .slice none 0 0]) (by simp [results, Try.results17, go_sem, r0, r1]) rfl ⟨.slice none 0 0, by rw [unhide fin], ?_, ?_⟩
        · rw [unhide fin]; exact ⟨by simp, .inl ⟨rfl, rfl⟩⟩
        · exact (hbel.setCell (Nat.le_refl _) _).setCell (Nat.le_refl _) _
    · have hke : k = ks.length := by omega
      have hat := hide (allText_all ks (by rw [← hke]; exact hall.out))
      clear hke hall
      go_wp2_with fail
      go_loopg [6] ps.length (fun gh s6 wr => ∃ k : Nat, Hid (gh = ps.length - k) ∧ s6 = .int .i64 k ∧ k ≤ ps.length ∧ Hid (∀ j, j < k → M.valueFault (ps.getD j []) = 0) ∧ Own wr w.heap.size 26 [.int .i64 0, .slice none 0 0] ∧ Below w.heap.size w wr)
      case atStart => exact ⟨0, rfl, rfl, by omega, fun j hj => absurd hj (by omega), hR, hbel⟩
      case round =>
        clear hR hbel hg hlt
        obtain ⟨q, hg, rfl, hk2, hall, hR, hbel⟩ := hrel
        by_cases hlt : q < ps.length
        · obtain ⟨b, f0, hb, hr⟩ := ((unhide HL).below hbel).2 q hlt
          have hql := Nat.le_trans (len_le ps q hlt) (unhide HN)
          have hok := hide ((unhide OK) q hlt)
          have hhit := hide (fun hz => firstBad_hit ps q hall.out hlt hz)
          have hnext := hide (fun (h0 : M.valueFault (ps.getD q []) = 0) j (hj : j < q + 1) => show M.valueFault (ps.getD j []) = 0 by
            by_cases e : j = q
            · subst e; exact h0
            · exact hall.out j (by omega))
          generalize ps.getD q [] = p at *
          go_wp2_with fail
          refine (specFault_any p b 0 p.length _ hr hb hql (Nat.le_refl _) (unhide hok)).mono ?_
          rintro e1 w1 ⟨rfl, hb1⟩
          have hR1 := hR.below hb1 hR.lt
          have B1 : Below w.heap.size w w1 := hbel.trans (hb1.mono hbel.size)
          clear hr f0 hok hb1 hR hbel
          generalize hqq : M.valueFault p = c at *
          by_cases hz : c = 0
          · subst hz
            have hn2 := hide ((unhide hnext) rfl)
            clear hhit hnext
            go_wp2_with fail
            go_roundg (ps.length - (q + 1))
            case rel => exact ⟨q + 1, rfl, by go_num, by omega, unhide hn2, hR1, B1⟩
            case measure => have := hg.out; omega
          · have fb := (unhide hhit) hz
            have fin := hide ((obj_bad (unhide hmm) (unhide hat) (by rw [fb]; exact hz)).trans (by rw [fb]))
            have hz' : (c == 0) = false := by simp [hz]
            have r0 := hR1.cell 0
            have r1 := hR1.cell 1
            have z0 := hR1.frozen 0
            have z1 := hR1.frozen 1
            simp only [List.getElem?_cons_zero, List.getElem?_cons_succ] at r0 r1
            clear hhit hnext fb hqq
            go_wp2_with fail
            refine bodyPost_ret (v := .agg #[.int .i64 c, .slice none 0 0]) (by simp [results, Try.results17, go_sem, r0, r1]) rfl ⟨.slice none 0 0, by rw [unhide fin], ?_, ?_⟩
            · rw [unhide fin]; exact ⟨by simp, .inl ⟨rfl, rfl⟩⟩
            · exact (B1.setCell (Nat.le_refl _) _).setCell (Nat.le_refl _) _
        · have hke : q = ps.length := by omega
          have hv : ∀ j, j < ps.length → M.valueFault (ps.getD j []) = 0 := by rw [← hke]; exact hall.out
          have HV := hide hv
          have fin := hide (obj_ok (unhide hmm) (unhide hat) (firstBad_none ps hv))
          have hst := hide (St.stand_lt ks ks.length)
          have hsl := St.stand_length ks ks.length
          have hvl : (objV ks ps).length ≤ 1048576 := by
            have := objK_length ks ps (St.stand ks ks.length) (fun p hp => (fault_len ((unhide HV) p (by have := (unhide hst) p hp; omega))).2) _ (Nat.le_refl _)
            unfold objV; omega
          have hvn : objV ks ps ≠ [] := by unfold objV objK; simp
          have hvo := hide (show ∀ c ∈ objV ks ps, c.ok from objK_ok ks ps _ (by omega) (fun p hp => (unhide OK) p (by have := (unhide hst) p hp; omega)) (fun p hp => by have := (unhide SM) p ((unhide hst) p hp); omega) _ (Nat.le_refl _))
          have hsz := hR.lt
          clear hke hv hsl
          go_wp2_with fail
          refine (l1Object_any kg gl ks ps _ ((unhide HK).below hbel (unhide HK).lt) ((unhide HL).below hbel) (by omega) (by omega) (unhide HV)).mono ?_
          rintro e1 w1 ⟨s1, rfl, hr1, hb1⟩
          have hR1 := hR.below hb1 hR.lt
          have B1 : Below w.heap.size w w1 := hbel.trans (hb1.mono hbel.size)
          have hsh := hr1.shape
          obtain ⟨a1, m1, c1, rfl⟩ := hsh
          go_wp2_with fail
          refine (specTold_any _ _ _ _ hr1 hb1.size hvn hvl (unhide hvo)).mono ?_
          rintro e2 w2 ⟨s2, rfl, hr2, hb2⟩
          have hR2 := hR1.below hb2 hR1.lt
          have B2 : Below w.heap.size w w2 := B1.trans (hb2.mono B1.size)
          have hbs2 := hr2.base
          have hr3 : Res w2 w.heap.size s2 (objOut ks ps).2 := by rw [unhide fin]; exact hr2.mono hbel.size
          rw [← unhide fin]
          have hsh := hr2.shape
          obtain ⟨a2, m2, c2, rfl⟩ := hsh
          have hne : ∀ b', (Value.slice a2 m2 c2).ownBlock = some b' → b' ≠ w.heap.size := fun b' h => by have := hbs2 b' h; omega
          have HR3 := hide (fun x y => (hr3.setOther ⟨w.heap.size, 0, none⟩ x hne).setOther ⟨w.heap.size, 1, none⟩ y hne)
          have r0 := hR2.cell 0
          have r1 := hR2.cell 1
          have z0 := hR2.frozen 0
          have z1 := hR2.frozen 1
          simp only [List.getElem?_cons_zero, List.getElem?_cons_succ] at r0 r1
          clear hr1 hb1 hr2 hb2 hbs2 hne hr3 hR1 B1
          generalize hRR : objOut ks ps = R at *
          obtain ⟨rc, rl⟩ := R
          simp only at HR3 ⊢
          have HRR := hide hRR
          clear hRR
          go_wp2_with fail
          refine bodyPost_ret (v := .agg #[.int .i64 rc, .slice a2 m2 c2]) (by simp [results, Try.results17, go_sem, r0, r1]) rfl ⟨.slice a2 m2 c2, by rw [unhide HRR], ?_, ?_⟩
          · rw [unhide HRR]; exact (unhide HR3) _ _
          · exact (B2.setCell (Nat.le_refl _) _).setCell (Nat.le_refl _) _
end Go.Proofs.Yticjccpkgapijag
