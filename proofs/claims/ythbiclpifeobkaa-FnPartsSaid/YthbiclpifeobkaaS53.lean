/-
  impl.ObjectValue over lists that lie anywhere.
-/
import Derived.Test.YthbiclpifeobkaaS51
import Derived.Test.YthbiclpifeobkaaS52
namespace Go.Proofs.Ythbiclpifeobkaa
open Go.RowKit
set_option linter.unusedVariables false

set_option maxRecDepth 100000 in
set_option maxHeartbeats 2000000 in
theorem implObjectV_any (a a' : Option Addr) (kc lc : Nat) (ks : List ByteArray) (ps : List (List M.Cl)) (w : World) (hK : TV w a ks) (hL : LV w a' ps) (hkc : ks.length ≤ kc) (hlc : ps.length ≤ lc) (hnk : ks.length ≤ 1048576) (hn : ps.length ≤ 1048576) (hsm : ∀ i, i < ks.length → (ks.getD i ByteArray.empty).size ≤ 1048576) (hln : ∀ j, j < ps.length → (ps.getD j []).length ≤ 1048576) (hok : OkS ps) :
    Calls Try.prog 21 #[.slice a ks.length kc, .slice a' ps.length lc] w fun e w' => ∃ s, e = .returned (.agg #[.int .i64 (objOut ks ps).1, s]) ∧ Res w' w.heap.size s (objOut ks ps).2 ∧ Below w.heap.size w w' := by
  have HK := hide hK
  have HL := hide hL
  have OK := hide hok
  have HN := hide hln
  have SM := hide hsm
  clear hK hL hok hln hsm
  have B0 : ∀ o, Below w.heap.size w (w.alloc o) := fun o => (Below.refl _ _).alloc (Nat.le_refl _) o
  have HB0 := hide B0
  clear B0
  by_cases hm : 200 < ks.length
  · have fin := hide (obj_many (ks := ks) (ps := ps) (.inl hm))
    have d1 : decide ((200 : Int) < (ks.length : Int)) = true := decide_eq_true (by omega)
    go_enter Try.func21, Try.ntmps21
    go_wp2_with fail
    refine bodyPost_ret (v := .agg #[.int .i64 2, .slice none 0 0]) (by simp [results, Try.results21, go_sem]) rfl ⟨.slice none 0 0, by rw [unhide fin], ?_, ?_⟩
    · rw [unhide fin]; exact ⟨by simp, .inl ⟨rfl, rfl⟩⟩
    · repeat (first | exact Below.refl _ _ | refine Below.setCell ?_ (Nat.le_refl _) _ | refine Below.alloc ?_ (by simp <;> omega) _)
  have d1 : decide ((200 : Int) < (ks.length : Int)) = false := decide_eq_false (by omega)
  by_cases hm2 : ks.length ≠ ps.length
  · have fin := hide (obj_many (ks := ks) (ps := ps) (.inr hm2))
    have d2 : ((ks.length : Int) == (ps.length : Int)) = false := by simp; omega
    go_enter Try.func21, Try.ntmps21
    go_wp2_with fail
    refine bodyPost_ret (v := .agg #[.int .i64 2, .slice none 0 0]) (by simp [results, Try.results21, go_sem]) rfl ⟨.slice none 0 0, by rw [unhide fin], ?_, ?_⟩
    · rw [unhide fin]; exact ⟨by simp, .inl ⟨rfl, rfl⟩⟩
    · repeat (first | exact Below.refl _ _ | refine Below.setCell ?_ (Nat.le_refl _) _ | refine Below.alloc ?_ (by simp <;> omega) _)
  have hmm := hide (show ¬ (200 < ks.length ∨ ks.length ≠ ps.length) by omega)
  have d2 : ((ks.length : Int) != (ps.length : Int)) = false := by simp; omega
  have hle1 : ks.length ≤ ps.length := by omega
  have hle2 : ps.length ≤ ks.length := by omega
  clear hm2
  go_enter Try.func21, Try.ntmps21
  go_wp2_with fail
  go_loopg [21] ks.length (fun gh s99 wr => ∃ k : Nat, Hid (gh = ks.length - k) ∧ s99 = .int .i64 k ∧ k ≤ ks.length ∧ Hid (∀ j, j < k → M.textOk (ks.getD j ByteArray.empty) = true) ∧ Own wr w.heap.size 41 [.int .i64 0, .slice none 0 0] ∧ Below w.heap.size w wr)
  case atStart => exact ⟨0, rfl, rfl, by omega, fun j hj => absurd hj (by omega), ⟨_, heap_alloc_new _ _, rfl⟩, (unhide HB0) _⟩
  case round =>
    obtain ⟨k, hg, rfl, hk, hall, hR, hbel⟩ := hrel
    clear d2
    by_cases hlt : k < ks.length
    · obtain ⟨kg, rfl, _, f0⟩ := ((unhide HK).below hbel) k hlt
      have hs1 := (unhide SM) k hlt
      have hbad := hide (fun h => allText_hit ks k hlt h)
      have hnext := hide (fun (h0 : M.textOk (ks.getD k ByteArray.empty) = true) j (hj : j < k + 1) => show M.textOk (ks.getD j ByteArray.empty) = true by
        by_cases e : j = k
        · subst e; exact h0
        · exact hall.out j (by omega))
      generalize ks.getD k ByteArray.empty = key at *
      go_wp2_with fail
      refine (textFits_any key _ (by omega)).mono ?_
      rintro e1 w1 ⟨rfl, rfl⟩
      clear f0
      cases ht : M.textOk key with
      | true =>
        have hn2 := hide ((unhide hnext) ht)
        clear hbad hnext ht
        go_wp2_with fail
        go_roundg (ks.length - (k + 1))
        case rel => exact ⟨k + 1, rfl, by go_num, by omega, unhide hn2, hR, hbel⟩
        case measure => have := hg.out; omega
      | false =>
        have fin := hide (obj_text (unhide hmm) ((unhide hbad) ht))
        have r0 := hR.cell 0
        have r1 := hR.cell 1
        have z0 := hR.frozen 0
        have z1 := hR.frozen 1
        simp only [List.getElem?_cons_zero, List.getElem?_cons_succ] at r0 r1
        clear hbad hnext ht
        go_wp2_with fail
        refine bodyPost_ret (v := .agg #[.int .i64 5, .slice none 0 0]) (by simp [results, Try.results21, go_sem, r0, r1]) rfl ⟨.slice none 0 0, by rw [unhide fin], ?_, ?_⟩
        · rw [unhide fin]; exact ⟨by simp, .inl ⟨rfl, rfl⟩⟩
        · exact (hbel.setCell (Nat.le_refl _) _).setCell (Nat.le_refl _) _
    · have hke : k = ks.length := by omega
      have hat := hide (allText_all ks (by rw [← hke]; exact hall.out))
      clear hke hall
      go_wp2_with fail
      refine (firstFaultV_any a' lc ps _ ((unhide HL).below hbel) hlc hn (unhide HN) (unhide OK)).mono ?_
      rintro e1 w1 ⟨rfl, hb1⟩
      have hR := hR.below hb1 hR.lt
      have B1 : Below w.heap.size w w1 := hbel.trans (hb1.mono hbel.size)
      clear hb1
      generalize hq : firstBad ps = q
      by_cases hz : q = 0
      · subst hz
        have HV := hide (firstBad_all ps hq)
        have fin := hide (obj_ok (unhide hmm) (unhide hat) hq)
        have hst := hide (St.stand_lt ks ks.length)
        have hsl := St.stand_length ks ks.length
        have hvl : (objV ks ps).length ≤ 1048576 := by
          have := objK_length ks ps (St.stand ks ks.length) (fun p hp => (fault_len ((unhide HV) p (by have := (unhide hst) p hp; omega))).2) _ (Nat.le_refl _)
          unfold objV; omega
        have hvn : objV ks ps ≠ [] := by unfold objV objK; simp
        have hvo := hide (show ∀ c ∈ objV ks ps, c.ok from objK_ok ks ps _ (by omega) (fun p hp => (unhide OK) p (by have := (unhide hst) p hp; omega)) (fun p hp => by have := (unhide SM) p ((unhide hst) p hp); omega) _ (Nat.le_refl _))
        have hsz := hR.lt
        clear hq hsl
        go_wp2_with fail
        refine (layObjectV_any a a' kc lc ks ps _ ((unhide HK).below B1) ((unhide HL).below B1) hkc hlc (by omega) (by omega) (unhide HV)).mono ?_
        rintro e2 w2 ⟨s1, rfl, hr1, hb2⟩
        have hR1 := hR.below hb2 hR.lt
        have B2 : Below w.heap.size w w2 := B1.trans (hb2.mono B1.size)
        have hsh := hr1.shape
        obtain ⟨a1, m1, c1, rfl⟩ := hsh
        go_wp2_with fail
        refine (implTold_any _ _ _ _ hr1 hb2.size hvn hvl (unhide hvo)).mono ?_
        rintro e3 w3 ⟨s2, rfl, hr2, hb3⟩
        have hR2 := hR1.below hb3 hR1.lt
        have B3 : Below w.heap.size w w3 := B2.trans (hb3.mono B2.size)
        have hbs2 := hr2.base
        have hr3 : Res w3 w.heap.size s2 (objOut ks ps).2 := by rw [unhide fin]; exact hr2.mono B1.size
        rw [← unhide fin]
        have hsh := hr2.shape
        obtain ⟨a2, m2, c2, rfl⟩ := hsh
        have hne : ∀ b', (Value.slice a2 m2 c2).ownBlock = some b' → b' ≠ w.heap.size := fun b' h => by have := hbs2 b' h; omega
        have HR3 := hide (fun x y => (hr3.setOther ⟨w.heap.size, 0, none⟩ x hne).setOther ⟨w.heap.size, 1, none⟩ y hne)
        have r0 := hR2.cell 0
        have r1 := hR2.cell 1
        have z0 := hR2.frozen 0
        have z1 := hR2.frozen 1
        simp only [List.getElem?_cons_zero, List.getElem?_cons_succ] at r0 r1
        clear hr1 hr2 hb2 hb3 hbs2 hne hr3 hR1
        generalize hRR : objOut ks ps = R at *
        obtain ⟨rc, rl⟩ := R
        simp only at HR3 ⊢
        have HRR := hide hRR
        clear hRR
        go_wp2_with fail
        refine bodyPost_ret (v := .agg #[.int .i64 rc, .slice a2 m2 c2]) (by simp [results, Try.results21, go_sem, r0, r1]) rfl ⟨.slice a2 m2 c2, by rw [unhide HRR], ?_, ?_⟩
        · rw [unhide HRR]; exact (unhide HR3) _ _
        · exact (B3.setCell (Nat.le_refl _) _).setCell (Nat.le_refl _) _
      · have fin := hide ((obj_bad (unhide hmm) (unhide hat) (by rw [hq]; exact hz)).trans (by rw [hq]))
        have hz' : (q == 0) = false := by simp [hz]
        have r0 := hR.cell 0
        have r1 := hR.cell 1
        have z0 := hR.frozen 0
        have z1 := hR.frozen 1
        simp only [List.getElem?_cons_zero, List.getElem?_cons_succ] at r0 r1
        clear hq
        go_wp2_with fail
        refine bodyPost_ret (v := .agg #[.int .i64 q, .slice none 0 0]) (by simp [results, Try.results21, go_sem, r0, r1]) rfl ⟨.slice none 0 0, by rw [unhide fin], ?_, ?_⟩
        · rw [unhide fin]; exact ⟨by simp, .inl ⟨rfl, rfl⟩⟩
        · exact (B1.setCell (Nat.le_refl _) _).setCell (Nat.le_refl _) _
end Go.Proofs.Ythbiclpifeobkaa
