/-
  impl.CoreFault answers the plain fault.
-/
import Derived.Test.YtokcefcjkjhnbaaCorP
import Derived.Test.YtokcefcjkjhnbaaTreP
import Derived.Test.YtokcefcjkjhnbaaTreQ
import Derived.Test.YtokcefcjkjhnbaaScoI
namespace Go.Proofs.Ytokcefcjkjhnbaa
open Go.RowKit
set_option linter.unusedVariables false
set_option linter.unusedSimpArgs false


theorem co_mem (l : List Co) (k : Nat) (hk : k < l.length) : l.getD k Co.zero ∈ l := by
  rw [List.getD_eq_getElem?_getD, List.getElem?_eq_getElem hk]; exact List.getElem_mem hk
theorem co_ops {l : List Co} (h : Co.nf l l.length = 0) : ∀ i, i < l.length → 1 ≤ (l.getD i Co.zero).op ∧ (l.getD i Co.zero).op ≤ 17 := fun i hi => (Co.node_parts (Co.nf_all h i hi)).1
theorem co_nums {l : List Co} (h : Co.nf l l.length = 0) : ∀ i, i < l.length → 0 ≤ (l.getD i Co.zero).num := fun i hi => by
  have := (Co.node_parts (Co.nf_all h i hi)).2.2.2.1
  have h2 : 0 ≤ Co.low (l.getD i Co.zero).op := by unfold Co.low; split <;> omega
  omega
set_option maxRecDepth 100000 in
set_option maxHeartbeats 4000000 in
theorem implCoreFault_any (b : Nat) (l : List Co) (w : World) (hrow : Co.Row w b l) (hb : b < w.heap.size) (hn : l.length ≤ 1048576) (hsz : ∀ i, i < l.length → (l.getD i Co.zero).val.length ≤ 1048576) (hok : ∀ c ∈ l, c.ok) :
    Calls Try.prog 55 #[.slice (some ⟨b, 0, none⟩) l.length l.length] w fun e w' => e = .returned (.int .i64 (Co.fault l)) ∧ Below w.heap.size w w' := by
  by_cases hm : l.length < 1 ∨ 900 < l.length
  · have fin := hide (Co.fault_many hm)
    rcases hm with hm | hm
    · have h0 : l.length = 0 := by omega
      rw [h0]
      clear hrow hsz hn h0 hm hok
      go_enter Try.func55, Try.ntmps55
      go_wp2_with fail
      go_ret
      exact ⟨ret_int (unhide fin).symm, Below.refl _ _⟩
    · have h1 : ((l.length : Int) == 0) = false := beq_eq_false_iff_ne.2 (by omega)
      have h2 : (l.length : Int) > 900 := by omega
      clear hrow hsz hok
      go_enter Try.func55, Try.ntmps55
      go_wp2_with fail
      go_ret
      exact ⟨ret_int (unhide fin).symm, Below.refl _ _⟩
  have h1 : ((l.length : Int) == 0) = false := beq_eq_false_iff_ne.2 (by omega)
  have h2 : decide ((l.length : Int) > 900) = false := decide_eq_false (by omega)
  have h900 : l.length ≤ 900 := by omega
  have h0 : 0 < l.length := by omega
  have HM := hide hm
  have HR := hide hrow
  have HS := hide hsz
  have HK := hide hok
  clear hm hrow hsz hok
  go_enter Try.func55, Try.ntmps55
  go_wp2_with fail
  go_loopg [17] l.length (fun gh s17 wr => ∃ k : Nat, Hid (gh = l.length - k) ∧ s17 = .int .i64 k ∧ k ≤ l.length ∧ Hid (Co.nf l k = 0) ∧ Below w.heap.size w wr)
  case atStart => exact ⟨0, rfl, rfl, by omega, rfl, Below.refl _ _⟩
  case round =>
    obtain ⟨k, hg, rfl, hk, hnf, hbel⟩ := hrel
    by_cases hlt : k < l.length
    · have hltI : (k : Int) < (l.length : Int) := by omega
      obtain ⟨f0, f1, f2, f3, f4, vg, f5, hvg, hvr⟩ := ((unhide HR).below hbel hb) k hlt
      have HC := hide (fun o => coreNodeFault_any l k (l.getD k Co.zero) vg (wr.alloc o) rfl (hvr.below ((Below.refl wr.heap.size wr).alloc (Nat.le_refl _) o) hvg) (by simp; omega) ((unhide HS) k hlt) ((unhide HK) _ (co_mem l k hlt)).2.2.2.2.2 (by omega))
      have hstop := hide (fun h => Co.fault_node (unhide HM) hlt hnf.out h)
      have hnext := hide (fun h => Co.nf_next hnf.out h)
      have HB : Hid (∀ o, Below w.heap.size w (wr.alloc o)) := fun o => hbel.alloc hbel.size o
      generalize Co.nodeF l k = c at HC hstop hnext
      generalize l.getD k Co.zero = n at *
      clear hlt hvr
      go_wp2_with fail
      refine ((unhide HC) _).mono ?_
      rintro e w2 ⟨rfl, hb2⟩
      have B2 : Below w.heap.size w w2 := (HB.out _).trans (hb2.mono (HB.out _).size)
      by_cases hc : c = 0
      · have hn2 := hide ((unhide hnext) hc)
        have g1 : (c != 0) = false := by simp [hc]
        clear hc hnext hstop HC
        go_wp2_with fail
        go_roundg (l.length - (k + 1))
        case rel => exact ⟨k + 1, rfl, by go_num, by omega, unhide hn2, B2⟩
        case measure => have := hg.out; omega
      · have fin := hide ((unhide hstop) hc)
        have g1 : (c != 0) = true := by simpa using hc
        clear hc hnext hstop HC
        go_wp2_with fail
        go_ret
        exact ⟨ret_int (unhide fin).symm, B2⟩
    · have hke : k = l.length := by omega
      subst hke
      have HNF := hide hnf.out
      have HFI := hide (Co.fine_of hnf.out)
      have htl := Co.tree_length l
      have HTL := hide htl
      clear htl
      go_wp2_with fail
      refine (corePlaces_any b l wr ((unhide HR).below hbel hb) (Nat.lt_of_lt_of_le hb hbel.size) h900 (co_ops (unhide HNF))).mono ?_
      rintro e w2 ⟨v, gs, rfl, hgl, hnp, hb2⟩
      obtain ⟨g, cap, rfl, hcap, hg2⟩ := hnp.some (by omega)
      rw [hgl] at hcap hnp ⊢
      have HNP := hide (show Tr.NP w2 wr.heap.size (.slice (some ⟨g, 0, none⟩) (Co.tree l).length cap) (Co.tree l) gs by rw [unhide HTL]; exact hnp)
      have HGL := hide (hgl.trans (unhide HTL).symm)
      have HCA := hide (show (Co.tree l).length ≤ cap by rw [unhide HTL]; exact hcap)
      have HT0 := hide (show 0 < (Co.tree l).length by rw [unhide HTL]; exact h0)
      have HT1 := hide (show (Co.tree l).length ≤ 1000 by rw [unhide HTL]; omega)
      clear hnp hgl
      have B2 : Below w.heap.size w w2 := hbel.trans (hb2.mono hbel.size)
      have HST := hide (standInOrder_big _ g cap gs (Co.tree l) w2 (unhide HNP) (unhide HGL) (unhide HCA) hg2 (unhide HT1) (unhide HT0))
      rw [unhide HTL] at HST
      go_wp2_with fail
      refine (unhide HST).mono ?_
      rintro e w3 ⟨rfl, hb3⟩
      have B3 : Below w.heap.size w w3 := B2.trans (hb3.mono B2.size)
      clear HST
      cases ho : Tr.inOrder (Co.tree l) with
      | false =>
        have fin := hide (Co.fault_order (unhide HM) (unhide HNF) ho)
        go_wp2_with fail
        go_ret
        exact ⟨ret_int (unhide fin).symm, B3⟩
      | true =>
        have HO := hide ho
        clear ho
        have HNP3 := hide ((unhide HNP).below hb3)
        have hg3 := Nat.lt_of_lt_of_le hg2 hb3.size
        have HHP := hide (holderPlaces_big _ g cap gs (Co.tree l) w3 (unhide HNP3) (unhide HGL) (unhide HCA) hg3 (unhide HT1) (unhide HT0) (unhide HFI))
        rw [unhide HTL] at HHP
        go_wp2_with fail
        refine (unhide HHP).mono ?_
        rintro e w4 ⟨rfl, ⟨xs, hox, hhx⟩, hb4⟩
        have B4 : Below w.heap.size w w4 := B3.trans (hb4.mono B3.size)
        have HAB := hide (areSlotsBound_any b w3.heap.size l xs w4 ((unhide HR).below B4 hb) (Nat.lt_of_lt_of_le hb B4.size) hox hhx h900 (unhide HFI) (co_nums (unhide HNF)))
        have HNP4 := hide ((unhide HNP3).below hb4)
        have hg4 := Nat.lt_of_lt_of_le hg3 hb4.size
        clear HHP hox hhx hb4 HNP3
        go_wp2_with fail
        refine (unhide HAB).mono ?_
        rintro e w5 ⟨rfl, hb5⟩
        have B5 : Below w.heap.size w w5 := B4.trans (hb5.mono B4.size)
        cases hkn : Co.known l l.length with
        | false =>
          have fin := hide (Co.fault_known (unhide HM) (unhide HNF) (unhide HO) hkn)
          go_wp2_with fail
          go_ret
          exact ⟨ret_int (unhide fin).symm, B5⟩
        | true =>
          have HKN := hide hkn
          clear hkn HAB
          have HDL := hide (depthOfLast_big _ g cap gs (Co.tree l) w5 ((unhide HNP4).below hb5) (unhide HGL) (unhide HCA) (Nat.lt_of_lt_of_le hg4 hb5.size) (unhide HT1) (unhide HT0) (unhide HFI))
          rw [unhide HTL] at HDL
          go_wp2_with fail
          refine (unhide HDL).mono ?_
          rintro e w6 ⟨rfl, hb6⟩
          have B6 : Below w.heap.size w w6 := B5.trans (hb6.mono B5.size)
          have hd1 := hide (fun h => Co.fault_deep (unhide HM) (unhide HNF) (unhide HO) (unhide HKN) h)
          have hd2 := hide (fun h => Co.fault_ok (unhide HM) (unhide HNF) (unhide HO) (unhide HKN) h)
          clear HDL
          generalize Tr.dep (Co.tree l) (l.length - 1) = d at *
          by_cases hd : 120 < d
          · have fin := hide ((unhide hd1) hd)
            have g1 : (d : Int) > 120 := by omega
            go_wp2_with fail
            go_ret
            exact ⟨ret_int (unhide fin).symm, B6⟩
          · have fin := hide ((unhide hd2) hd)
            have g1 : ¬ (d : Int) > 120 := by omega
            go_wp2_with fail
            go_ret
            exact ⟨ret_int (unhide fin).symm, B6⟩

end Go.Proofs.Ytokcefcjkjhnbaa
