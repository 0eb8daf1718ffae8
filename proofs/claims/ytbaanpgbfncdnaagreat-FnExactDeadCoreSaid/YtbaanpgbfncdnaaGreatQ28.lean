/-
  ScopeFault, the program's side: holderPlaces, isBound, isKnownCall.
  impl.CoreFault answers the plain fault.
-/
import Derived.Test.YtbaanpgbfncdnaaGreatQ14
import Derived.Test.YtbaanpgbfncdnaaGreatQ15
import Derived.Test.YtbaanpgbfncdnaaGreatQ19
import Derived.Test.YtbaanpgbfncdnaaGreatQ27
import Derived.BigQuiet
import Derived.Deep.QuietTactic
namespace Go.Proofs.YtbaanpgbfncdnaaGreat
open Go.RowKit
set_option linter.unusedVariables false
set_option linter.unusedSimpArgs false

set_option maxRecDepth 100000 in
set_option maxHeartbeats 2000000 in
theorem holderPlaces_big (B g cap : Nat) (gs : List Nat) (l : List Nd) (w : World) (hnp : Tr.NP w B (.slice (some ⟨g, 0, none⟩) l.length cap) l gs) (hgl : gs.length = l.length) (hcap : l.length ≤ cap) (hg0 : g < w.heap.size) (h200 : l.length ≤ 1000) (h0 : 0 < l.length) (hf : Tr.Fine l) :
    Calls Tryz.prog 78 #[.slice (some ⟨g, 0, none⟩) l.length cap] w fun e w' => e = .returned (.slice (some ⟨w.heap.size, 0, none⟩) l.length l.length) ∧ (∃ xs, Own w' w.heap.size 2 xs ∧ Tr.Holds l xs (Tr.hold l)) ∧ Below w.heap.size w w' := by
  have HNP := hide hnp
  have HGL := hide hgl
  have HF := hide hf
  clear hnp hgl hf
  have hmk := Tr.make_ints l.length (by omega)
  go_enter Tryz.func78, Tryz.ntmps78
  go_wp2_with fail
  go_loopg [13] l.length (fun gh s13 wr => ∃ (k : Nat) (xs : List Value), Hid (gh = l.length - k) ∧ s13 = .int .i64 k ∧ k ≤ l.length ∧ Own wr w.heap.size 2 xs ∧ Hid (Tr.Holds l xs (Tr.holdK l k)) ∧ Below w.heap.size w wr)
  case atStart =>
    refine ⟨0, _, rfl, rfl, by omega, ⟨_, heap_alloc_new _ _, rfl⟩, ?_, (Below.refl _ _).alloc (Nat.le_refl _) _⟩
    exact ⟨Tr.made_length _, fun j hj => by rw [toList_madeCells_one, List.getElem?_replicate, if_pos hj]; rfl⟩
  case round =>
    clear hmk
    obtain ⟨k, xs, hg, rfl, hk, hown, hh, hbel⟩ := hrel
    by_cases hlt : k < l.length
    · have hltI : (k : Int) < (l.length : Int) := by omega
      have hkg : k < gs.length := by rw [unhide HGL]; exact hlt
      have f0 := (hbel.cell (by exact hg0)).trans (Tr.np_cell (unhide HNP) k hkg)
      have hog := ((unhide HNP).2 k hkg).2
      have hgne : gs.getD k 0 < w.heap.size := hog.lt
      have hkl := Tr.kids_le (l.getD k Nd.zero).op
      have hfin := hide (fun j hj => Tr.kid_fine (unhide HF) k hlt j hj)
      have hsucc := hide (fun m hm x hx j => Tr.holdM_succ l k m hm x hx j)
      have hz := hide (fun j => Tr.holdM_zero l k j)
      have hall := hide (fun j => Tr.holdM_all l k j)
      have habc := hide (fun (W : World) (hW : Below w.heap.size w W) j hj => ((hog.below hW hog.lt).cell j).trans (Tr.abc_get (l.getD k Nd.zero) j hj))
      obtain ⟨v0, g0⟩ : ∃ v, xs[k]? = some v := ⟨_, hh.out.2 k hlt⟩
      have i0 := (hown.cell k).trans g0
      have z0 := hown.frozen k
      have G0 := hide g0
      clear hog hkg g0
      generalize l.getD k Nd.zero = n at *
      generalize gs.getD k 0 = gk' at *
      obtain ⟨ks, hks⟩ : ∃ ks, ks = Tr.kids n.op := ⟨_, rfl⟩
      rw [← hks] at f0 hkl hfin hsucc hall
      clear hks
      have hsb : Below w.heap.size w (wr.setCell ⟨w.heap.size, k, none⟩ (.int .i64 (-1))) := hbel.setCell (Nat.le_refl _) _
      have hso := hown.set k (.int .i64 (-1))
      have hsh := hide ((hh.out.put k (-1)).congr (h' := Tr.holdM l k 0) (fun j _ => by rw [(unhide hz) j]))
      go_wp2_with fail
      go_loopg [23] ks (fun gh s23 w2 => ∃ (m : Nat) (ys : List Value), Hid (gh = ks - m) ∧ s23 = .int .i64 m ∧ m ≤ ks ∧ Own w2 w.heap.size 2 ys ∧ Hid (Tr.Holds l ys (Tr.holdM l k m)) ∧ Below w.heap.size w w2)
      case atStart => exact ⟨0, _, rfl, rfl, by omega, hso, unhide hsh, hsb⟩
      case round =>
        obtain ⟨m, ys, hgm, rfl, hm, hown2, hh2, hbel2⟩ := hrel
        clear i0 z0 hso hsb
        by_cases hml : m < ks
        · have hmI : (m : Int) < (ks : Int) := by omega
          have f1 := (unhide habc) _ hbel2 m (by omega)
          have hb1 := (unhide hfin) m hml
          obtain ⟨x, hx⟩ : ∃ x : Nat, Tr.kidAt n m = x := ⟨(Tr.kidAt n m).toNat, by omega⟩
          have hs1 := hide (fun j => (unhide hsucc) m hml x hx j)
          rw [hx] at f1 hb1
          have hxk : x < k := by omega
          have hxI : (x : Int) < (l.length : Int) := by omega
          have hx0 : (0 : Int) ≤ (x : Int) := by omega
          obtain ⟨v1, g1⟩ : ∃ v, ys[x]? = some v := ⟨_, hh2.out.2 x (by omega)⟩
          have i1 := (hown2.cell x).trans g1
          have z1 := hown2.frozen x
          have hn2 := hide ((hh2.out.put x (k : Int)).congr (h' := Tr.holdM l k (m + 1)) (fun j _ => by rw [(unhide hs1) j]))
          have G1 := hide g1
          clear hx hb1 hml g1
          go_wp2_with fail
          go_roundg (ks - (m + 1))
          case rel => exact ⟨m + 1, _, rfl, by go_num, by omega, hown2.set x _, unhide hn2, hbel2.setCell (Nat.le_refl _) _⟩
          case measure => have := hgm.out; omega
        · have hme : m = ks := by omega
          have hn2 := hide (hh2.out.congr (h' := Tr.holdK l (k + 1)) (fun j _ => by rw [hme, (unhide hall) j]))
          clear hme
          go_wp2_with fail
          go_roundg (l.length - (k + 1))
          case rel => exact ⟨k + 1, _, rfl, by go_num, by omega, hown2, unhide hn2, hbel2⟩
          case measure => have := hg.out; omega
    · have hke : k = l.length := by omega
      have fin := hide (show Tr.Holds l xs (Tr.hold l) by have := hh.out; rw [hke] at this; exact this)
      clear hke
      go_wp2_with fail
      go_ret
      exact ⟨rfl, ⟨xs, hown, unhide fin⟩, hbel⟩
end Go.Proofs.YtbaanpgbfncdnaaGreat

namespace Go.Proofs.YtbaanpgbfncdnaaGreat
open Go.RowKit
set_option linter.unusedVariables false
set_option linter.unusedSimpArgs false

theorem co_mem (l : List Co) (k : Nat) (hk : k < l.length) : l.getD k Co.zero ∈ l := by
  rw [List.getD_eq_getElem?_getD, List.getElem?_eq_getElem hk]; exact List.getElem_mem hk
theorem co_ops {l : List Co} (h : Co.nf l l.length = 0) : ∀ i, i < l.length → 1 ≤ (l.getD i Co.zero).op ∧ (l.getD i Co.zero).op ≤ 17 := fun i hi => (Co.node_parts (Co.nf_all h i hi)).1
theorem co_nums {l : List Co} (h : Co.nf l l.length = 0) : ∀ i, i < l.length → 0 ≤ (l.getD i Co.zero).num := fun i hi => by
  have := (Co.node_parts (Co.nf_all h i hi)).2.2.2.1
  have h2 : 0 ≤ Co.low (l.getD i Co.zero).op := by unfold Co.low; split <;> omega
  omega
set_option maxRecDepth 100000 in
set_option maxHeartbeats 4000000 in
theorem implCoreFault_any (b : Nat) (l : List Co) (w : World) (hrow : Co.Row w b l) (hb : b < w.heap.size) (hn : l.length ≤ 1048576) (hsz : ∀ i, i < l.length → (l.getD i Co.zero).val.length ≤ 1048576) (hok : ∀ c ∈ l, c.ok) :
    Calls Tryz.prog 57 #[.slice (some ⟨b, 0, none⟩) l.length l.length] w fun e w' => e = .returned (.int .i64 (Co.fault l)) ∧ Below w.heap.size w w' := by
  by_cases hm : l.length < 1 ∨ 900 < l.length
  · have fin := hide (Co.fault_many hm)
    rcases hm with hm | hm
    · have h0 : l.length = 0 := by omega
      rw [h0]
      clear hrow hsz hn h0 hm hok
      go_enter Tryz.func57, Tryz.ntmps57
      go_wp2_with fail
      go_ret
      exact ⟨ret_int (unhide fin).symm, Below.refl _ _⟩
    · have h1 : ((l.length : Int) == 0) = false := beq_eq_false_iff_ne.2 (by omega)
      have h2 : (l.length : Int) > 900 := by omega
      clear hrow hsz hok
      go_enter Tryz.func57, Tryz.ntmps57
      go_wp2_with fail
      go_ret
      exact ⟨ret_int (unhide fin).symm, Below.refl _ _⟩
  have h1 : ((l.length : Int) == 0) = false := beq_eq_false_iff_ne.2 (by omega)
  have h2 : decide ((l.length : Int) > 900) = false := decide_eq_false (by omega)
  have h900 : l.length ≤ 900 := by omega
  have h0 : 0 < l.length := by omega
  have HM := hide hm
  have HR := hide hrow
  have HS := hide hsz
  have HK := hide hok
  clear hm hrow hsz hok
  go_enter Tryz.func57, Tryz.ntmps57
  go_wp2_with fail
  go_loopg [17] l.length (fun gh s17 wr => ∃ k : Nat, Hid (gh = l.length - k) ∧ s17 = .int .i64 k ∧ k ≤ l.length ∧ Hid (Co.nf l k = 0) ∧ Below w.heap.size w wr)
  case atStart => exact ⟨0, rfl, rfl, by omega, rfl, Below.refl _ _⟩
  case round =>
    obtain ⟨k, hg, rfl, hk, hnf, hbel⟩ := hrel
    by_cases hlt : k < l.length
    · have hltI : (k : Int) < (l.length : Int) := by omega
      obtain ⟨f0, f1, f2, f3, f4, vg, f5, hvg, hvr⟩ := ((unhide HR).below hbel hb) k hlt
      have HC := hide (fun o => coreNodeFault_any l k (l.getD k Co.zero) vg (wr.alloc o) rfl (hvr.below ((Below.refl wr.heap.size wr).alloc (Nat.le_refl _) o) hvg) (by simp; omega) ((unhide HS) k hlt) ((unhide HK) _ (co_mem l k hlt)).2.2.2.2.2 (by omega))
      have hstop := hide (fun h => Co.fault_node (unhide HM) hlt hnf.out h)
      have hnext := hide (fun h => Co.nf_next hnf.out h)
      have HB : Hid (∀ o, Below w.heap.size w (wr.alloc o)) := fun o => hbel.alloc hbel.size o
      generalize Co.nodeF l k = c at HC hstop hnext
      generalize l.getD k Co.zero = n at *
      clear hlt hvr
      go_wp2_with fail
      refine ((unhide HC) _).mono ?_
      rintro e w2 ⟨rfl, hb2⟩
      have B2 : Below w.heap.size w w2 := (HB.out _).trans (hb2.mono (HB.out _).size)
      by_cases hc : c = 0
      · have hn2 := hide ((unhide hnext) hc)
        have g1 : (c != 0) = false := by simp [hc]
        clear hc hnext hstop HC
        go_wp2_with fail
        go_roundg (l.length - (k + 1))
        case rel => exact ⟨k + 1, rfl, by go_num, by omega, unhide hn2, B2⟩
        case measure => have := hg.out; omega
      · have fin := hide ((unhide hstop) hc)
        have g1 : (c != 0) = true := by simpa using hc
        clear hc hnext hstop HC
        go_wp2_with fail
        go_ret
        exact ⟨ret_int (unhide fin).symm, B2⟩
    · have hke : k = l.length := by omega
      subst hke
      have HNF := hide hnf.out
      have HFI := hide (Co.fine_of hnf.out)
      have htl := Co.tree_length l
      have HTL := hide htl
      clear htl
      go_wp2_with fail
      refine (corePlaces_any b l wr ((unhide HR).below hbel hb) (Nat.lt_of_lt_of_le hb hbel.size) h900 (co_ops (unhide HNF))).mono ?_
      rintro e w2 ⟨v, gs, rfl, hgl, hnp, hb2⟩
      obtain ⟨g, cap, rfl, hcap, hg2⟩ := hnp.some (by omega)
      rw [hgl] at hcap hnp ⊢
      have HNP := hide (show Tr.NP w2 wr.heap.size (.slice (some ⟨g, 0, none⟩) (Co.tree l).length cap) (Co.tree l) gs by rw [unhide HTL]; exact hnp)
      have HGL := hide (hgl.trans (unhide HTL).symm)
      have HCA := hide (show (Co.tree l).length ≤ cap by rw [unhide HTL]; exact hcap)
      have HT0 := hide (show 0 < (Co.tree l).length by rw [unhide HTL]; exact h0)
      have HT1 := hide (show (Co.tree l).length ≤ 1000 by rw [unhide HTL]; omega)
      clear hnp hgl
      have B2 : Below w.heap.size w w2 := hbel.trans (hb2.mono hbel.size)
      have HST := hide (standInOrder_big _ g cap gs (Co.tree l) w2 (unhide HNP) (unhide HGL) (unhide HCA) hg2 (unhide HT1) (unhide HT0))
      rw [unhide HTL] at HST
      go_wp2_with fail
      refine (unhide HST).mono ?_
      rintro e w3 ⟨rfl, hb3⟩
      have B3 : Below w.heap.size w w3 := B2.trans (hb3.mono B2.size)
      clear HST
      cases ho : Tr.inOrder (Co.tree l) with
      | false =>
        have fin := hide (Co.fault_order (unhide HM) (unhide HNF) ho)
        go_wp2_with fail
        go_ret
        exact ⟨ret_int (unhide fin).symm, B3⟩
      | true =>
        have HO := hide ho
        clear ho
        have HNP3 := hide ((unhide HNP).below hb3)
        have hg3 := Nat.lt_of_lt_of_le hg2 hb3.size
        have HHP := hide (holderPlaces_big _ g cap gs (Co.tree l) w3 (unhide HNP3) (unhide HGL) (unhide HCA) hg3 (unhide HT1) (unhide HT0) (unhide HFI))
        rw [unhide HTL] at HHP
        go_wp2_with fail
        refine (unhide HHP).mono ?_
        rintro e w4 ⟨rfl, ⟨xs, hox, hhx⟩, hb4⟩
        have B4 : Below w.heap.size w w4 := B3.trans (hb4.mono B3.size)
        have HAB := hide (areSlotsBound_any b w3.heap.size l xs w4 ((unhide HR).below B4 hb) (Nat.lt_of_lt_of_le hb B4.size) hox hhx h900 (unhide HFI) (co_nums (unhide HNF)))
        have HNP4 := hide ((unhide HNP3).below hb4)
        have hg4 := Nat.lt_of_lt_of_le hg3 hb4.size
        clear HHP hox hhx hb4 HNP3
        go_wp2_with fail
        refine (unhide HAB).mono ?_
        rintro e w5 ⟨rfl, hb5⟩
        have B5 : Below w.heap.size w w5 := B4.trans (hb5.mono B4.size)
        cases hkn : Co.known l l.length with
        | false =>
          have fin := hide (Co.fault_known (unhide HM) (unhide HNF) (unhide HO) hkn)
          go_wp2_with fail
          go_ret
          exact ⟨ret_int (unhide fin).symm, B5⟩
        | true =>
          have HKN := hide hkn
          clear hkn HAB
          have HDL := hide (depthOfLast_big _ g cap gs (Co.tree l) w5 ((unhide HNP4).below hb5) (unhide HGL) (unhide HCA) (Nat.lt_of_lt_of_le hg4 hb5.size) (unhide HT1) (unhide HT0) (unhide HFI))
          rw [unhide HTL] at HDL
          go_wp2_with fail
          refine (unhide HDL).mono ?_
          rintro e w6 ⟨rfl, hb6⟩
          have B6 : Below w.heap.size w w6 := B5.trans (hb6.mono B5.size)
          have hd1 := hide (fun h => Co.fault_deep (unhide HM) (unhide HNF) (unhide HO) (unhide HKN) h)
          have hd2 := hide (fun h => Co.fault_ok (unhide HM) (unhide HNF) (unhide HO) (unhide HKN) h)
          clear HDL
          generalize Tr.dep (Co.tree l) (l.length - 1) = d at *
          by_cases hd : 120 < d
          · have fin := hide ((unhide hd1) hd)
            have g1 : (d : Int) > 120 := by omega
            go_wp2_with fail
            go_ret
            exact ⟨ret_int (unhide fin).symm, B6⟩
          · have fin := hide ((unhide hd2) hd)
            have g1 : ¬ (d : Int) > 120 := by omega
            go_wp2_with fail
            go_ret
            exact ⟨ret_int (unhide fin).symm, B6⟩

end Go.Proofs.YtbaanpgbfncdnaaGreat
