/-
  impl.TreeFault and spec.TreeFault tell the same plain code.
-/
import Derived.Test.YtokcefcjkjhnbaaTreC
import Derived.Test.YtokcefcjkjhnbaaTreE
import Derived.Test.YtokcefcjkjhnbaaTreG
import Derived.Test.YtokcefcjkjhnbaaTreH
namespace Go.Proofs.Ytokcefcjkjhnbaa
open Go.RowKit
set_option linter.unusedVariables false

namespace Tr
theorem nf_next {l : List Nd} {k : Nat} (h : nf l k = 0) (h1 : nodeF l k = 0) : nf l (k + 1) = 0 := by rw [nf, if_pos h, h1]
theorem ops_of {l : List Nd} (h : nf l l.length = 0) : ∀ i, i < l.length → 1 ≤ (l.getD i Nd.zero).op ∧ (l.getD i Nd.zero).op ≤ 24 := fun i hi => (node_parts (nf_all h i hi)).1
theorem up_getD (n i : Nat) (h : i < n) : (up 0 n).getD i 0 = (i : Int) := by
  rw [List.getD_eq_getElem?_getD, up_get 0 n i h]; simp
end Tr

set_option maxRecDepth 100000 in
set_option maxHeartbeats 2000000 in
theorem implTreeFault_any (b : Nat) (l : List Nd) (w : World) (hrow : Nd.Row w b 0 l) (hb : b < w.heap.size) (hn : l.length ≤ 1048576) (hsz : ∀ i, i < l.length → (l.getD i Nd.zero).text.size ≤ 1048576) :
    Calls Try.prog 44 #[.slice (some ⟨b, 0, none⟩) l.length l.length] w fun e w' => e = .returned (.int .i64 (Tr.fault l)) ∧ Below w.heap.size w w' := by
  by_cases hm : l.length < 1 ∨ 200 < l.length
  · have fin := hide (Tr.fault_many hm)
    rcases hm with hm | hm
    · have h0 : l.length = 0 := by omega
      rw [h0]
      clear hrow hsz hn h0 hm
      go_enter Try.func44, Try.ntmps44
      go_wp2_with fail
      go_ret
      exact ⟨ret_int (unhide fin).symm, Below.refl _ _⟩
    · have h1 : ((l.length : Int) == 0) = false := beq_eq_false_iff_ne.2 (by omega)
      have h2 : (l.length : Int) > 200 := by omega
      clear hrow hsz
      go_enter Try.func44, Try.ntmps44
      go_wp2_with fail
      go_ret
      exact ⟨ret_int (unhide fin).symm, Below.refl _ _⟩
  have h1 : ((l.length : Int) == 0) = false := beq_eq_false_iff_ne.2 (by omega)
  have h2 : decide ((l.length : Int) > 200) = false := decide_eq_false (by omega)
  have h200 : l.length ≤ 200 := by omega
  have h0 : 0 < l.length := by omega
  have HM := hide hm
  have HR := hide hrow
  have HS := hide hsz
  clear hm hrow hsz
  go_enter Try.func44, Try.ntmps44
  go_wp2_with fail
  go_loopg [16] l.length (fun gh s16 wr => ∃ k : Nat, Hid (gh = l.length - k) ∧ s16 = .int .i64 k ∧ k ≤ l.length ∧ Hid (Tr.nf l k = 0) ∧ Below w.heap.size w wr)
  case atStart => exact ⟨0, rfl, rfl, by omega, rfl, Below.refl _ _⟩
  case round =>
    obtain ⟨k, hg, rfl, hk, hnf, hbel⟩ := hrel
    by_cases hlt : k < l.length
    · have hltI : (k : Int) < (l.length : Int) := by omega
      have HC := hide (nodeFault_any b l k wr ((unhide HR).below hbel hb) (Nat.lt_of_lt_of_le hb hbel.size) hlt h200 ((unhide HS) k hlt))
      have hstop := hide (fun h => Tr.fault_node (unhide HM) hlt hnf.out h)
      have hnext := hide (fun h => Tr.nf_next hnf.out h)
      generalize Tr.nodeF l k = c at HC hstop hnext
      clear hlt
      go_wp2_with fail
      refine (unhide HC).mono ?_
      rintro e w2 ⟨rfl, hb2⟩
      have B2 : Below w.heap.size w w2 := hbel.trans (hb2.mono hbel.size)
      by_cases hc : c = 0
      · have hn2 := hide ((unhide hnext) hc)
        have g1 : (c != 0) = false := by simp [hc]
        clear hc hnext hstop
        go_wp2_with fail
        go_roundg (l.length - (k + 1))
        case rel => exact ⟨k + 1, rfl, by go_num, by omega, unhide hn2, B2⟩
        case measure => have := hg.out; omega
      · have fin := hide ((unhide hstop) hc)
        have g1 : (c != 0) = true := by simpa using hc
        clear hc hnext hstop
        go_wp2_with fail
        go_ret
        exact ⟨ret_int (unhide fin).symm, B2⟩
    · have hke : k = l.length := by omega
      subst hke
      have HNF := hide hnf.out
      have HFI := hide (Tr.fine_of hnf.out)
      go_wp2_with fail
      refine (namedPlaces_any b l wr ((unhide HR).below hbel hb) (Nat.lt_of_lt_of_le hb hbel.size) h200 (Tr.ops_of (unhide HNF))).mono ?_
      rintro e w2 ⟨v, gs, rfl, hgl, hnp, hb2⟩
      obtain ⟨g, cap, rfl, hcap, hg2⟩ := hnp.some (by omega)
      rw [hgl] at hcap hnp ⊢
      have HNP := hide hnp
      have HGL := hide hgl
      clear hnp hgl
      have B2 : Below w.heap.size w w2 := hbel.trans (hb2.mono hbel.size)
      go_wp2_with fail
      refine (standInOrder_any _ g cap gs l w2 (unhide HNP) (unhide HGL) hcap hg2 h200 h0).mono ?_
      rintro e w3 ⟨rfl, hb3⟩
      have B3 : Below w.heap.size w w3 := B2.trans (hb3.mono B2.size)
      cases ho : Tr.inOrder l with
      | false =>
        have fin := hide (Tr.fault_order (unhide HM) (unhide HNF) ho)
        go_wp2_with fail
        go_ret
        exact ⟨ret_int (unhide fin).symm, B3⟩
      | true =>
        have HO := hide ho
        clear ho
        go_wp2_with fail
        refine (depthOfLast_any _ g cap gs l w3 ((unhide HNP).below hb3) (unhide HGL) hcap (Nat.lt_of_lt_of_le hg2 hb3.size) h200 h0 (unhide HFI)).mono ?_
        rintro e w4 ⟨rfl, hb4⟩
        have B4 : Below w.heap.size w w4 := B3.trans (hb4.mono B3.size)
        have hd1 := hide (fun h => Tr.fault_deep (unhide HM) (unhide HNF) (unhide HO) h)
        have hd2 := hide (fun h => Tr.fault_ok (unhide HM) (unhide HNF) (unhide HO) h)
        generalize Tr.dep l (l.length - 1) = d at *
        by_cases hd : 30 < d
        · have fin := hide ((unhide hd1) hd)
          have g1 : (d : Int) > 30 := by omega
          go_wp2_with fail
          go_ret
          exact ⟨ret_int (unhide fin).symm, B4⟩
        · have fin := hide ((unhide hd2) hd)
          have g1 : ¬ (d : Int) > 30 := by omega
          go_wp2_with fail
          go_ret
          exact ⟨ret_int (unhide fin).symm, B4⟩

set_option maxRecDepth 100000 in
set_option maxHeartbeats 2000000 in
theorem specTreeFault_any (b : Nat) (l : List Nd) (w : World) (hrow : Nd.Row w b 0 l) (hb : b < w.heap.size) (hn : l.length ≤ 1048576) (hsz : ∀ i, i < l.length → (l.getD i Nd.zero).text.size ≤ 1048576) (hok : ∀ c ∈ l, c.ok) :
    Calls Try.prog 41 #[.slice (some ⟨b, 0, none⟩) l.length l.length] w fun e w' => e = .returned (.int .i64 (Tr.fault l)) ∧ Below w.heap.size w w' := by
  by_cases hm : l.length < 1 ∨ 200 < l.length
  · have fin := hide (Tr.fault_many hm)
    rcases hm with hm | hm
    · have h0 : l.length = 0 := by omega
      rw [h0]
      clear hrow hsz hn h0 hm hok
      go_enter Try.func41, Try.ntmps41
      go_wp2_with fail
      go_ret
      exact ⟨ret_int (unhide fin).symm, Below.refl _ _⟩
    · have h1 : decide ((l.length : Int) < 1) = false := decide_eq_false (by omega)
      have h2 : (l.length : Int) > 200 := by omega
      clear hrow hsz hok
      go_enter Try.func41, Try.ntmps41
      go_wp2_with fail
      go_ret
      exact ⟨ret_int (unhide fin).symm, Below.refl _ _⟩
  have h1 : decide ((l.length : Int) < 1) = false := decide_eq_false (by omega)
  have h2 : decide ((l.length : Int) > 200) = false := decide_eq_false (by omega)
  have h200 : l.length ≤ 200 := by omega
  have h0 : 0 < l.length := by omega
  have HM := hide hm
  have HR := hide hrow
  have HS := hide hsz
  have HK := hide hok
  clear hm hrow hsz hok
  go_enter Try.func41, Try.ntmps41
  go_wp2_with fail
  go_loopg [3] l.length (fun gh s3 wr => ∃ k : Nat, Hid (gh = l.length - k) ∧ s3 = .int .i64 k ∧ k ≤ l.length ∧ Hid (Tr.nf l k = 0) ∧ Below w.heap.size w wr)
  case atStart => exact ⟨0, rfl, rfl, by omega, rfl, Below.refl _ _⟩
  case round =>
    obtain ⟨k, hg, rfl, hk, hnf, hbel⟩ := hrel
    by_cases hlt : k < l.length
    · have hltI : (k : Int) < (l.length : Int) := by omega
      have HC := hide (l5Node_any b l k wr ((unhide HR).below hbel hb) (Nat.lt_of_lt_of_le hb hbel.size) hlt h200 ((unhide HS) k hlt) ((unhide HK) _ (Nd.getD_mem l k hlt)))
      have hstop := hide (fun h => Tr.fault_node (unhide HM) hlt hnf.out h)
      have hnext := hide (fun h => Tr.nf_next hnf.out h)
      generalize Tr.nodeF l k = c at HC hstop hnext
      clear hlt
      go_wp2_with fail
      refine (unhide HC).mono ?_
      rintro e w2 ⟨rfl, hb2⟩
      have B2 : Below w.heap.size w w2 := hbel.trans (hb2.mono hbel.size)
      by_cases hc : c = 0
      · have hn2 := hide ((unhide hnext) hc)
        have g1 : (c != 0) = false := by simp [hc]
        clear hc hnext hstop
        go_wp2_with fail
        go_roundg (l.length - (k + 1))
        case rel => exact ⟨k + 1, rfl, by go_num, by omega, unhide hn2, B2⟩
        case measure => have := hg.out; omega
      · have fin := hide ((unhide hstop) hc)
        have g1 : (c != 0) = true := by simpa using hc
        clear hc hnext hstop
        go_wp2_with fail
        go_ret
        exact ⟨ret_int (unhide fin).symm, B2⟩
    · have hke : k = l.length := by omega
      subst hke
      have HNF := hide hnf.out
      have HFI := hide (Tr.fine_of hnf.out)
      have hci := hide (Tr.cut_iff (Tr.fine_of hnf.out) h0)
      have HOS := hide (l5Order_any b wr.heap.size l h200 (Tr.fine_of hnf.out) (Tr.ops_of hnf.out) l.length h200 (l.length - 1) [] (.slice none 0 0) wr (by omega) (by omega) (by simp) ((unhide HR).below hbel hb) (Nat.lt_of_lt_of_le hb hbel.size) (Nat.le_refl _) (World.ownsRow_nil _ _ _ _))
      have hcl := Tr.cutF_le l.length l [] (l.length - 1) 200 (by simp) h200
      obtain ⟨m, hm⟩ : ∃ m, l.length = m + 1 := ⟨l.length - 1, by omega⟩
      have hmI : (l.length : Int) - 1 = ((l.length - 1 : Nat) : Int) := by omega
      clear hm
      obtain ⟨L, hL⟩ : ∃ L, L = Tr.cutF l.length l [] (l.length - 1) := ⟨_, rfl⟩
      rw [← hL] at hci HOS hcl
      clear hL
      go_wp2_with fail
      refine (unhide HOS).mono ?_
      rintro e w2 ⟨v, rfl, ho2, k2⟩
      have B2 : Below w.heap.size w w2 := hbel.trans (k2.1.mono hbel.size)
      obtain ⟨va, vc, hv⟩ := Tr.owns_slice ho2
      subst hv
      by_cases hlen : L.length = l.length
      case neg =>
        have hbad : Tr.inOrder l = false := by
          cases h : Tr.inOrder l with
          | false => rfl
          | true => have := (unhide hci).2 h; rw [this, Tr.up_length] at hlen; exact absurd rfl hlen
        have fin := hide (Tr.fault_order (unhide HM) (unhide HNF) hbad)
        have g1 : ((L.length : Int) != (l.length : Int)) = true := by simp; omega
        clear hlen hbad ho2
        go_wp2_with fail
        go_ret
        exact ⟨ret_int (unhide fin).symm, B2⟩
      case pos =>
      have g1 : ((L.length : Int) != (l.length : Int)) = false := by simp; omega
      obtain ⟨g, cap, hv⟩ : ∃ g cap, va = some ⟨g, 0, none⟩ ∧ vc = cap ∧ L.length ≤ cap ∧ g < w2.heap.size := by
        obtain ⟨_, ⟨h, _⟩ | ⟨g, cap, cur, h, _, hh, h6, _⟩⟩ := ho2
        · simp only [Value.slice.injEq] at h; omega
        · simp only [Value.slice.injEq] at h; exact ⟨g, cap, h.1, h.2.2, h6, (Array.getElem?_eq_some_iff.1 hh).1⟩
      obtain ⟨rfl, rfl, hcap, hg2⟩ := hv
      have hcell := hide (fun j (hj : j < L.length) => (Tr.owns_cell ho2 j hj).trans (Tr.map_get L j hj))
      have HLEN := hide hlen
      clear ho2 hlen
      go_wp2_with fail
      go_loopg [6] L.length (fun gh s6 wq => ∃ j : Nat, Hid (gh = L.length - j) ∧ s6 = .int .i64 j ∧ j ≤ L.length ∧ Hid (∀ i, i < j → L.getD i 0 = (i : Int)) ∧ wq = w2)
      case atStart => exact ⟨0, rfl, rfl, by omega, fun i hi => absurd hi (by omega), rfl⟩
      case round =>
        obtain ⟨j, hgj, rfl, hj, hall, hwq⟩ := hrel
        subst wr
        by_cases hjl : j < L.length
        · have hjI : (j : Int) < (L.length : Int) := by omega
          have f0 := (unhide hcell) j hjl
          have hbad : Hid (L.getD j 0 ≠ (j : Int) → Tr.inOrder l = false) := fun h => by
            cases q : Tr.inOrder l with
            | false => rfl
            | true =>
              have e := (unhide hci).2 q
              rw [e, Tr.up_getD l.length j (by have := unhide HLEN; omega)] at h
              exact absurd rfl h
          have hnext : Hid (L.getD j 0 = (j : Int) → ∀ i, i < j + 1 → L.getD i 0 = (i : Int)) := fun h i hi => by
            by_cases e : i = j
            · subst e; exact h
            · exact hall.out i (by omega)
          generalize L.getD j 0 = x at f0 hbad hnext
          clear hjl
          by_cases hx : x = (j : Int)
          · have hn2 := hide (hnext.out hx)
            have g2 : (x != (j : Int)) = false := by simp [hx]
            clear hx hnext hbad
            go_wp2_with fail
            go_roundg (L.length - (j + 1))
            case rel => exact ⟨j + 1, rfl, by go_num, by omega, unhide hn2, rfl⟩
            case measure => have := hgj.out; omega
          · have fin := hide (Tr.fault_order (unhide HM) (unhide HNF) (hbad.out hx))
            have g2 : (x != (j : Int)) = true := by simpa using hx
            clear hx hnext hbad
            go_wp2_with fail
            go_ret
            exact ⟨ret_int (unhide fin).symm, B2⟩
        · have hgood : Tr.inOrder l = true := (unhide hci).1 (by
            refine Tr.list_same (by rw [Tr.up_length]; exact unhide HLEN) fun i hi => ?_
            rw [hall.out i (by omega), Tr.up_getD l.length i (by have := unhide HLEN; omega)])
          have HO := hide hgood
          have hms := hide (Tr.most_eq (unhide HFI) h0 hgood)
          clear hgood
          go_wp2_with fail
          refine (l5Deep_any b l w2 ((unhide HR).below B2 hb) (Nat.lt_of_lt_of_le hb B2.size) h200 (unhide HFI) (Tr.ops_of (unhide HNF))).mono ?_
          rintro e w4 ⟨rfl, hb4⟩
          have B4 : Below w.heap.size w w4 := B2.trans (hb4.mono B2.size)
          rw [unhide hms]
          have hd1 := hide (fun h => Tr.fault_deep (unhide HM) (unhide HNF) (unhide HO) h)
          have hd2 := hide (fun h => Tr.fault_ok (unhide HM) (unhide HNF) (unhide HO) h)
          clear hms hmI
          generalize Tr.dep l (l.length - 1) = d at *
          by_cases hd : 30 < d
          · have fin := hide ((unhide hd1) hd)
            have g3 : (d : Int) > 30 := by omega
            go_wp2_with fail
            go_ret
            exact ⟨ret_int (unhide fin).symm, B4⟩
          · have fin := hide ((unhide hd2) hd)
            have g3 : ¬ (d : Int) > 30 := by omega
            go_wp2_with fail
            go_ret
            exact ⟨ret_int (unhide fin).symm, B4⟩

end Go.Proofs.Ytokcefcjkjhnbaa
