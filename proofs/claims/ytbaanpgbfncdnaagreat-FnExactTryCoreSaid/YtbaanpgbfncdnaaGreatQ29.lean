/-
  spec.CoreFault answers the plain fault.
-/
import Derived.Test.YtbaanpgbfncdnaaGreatQ19
import Derived.Test.YtbaanpgbfncdnaaGreatQ26
import Derived.Test.YtbaanpgbfncdnaaGreatQ28
import Derived.Deep.RegionWith
namespace Go.Proofs.YtbaanpgbfncdnaaGreat
open Go.RowKit
set_option linter.unusedVariables false
set_option linter.unusedSimpArgs false

namespace Co
theorem up_known (l : List Co) (n : Nat) : (Tr.up 0 n).all (okAt l) = known l n := by
  unfold Tr.up known
  rw [List.all_map, ← List.range_eq_range']
  congr 1
theorem ok_known {l : List Co} (hf : Tr.Fine (tree l)) (h0 : 0 < l.length) (ho : Tr.inOrder (tree l) = true) : okF l.length l ((l.length - 1 : Nat) : Int) = known l l.length := by
  have htl := tree_length l
  have h := (Tr.inOrder_iff hf (by omega)).1 ho
  rw [htl] at h
  unfold okF
  rw [Int.toNat_natCast, ← up_known, ← h]
  unfold Tr.ord
  rw [show l.length - 1 + 1 = l.length by omega]
theorem deep_le {l : List Co} (hf : Tr.Fine (tree l)) (h0 : 0 < l.length) (ho : Tr.inOrder (tree l) = true) {k : Nat} (hk : k < l.length) : Tr.dep (tree l) k ≤ Tr.dep (tree l) (l.length - 1) := by
  have htl := tree_length l
  have h := (Tr.inOrder_iff hf (by omega)).1 ho
  rw [htl] at h
  have := Tr.dep_ord hf (l.length - 1) (by omega) (k : Int) (by
    rw [h]
    unfold Tr.up
    exact List.mem_map.2 ⟨k, by rw [List.mem_range'_1]; omega, rfl⟩)
  simpa using this
end Co

set_option maxRecDepth 100000 in
set_option maxHeartbeats 8000000 in
theorem specCoreFault_any (b : Nat) (l : List Co) (w : World) (hrow : Co.Row w b l) (hb : b < w.heap.size) (hn : l.length ≤ 1048576) (hsz : ∀ i, i < l.length → (l.getD i Co.zero).val.length ≤ 1048576) (hok : ∀ c ∈ l, c.ok) :
    Calls Tryz.prog 34 #[.slice (some ⟨b, 0, none⟩) l.length l.length] w fun e w' => e = .returned (.int .i64 (Co.fault l)) ∧ Below w.heap.size w w' := by
  by_cases hm : l.length < 1 ∨ 900 < l.length
  · have fin := hide (Co.fault_many hm)
    rcases hm with hm | hm
    · have h0 : l.length = 0 := by omega
      rw [h0]
      clear hrow hsz hn h0 hm hok
      go_enter Tryz.func34, Tryz.ntmps34
      go_wp2_with fail
      go_ret
      exact ⟨ret_int (unhide fin).symm, Below.refl _ _⟩
    · have h1 : decide ((l.length : Int) < 1) = false := decide_eq_false (by omega)
      have h2 : (l.length : Int) > 900 := by omega
      clear hrow hsz hok
      go_enter Tryz.func34, Tryz.ntmps34
      go_wp2_with fail
      go_ret
      exact ⟨ret_int (unhide fin).symm, Below.refl _ _⟩
  have h1 : decide ((l.length : Int) < 1) = false := decide_eq_false (by omega)
  have h2 : decide ((l.length : Int) > 900) = false := decide_eq_false (by omega)
  have h900 : l.length ≤ 900 := by omega
  have h0 : 0 < l.length := by omega
  have HM := hide hm
  have HR := hide hrow
  have HS := hide hsz
  have HK := hide hok
  clear hm hrow hsz hok
  go_enter Tryz.func34, Tryz.ntmps34
  go_wp2_with fail
  go_loopg [3] l.length (fun gh s3 wr => ∃ k : Nat, Hid (gh = l.length - k) ∧ s3 = .int .i64 k ∧ k ≤ l.length ∧ Hid (Co.nf l k = 0) ∧ Below w.heap.size w wr)
  case atStart => exact ⟨0, rfl, rfl, by omega, rfl, Below.refl _ _⟩
  case round =>
    obtain ⟨k, hg, rfl, hk, hnf, hbel⟩ := hrel
    by_cases hlt : k < l.length
    · have hltI : (k : Int) < (l.length : Int) := by omega
      have HC := hide (l6Node_any b l k (l.getD k Co.zero) wr ((unhide HR).below hbel hb) (Nat.lt_of_lt_of_le hb hbel.size) hlt h900 rfl ((unhide HS) k hlt) ((unhide HK) _ (co_mem l k hlt)).2.2.2.2.2)
      have hstop := hide (fun h => Co.fault_node (unhide HM) hlt hnf.out h)
      have hnext := hide (fun h => Co.nf_next hnf.out h)
      generalize Co.nodeF l k = c at HC hstop hnext
      clear hlt
      go_wp2_with fail
      refine (unhide HC).mono ?_
      rintro e w2 ⟨rfl, hb2⟩
      have B2 : Below w.heap.size w w2 := hbel.trans (hb2.mono hbel.size)
      by_cases hc : c = 0
      · have hn2 := hide ((unhide hnext) hc)
        have g1 : (c != 0) = false := by simp [hc]
        clear hc hnext hstop
        go_wp2_with fail
        go_roundg (l.length - (k + 1))
        case rel => exact ⟨k + 1, rfl, by go_num, by omega, unhide hn2, B2⟩
        case measure => have := hg.out; omega
      · have fin := hide ((unhide hstop) hc)
        have g1 : (c != 0) = true := by simpa using hc
        clear hc hnext hstop
        go_wp2_with fail
        go_ret
        exact ⟨ret_int (unhide fin).symm, B2⟩
    · have hke : k = l.length := by omega
      subst hke
      have htl := Co.tree_length l
      have HTL := hide htl
      have HNF := hide hnf.out
      have HFI := hide (Co.fine_of hnf.out)
      have hci := hide (Tr.cut_iff (Co.fine_of hnf.out) (by omega))
      have HOS := hide (l6Order_any b wr.heap.size l h900 (Co.fine_of hnf.out) (co_ops hnf.out) l.length h900 (l.length - 1) [] (.slice none 0 0) wr (by omega) (by omega) (by simp) (((unhide HR).below hbel hb).flat) (Nat.lt_of_lt_of_le hb hbel.size) (Nat.le_refl _) (World.ownsRow_nil _ _ _ _))
      have hcl := Tr.cutF_le l.length (Co.tree l) [] (l.length - 1) 900 (by simp) (by omega)
      rw [htl] at hci
      clear htl
      obtain ⟨m, hm⟩ : ∃ m, l.length = m + 1 := ⟨l.length - 1, by omega⟩
      have hmI : (l.length : Int) - 1 = ((l.length - 1 : Nat) : Int) := by omega
      clear hm
      obtain ⟨L, hL⟩ : ∃ L, L = Tr.cutF l.length (Co.tree l) [] (l.length - 1) := ⟨_, rfl⟩
      rw [← hL] at hci HOS hcl
      clear hL
      go_wp2_with fail
      refine (unhide HOS).mono ?_
      rintro e w2 ⟨v, rfl, ho2, k2⟩
      have B2 : Below w.heap.size w w2 := hbel.trans (k2.1.mono hbel.size)
      obtain ⟨va, vc, hv⟩ := Tr.owns_slice ho2
      subst hv
      by_cases hlen : L.length = l.length
      case neg =>
        have hbad : Tr.inOrder (Co.tree l) = false := by
          cases h : Tr.inOrder (Co.tree l) with
          | false => rfl
          | true => have := (unhide hci).2 h; rw [this, Tr.up_length] at hlen; exact absurd rfl hlen
        have fin := hide (Co.fault_order (unhide HM) (unhide HNF) hbad)
        have g1 : ((L.length : Int) != (l.length : Int)) = true := by simp; omega
        clear hlen hbad ho2
        go_wp2_with fail
        go_ret
        exact ⟨ret_int (unhide fin).symm, B2⟩
      case pos =>
      have g1 : ((L.length : Int) != (l.length : Int)) = false := by simp; omega
      obtain ⟨g, cap, hv⟩ : ∃ g cap, va = some ⟨g, 0, none⟩ ∧ vc = cap ∧ L.length ≤ cap ∧ g < w2.heap.size := by
        obtain ⟨_, ⟨h, _⟩ | ⟨g, cap, cur, h, _, hh, h6, _⟩⟩ := ho2
        · simp only [Value.slice.injEq] at h; omega
        · simp only [Value.slice.injEq] at h; exact ⟨g, cap, h.1, h.2.2, h6, (Array.getElem?_eq_some_iff.1 hh).1⟩
      obtain ⟨rfl, rfl, hcap, hg2⟩ := hv
      have hcell := hide (fun j (hj : j < L.length) => (Tr.owns_cell ho2 j hj).trans (Tr.map_get L j hj))
      have HLEN := hide hlen
      clear ho2 hlen
      go_wp2_with fail
      go_loopg [7] L.length (fun gh s7 wq => ∃ j : Nat, Hid (gh = L.length - j) ∧ s7 = .int .i64 j ∧ j ≤ L.length ∧ Hid (∀ i, i < j → L.getD i 0 = (i : Int)) ∧ wq = w2)
      case atStart => exact ⟨0, rfl, rfl, by omega, fun i hi => absurd hi (by omega), rfl⟩
      case round =>
        obtain ⟨j, hgj, rfl, hj, hall, hwq⟩ := hrel
        subst wr
        by_cases hjl : j < L.length
        · have hjI : (j : Int) < (L.length : Int) := by omega
          have f0 := (unhide hcell) j hjl
          have hbad : Hid (L.getD j 0 ≠ (j : Int) → Tr.inOrder (Co.tree l) = false) := fun h => by
            cases q : Tr.inOrder (Co.tree l) with
            | false => rfl
            | true =>
              have e := (unhide hci).2 q
              rw [e, Tr.up_getD l.length j (by have := unhide HLEN; omega)] at h
              exact absurd rfl h
          have hnext : Hid (L.getD j 0 = (j : Int) → ∀ i, i < j + 1 → L.getD i 0 = (i : Int)) := fun h i hi => by
            by_cases e : i = j
            · subst e; exact h
            · exact hall.out i (by omega)
          generalize L.getD j 0 = x at f0 hbad hnext
          clear hjl
          by_cases hx : x = (j : Int)
          · have hn2 := hide (hnext.out hx)
            have g2 : (x != (j : Int)) = false := by simp [hx]
            clear hx hnext hbad
            go_wp2_with fail
            go_roundg (L.length - (j + 1))
            case rel => exact ⟨j + 1, rfl, by go_num, by omega, unhide hn2, rfl⟩
            case measure => have := hgj.out; omega
          · have fin := hide (Co.fault_order (unhide HM) (unhide HNF) (hbad.out hx))
            have g2 : (x != (j : Int)) = true := by simpa using hx
            clear hx hnext hbad
            go_wp2_with fail
            go_ret
            exact ⟨ret_int (unhide fin).symm, B2⟩
        · have hgood : Tr.inOrder (Co.tree l) = true := (unhide hci).1 (by
            refine Tr.list_same (by rw [Tr.up_length]; exact unhide HLEN) fun i hi => ?_
            rw [hall.out i (by omega), Tr.up_getD l.length i (by have := unhide HLEN; omega)])
          have HO := hide hgood
          have hroot : ∀ x, 0 ≤ x → Co.has [] x = Tr.bound (Co.tree l) (l.length - 1) (Co.slotT x) := fun x _ => by
            have := Tr.bound_root (unhide HFI) (show 0 < (Co.tree l).length by rw [unhide HTL]; exact h0) (Co.slotT x)
            rw [unhide HTL] at this
            rw [this]; rfl
          have HKN := hide (l6Known_any b l h900 (unhide HFI) hgood (co_ops (unhide HNF)) (co_nums (unhide HNF)) l.length h900 (l.length - 1) [] (.slice none 0 0) w2 (by omega) (by omega) (by simp; omega) hroot (((unhide HR).below B2 hb).flat) (Nat.lt_of_lt_of_le hb B2.size) (World.ownsRow_nil _ _ _ _))
          rw [Co.ok_known (unhide HFI) h0 hgood] at HKN
          have hjN : ¬ (j : Int) < (L.length : Int) := by omega
          clear hgood hroot hall hcell HOS
          go_wp2_with fail
          refine (unhide HKN).mono ?_
          rintro e w4 ⟨rfl, hb4⟩
          have B4 : Below w.heap.size w w4 := B2.trans (hb4.mono B2.size)
          clear HKN hci
          cases hkn : Co.known l l.length with
          | false =>
            have fin := hide (Co.fault_known (unhide HM) (unhide HNF) (unhide HO) hkn)
            go_wp2_with fail
            go_ret
            exact ⟨ret_int (unhide fin).symm, B4⟩
          | true =>
          have hd1 := hide (fun k (hk : k < l.length) (h : 120 < Tr.dep (Co.tree l) k) => Co.fault_deep (unhide HM) (unhide HNF) (unhide HO) hkn (Nat.lt_of_lt_of_le h (Co.deep_le (unhide HFI) h0 (unhide HO) hk)))
          have hd2 := hide (fun h => Co.fault_ok (unhide HM) (unhide HNF) (unhide HO) hkn h)
          have hmk := Tr.make_ints l.length (by omega)
          have HOP := hide (co_ops (unhide HNF))
          clear hkn
          go_wp2_with fail
          go_loopg [9, 10] l.length (fun gh s9 s10 wr => ∃ (k : Nat) (xs : List Value), Hid (gh = l.length - k) ∧ s9 = .int .i64 k ∧ k ≤ l.length ∧ Own wr w4.heap.size 2 xs ∧ Hid (Tr.DepsK (Co.tree l) xs k 0) ∧ Hid (∀ j, j < k → Tr.dep (Co.tree l) j ≤ 120) ∧ Below w4.heap.size w4 wr)
          case atStart => exact ⟨0, _, rfl, rfl, by omega, ⟨_, heap_alloc_new _ _, rfl⟩, by (show Tr.DepsK _ _ _ _; have hzz := Tr.DepsK.zero (Co.tree l); rw [unhide HTL] at hzz; exact hzz), fun j hj => absurd hj (by omega), (Below.refl _ _).alloc (Nat.le_refl _) _⟩
          case round =>
            clear hmk
            obtain ⟨k, xs, hg, rfl, hk, hown, hdeps, hle, hbel⟩ := hrel
            by_cases hlt : k < l.length
            · have hltI : (k : Int) < (l.length : Int) := by omega
              have hltT : k < (Co.tree l).length := by rw [unhide HTL]; exact hlt
              have hopk := (unhide HOP) k hlt
              have hkl := Co.kids_le (l.getD k Co.zero).op
              have hT := Co.tree_getD l hlt
              have hkk : Tr.kids (Co.nd (l.getD k Co.zero)).op = Co.kids (l.getD k Co.zero).op := Co.nd_kids _
              have hall := hide (Tr.depK_all (unhide HFI) k hltT)
              have hdle := hide (Tr.dep_le (unhide HFI) k hltT)
              have hfin := hide (fun j hj => Tr.kid_fine (unhide HFI) k hltT j hj)
              have hsucc := hide (fun j hj => Tr.depK_succ (Co.tree l) ((Co.tree l).getD k Nd.zero) j hj)
              have hz := hide (Tr.depK_zero (Co.tree l) ((Co.tree l).getD k Nd.zero))
              obtain ⟨_, _, _, _, _, vg, fv, _, _⟩ := (unhide HR) k hlt
              have hrw := hide (fun wq (hq : Below w.heap.size w wq) => (hq.cell hb).trans fv)
              have hrx := hide (fun wq (hq : Below w.heap.size w wq) => ((unhide HR).below hq hb) k hlt)
              rw [hT] at hall hfin hsucc hz
              rw [hkk] at hall hfin hsucc
              have HK2 := hide (fun wq => l6Kids_any (l.getD k Co.zero).op wq hopk.1 hopk.2)
              have HKD := hide (fun j hj wq => l6Kid_any (l.getD k Co.zero) vg j hj wq)
              have hdd := hide ((unhide hd1) k hlt)
              have hlenx := hide (show xs.length = l.length by rw [hdeps.out.1]; exact unhide HTL)
              clear hopk hT hkk fv
              generalize l.getD k Co.zero = n at *
              obtain ⟨ks, hks⟩ : ∃ ks, ks = Co.kids n.op := ⟨_, rfl⟩
              rw [← hks] at hkl hall hfin hsucc HK2
              clear hks
              go_wp2_with fail
              go_loopg [10] ks (fun gh s10 w5 => ∃ (j : Nat) (q : Nat) (ys : List Value), Hid (gh = ks - j) ∧ s10 = .int .i64 j ∧ j ≤ ks ∧ q ≤ 1001 ∧ Hid (q = Tr.depK (Co.tree l) (Co.nd n) j) ∧ Own w5 w4.heap.size 2 ys ∧ Hid (Tr.DepsK (Co.tree l) ys k q) ∧ Below w4.heap.size w4 w5)
              case atStart => exact ⟨0, 0, xs, rfl, rfl, by omega, by omega, (unhide hz).symm, hown, hdeps.out, hbel⟩
              case round =>
                obtain ⟨j, q, ys, hgj, rfl, hj, hq, hqd, hown2, hdeps2, hbel2⟩ := hrel
                have BW2 : Below w.heap.size w wr := B4.trans (hbel2.mono B4.size)
                obtain ⟨f0, f1, f2, f3, f4, _⟩ := (unhide hrx) _ BW2
                have f5 := (unhide hrw) _ BW2
                by_cases hjl : j < ks
                · have hjI : (j : Int) < (ks : Int) := by omega
                  have hb1 := (unhide hfin) j hjl
                  have hs1 := hide ((unhide hsucc) j hjl)
                  have HKJ := hide (fun wq => (unhide HKD) j (by omega) wq)
                  obtain ⟨x, hx⟩ : ∃ x : Nat, Tr.kidAt (Co.nd n) j = x := ⟨(Tr.kidAt (Co.nd n) j).toNat, by omega⟩
                  rw [hx] at hb1 hs1 HKJ
                  have hxk : x < k := by omega
                  have hxI : (x : Int) < (l.length : Int) := by omega
                  have hx0 : (0 : Int) ≤ (x : Int) := by omega
                  have hk0 : (0 : Int) ≤ (k : Int) := by omega
                  have d1 := (hown2.cell x).trans (hdeps2.out.2.1 x hxk)
                  have d2 := (hown2.cell k).trans (hdeps2.out.2.2.1 hltT)
                  have z2 := hown2.frozen k
                  have hdl := Tr.dep_le (unhide HFI) x (by omega)
                  simp only [Int.toNat_natCast] at hs1
                  generalize Tr.dep (Co.tree l) x = dx at d1 hs1 hdl
                  clear hx hb1 hjl
                  go_wp2_with fail
                  refine ((unhide HK2) _).mono ?_
                  rintro e w6 ⟨rfl, hw6⟩
                  subst w6
                  go_wp2_with fail
                  have hmx : max (q : Int) (dx : Int) = ((max q dx : Nat) : Int) := by omega
                  have hput2 : Hid (Tr.DepsK (Co.tree l) (ys.set k (.int .i64 (max (q : Int) (dx : Int)))) k ((max q dx : Nat) : Int)) := by
                    show Tr.DepsK _ _ _ _
                    rw [hmx]; exact hdeps2.out.put hltT _
                  clear hmx
                  have hbb : b < wr.heap.size := Nat.lt_of_lt_of_le hb BW2.size
                  have hwl : w4.heap.size < wr.heap.size := hown2.lt
                  go_region_with (first | (go_at_call 56; refine ((unhide HKJ) _).mono ?_; rintro e w7 ⟨rfl, hb7⟩; have hO7 := hown2.drew.below hb7 hown2.drew.lt; have e1 := (hb7.cell (by exact hwl)).trans d1; have e2 := (hb7.cell (by exact hwl)).trans d2; have ez := hO7.frozen k) | (go_at_call 55; refine (l1Max_tr _ _ _).mono ?_; rintro e w8 ⟨rfl, hw8⟩; subst w8))
                  all_goals
                    go_wp2_with fail
                    go_roundg (ks - (j + 1))
                    case rel => exact ⟨j + 1, max q dx, _, rfl, by go_num, by omega, by omega, by (show _ = _; rw [unhide hs1, ← hqd.out]), hO7.set k _, unhide hput2, (hbel2.drew.trans (hb7.mono (by exact hbel2.size))).setCell (Nat.le_refl _) _⟩
                    case measure => have := hgj.out; omega
                · have hje : j = ks := by omega
                  have hdn : q + 1 = Tr.dep (Co.tree l) k := by rw [unhide hall, hqd.out, hje]
                  have hdq : (q : Int) + 1 = Tr.dep (Co.tree l) k := by omega
                  have hdk : (q : Int) + 1 ≤ 1001 := by have := unhide hdle; omega
                  have d2 := (hown2.cell k).trans (hdeps2.out.2.2.1 hltT)
                  have z2 := hown2.frozen k
                  have hnx := hide ((hdeps2.out.put hltT ((q : Int) + 1)).next hltT hdq)
                  have o3 := hown2.set k (.int .i64 ((q : Int) + 1))
                  have e3 := (o3.cell k).trans (List.getElem?_set_self (by rw [hdeps2.out.1]; exact hltT))
                  have hjN2 : ¬ (j : Int) < (ks : Int) := by omega
                  have hjD : decide ((j : Int) < (ks : Int)) = false := decide_eq_false hjN2
                  have B6 : Below w4.heap.size w4 (wr.setCell ⟨w4.heap.size, k, none⟩ (.int .i64 ((q : Int) + 1))) := hbel2.setCell (Nat.le_refl _) _
                  have hkz : (0 : Int) ≤ (k : Int) := by omega
                  clear hje hdq
                  by_cases h120 : 120 < q + 1
                  · have fin := hide ((unhide hdd) (by omega))
                    have g9 : (q : Int) + 1 > 120 := by omega
                    have BF : Below w.heap.size w (wr.setCell ⟨w4.heap.size, k, none⟩ (.int .i64 ((q : Int) + 1))) := B4.trans (B6.mono B4.size)
                    clear h120
                    go_wp2_with fail
                    refine ((unhide HK2) _).mono ?_
                    rintro e w6 ⟨rfl, hw6⟩
                    subst w6
                    go_wp2_with fail
                    go_ret
                    exact ⟨ret_int (unhide fin).symm, BF⟩
                  · have g9 : ¬ (q : Int) + 1 > 120 := by omega
                    have hle2 := hide (show ∀ i, i < k + 1 → Tr.dep (Co.tree l) i ≤ 120 from fun i hi => by
                      by_cases e : i = k
                      · subst e; omega
                      · exact hle.out i (by omega))
                    clear h120
                    go_wp2_with fail
                    refine ((unhide HK2) _).mono ?_
                    rintro e w6 ⟨rfl, hw6⟩
                    subst w6
                    go_wp2_with fail
                    go_roundg (l.length - (k + 1))
                    case rel => exact ⟨k + 1, _, rfl, by go_num, by omega, o3, unhide hnx, unhide hle2, B6⟩
                    case measure => have := hg.out; omega
            · have hke : k = l.length := by omega
              have fin := hide ((unhide hd2) (by have := hle.out (l.length - 1) (by omega); omega))
              have BF : Below w.heap.size w wr := B4.trans (hbel.mono B4.size)
              clear hke
              go_wp2_with fail
              go_ret
              exact ⟨ret_int (unhide fin).symm, BF⟩

end Go.Proofs.YtbaanpgbfncdnaaGreat
