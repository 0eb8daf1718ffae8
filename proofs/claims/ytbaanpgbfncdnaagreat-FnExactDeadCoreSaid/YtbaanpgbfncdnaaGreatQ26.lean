/-
  spec.l6Known: is every variable known below a node?
-/
import Derived.Test.YtbaanpgbfncdnaaGreatQ15
import Derived.Test.YtbaanpgbfncdnaaGreatQ19
import Derived.Test.YtbaanpgbfncdnaaGreatQ22
import Derived.Test.YtbaanpgbfncdnaaGreatQ25
import Derived.BigQuiet
import Derived.Deep.CutRange
import Derived.Deep.QuietTactic
import Derived.Deep.RegionHeld3
import Derived.Deep.RegionHeldLaw
import Derived.Deep.RegionWith
namespace Go.Proofs.YtbaanpgbfncdnaaGreat
open Go.RowKit
set_option linter.unusedVariables false
set_option linter.unusedSimpArgs false

namespace Co
/-- Whether all that stands below a node is known. -/
def okAt (l : List Co) (x : Int) : Bool := !unk l x.toNat
def okF (f : Nat) (l : List Co) (x : Int) : Bool := (Tr.ordF f (tree l) x.toNat).all (okAt l)
theorem ok_ord (f : Nat) (l : List Co) (i : Nat) : okF (f + 1) l i = ((Tr.links ((tree l).getD i Nd.zero)).all (okF f l) && !unk l i) := by
  unfold okF
  rw [show ((i : Int).toNat) = i from Int.toNat_natCast i, Tr.ordF, List.all_append, List.all_flatMap]
  simp [okAt]
theorem ok_take (f : Nat) (l : List Co) (N : Nd) (j : Nat) (hj : j < Tr.kids N.op) : ((Tr.links N).take (j + 1)).all (okF f l) = (((Tr.links N).take j).all (okF f l) && okF f l (Tr.kidAt N j)) := by
  have h : j < (Tr.links N).length := by rw [Tr.links_length]; exact hj
  have e : (Tr.links N)[j] = Tr.kidAt N j := by
    have := Tr.links_getD N j hj
    rw [List.getD_eq_getElem?_getD, List.getElem?_eq_getElem h] at this
    exact this
  rw [List.take_succ_eq_append_getElem h, List.all_append, e]
  simp
theorem ok_none (f : Nat) (l : List Co) (N : Nd) (j : Nat) (h : ((Tr.links N).take j).all (okF f l) = false) : (Tr.links N).all (okF f l) = false := by
  cases hc : (Tr.links N).all (okF f l) with
  | false => rfl
  | true =>
    rw [List.all_eq_true] at hc
    have : ((Tr.links N).take j).all (okF f l) = true := by rw [List.all_eq_true]; exact fun x hx => hc x (List.mem_of_mem_take hx)
    rw [this] at h; exact absurd h (by decide)
/-- Is a number in a list? -/
def has (ss : List Int) (x : Int) : Bool := ss.any (· == x)
theorem has_snoc (ss : List Int) (t x : Int) : has (ss ++ [t]) x = (has ss x || (t == x)) := by simp [has]
theorem has_not (ss : List Int) (x : Int) (h : ∀ j, j < ss.length → ss.getD j 0 ≠ x) : has ss x = false := by
  unfold has
  rw [List.any_eq_false]
  intro y hy
  obtain ⟨j, hj, rfl⟩ := List.getElem_of_mem hy
  have := h j hj
  rw [List.getD_eq_getElem?_getD, List.getElem?_eq_getElem hj] at this
  simpa using this
theorem has_yes (ss : List Int) (x : Int) (j : Nat) (hj : j < ss.length) (h : ss.getD j 0 = x) : has ss x = true := by
  unfold has
  rw [List.any_eq_true]
  refine ⟨ss[j], List.getElem_mem hj, ?_⟩
  rw [List.getD_eq_getElem?_getD, List.getElem?_eq_getElem hj] at h
  simpa using h
end Co
theorem ints_get (ss : List Int) (j : Nat) (hj : j < ss.length) : (ss.map (Value.int .i64))[j]? = some (.int .i64 (ss.getD j 0)) := by
  rw [List.getElem?_map, List.getElem?_eq_getElem hj, List.getD_eq_getElem?_getD, List.getElem?_eq_getElem hj]; rfl
theorem ints_plain (ss : List Int) : ∀ u ∈ ss.map (Value.int .i64), u.oneCell' = true := by
  intro u hu
  obtain ⟨x, _, rfl⟩ := List.mem_map.1 hu
  rfl

/-- What l6Known of a node answers, where it may call itself f times deep. -/
def KnoSays (b : Nat) (l : List Co) (f : Nat) : Prop := ∀ (i : Nat) (ss : List Int) (nv : Value) (w : World), i < l.length → i < f → ss.length + f ≤ 2000 → (∀ x, 0 ≤ x → Co.has ss x = Tr.bound (Co.tree l) i (Co.slotT x)) → Co.Flat w b l → b < w.heap.size → w.ownsRow 0 2 1 nv ss.length (ss.map (Value.int .i64)) →
    Calls Tryz.prog 53 #[.slice (some ⟨b, 0, none⟩) l.length l.length, .int .i64 i, nv] w fun e w' => e = .returned (.bool (Co.okF f l i)) ∧ Below w.heap.size w w'

set_option maxRecDepth 100000 in
set_option maxHeartbeats 4000000 in
theorem l6Known_var (b : Nat) (l : List Co) (f : Nat) (h900 : l.length ≤ 900) (i : Nat) (ss : List Int) (nv : Value) (w : World) (hi : i < l.length) (hlen : ss.length ≤ 2000) (hsem : ∀ x, 0 ≤ x → Co.has ss x = Tr.bound (Co.tree l) i (Co.slotT x)) (hrow : Co.Flat w b l) (hb : b < w.heap.size) (hnv : w.ownsRow 0 2 1 nv ss.length (ss.map (Value.int .i64))) (h15 : (l.getD i Co.zero).op = 15) (hnum : 0 ≤ (l.getD i Co.zero).num) :
    Calls Tryz.prog 53 #[.slice (some ⟨b, 0, none⟩) l.length l.length, .int .i64 i, nv] w fun e w' => e = .returned (.bool (Co.okF (f + 1) l i)) ∧ Below w.heap.size w w' := by
  have hiI : (i : Int) < (l.length : Int) := by omega
  have fin0 := hide (show Co.okF (f + 1) l i = Co.has ss (l.getD i Co.zero).num by
    rw [Co.ok_ord, Co.tree_links l hi, h15, hsem _ hnum]
    have e0 : Co.kids 15 = 0 := by decide
    rw [e0]
    unfold Co.unk
    rw [h15]
    simp)
  obtain ⟨f0, f1, f2, f3, f4, vg, f5⟩ := hrow i hi
  rw [h15] at f0
  have HNV := hide hnv
  obtain ⟨na, nc, hne⟩ := Tr.owns_slice hnv
  subst hne
  clear hsem hrow hnum hnv
  generalize l.getD i Co.zero = n at *
  obtain ⟨w1, hw1⟩ : ∃ w1, w1 = w.alloc (.cells #[.int .i64 15, .int .i64 n.a, .int .i64 n.b, .int .i64 n.c, .int .i64 n.num, .slice (some ⟨vg, 0, none⟩) n.val.length n.val.length] 47) := ⟨_, rfl⟩
  have B1 : Below w.heap.size w w1 := by rw [hw1]; exact (Below.refl _ _).alloc (Nat.le_refl _) _
  have N1 : Own w1 w.heap.size 47 [.int .i64 15, .int .i64 n.a, .int .i64 n.b, .int .i64 n.c, .int .i64 n.num, .slice (some ⟨vg, 0, none⟩) n.val.length n.val.length] := by rw [hw1]; exact ⟨_, heap_alloc_new _ _, rfl⟩
  have NV1 := hide (Tr.owns_below (unhide HNV) B1)
  generalize n.num = t at *
  go_enter Tryz.func53, Tryz.ntmps53
  go_wp2_with fail
  rw [← hw1]
  clear hw1 f0 f1 f2 f3 f4 f5 HNV
  go_loopg [8] ss.length (fun gh s8 wr => ∃ k : Nat, Hid (gh = ss.length - k) ∧ s8 = .int .i64 k ∧ k ≤ ss.length ∧ Hid (∀ j, j < k → ss.getD j 0 ≠ t) ∧ Below w1.heap.size w1 wr)
  case atStart => exact ⟨0, rfl, rfl, by omega, fun j hj => absurd hj (by omega), Below.refl _ _⟩
  case round =>
    obtain ⟨k, hg, rfl, hk, hno, hbel⟩ := hrel
    have N2 := N1.below hbel N1.lt
    have BW : Below w.heap.size w wr := B1.trans (hbel.mono B1.size)
    by_cases hlt : k < ss.length
    · have hltI : (k : Int) < (ss.length : Int) := by omega
      have NV2 := Tr.owns_below (unhide NV1) hbel
      obtain ⟨_, ⟨h0, h1⟩ | ⟨g, cap, cur, hgv, _, hh, hnc, _, _, _⟩⟩ := NV2
      · exfalso; omega
      have NV3 := Tr.owns_below (unhide NV1) hbel
      cases hgv
      have hc := (Tr.owns_cell NV3 k hlt).trans (ints_get ss k hlt)
      have c4 := N2.cell 4
      simp only [List.getElem?_cons_zero, List.getElem?_cons_succ] at c4
      have q0 := fun q => show (wr.drewN q).cell? ⟨g, k, none⟩ = some (.int .i64 (ss.getD k 0)) from hc
      have q4 := fun q => show (wr.drewN q).cell? ⟨w.heap.size, 4, none⟩ = some (.int .i64 t) from c4
      have hnext : Hid (ss.getD k 0 ≠ t → ∀ j, j < k + 1 → ss.getD j 0 ≠ t) := fun h j hj => by
        by_cases e : j = k
        · subst e; exact h
        · exact hno.out j (by omega)
      have hyes := hide (fun h => Co.has_yes ss t k hlt h)
      clear hc c4 hh NV3 hlt
      generalize ss.getD k 0 = y at *
      cases hy : (y == t) with
      | true =>
        have fin := hide ((unhide fin0).trans ((unhide hyes) (by simpa using hy)))
        clear hnext hyes
        go_wp2_with fail
        go_quiet (fail)
        go_wp2_with fail
        go_ret
        exact ⟨ret_bool (unhide fin).symm, below_drewN BW _⟩
      | false =>
        have hn2 := hide (hnext.out (by simpa using hy))
        clear hnext hyes
        go_wp2_with fail
        go_quiet (fail)
        clear q0 q4
        have hb2 : Below w1.heap.size w1 (wr.drewN nq) := ⟨hbel.os, hbel.tape, hbel.output, hbel.size, hbel.block⟩
        go_wp2_with fail
        go_roundg (ss.length - (k + 1))
        case rel => exact ⟨k + 1, rfl, by go_num, by omega, unhide hn2, hb2⟩
        case measure => have := hg.out; omega
    · have hke : k = ss.length := by omega
      have fin := hide ((unhide fin0).trans (Co.has_not ss t (fun j hj => hno.out j (by omega))))
      clear hke
      go_wp2_with fail
      go_ret
      exact ⟨ret_bool (unhide fin).symm, BW⟩

set_option maxRecDepth 100000 in
set_option maxHeartbeats 8000000 in
theorem l6Known_step (b : Nat) (l : List Co) (f : Nat) (h900 : l.length ≤ 900) (hf : Tr.Fine (Co.tree l)) (hod : Tr.inOrder (Co.tree l) = true) (hop : ∀ i, i < l.length → 1 ≤ (l.getD i Co.zero).op ∧ (l.getD i Co.zero).op ≤ 17) (hnum : ∀ i, i < l.length → 0 ≤ (l.getD i Co.zero).num) (hf2 : f < 900) (ih : KnoSays b l f) : KnoSays b l (f + 1) := by
  intro i ss nv w hi hif hlen hsem hrow hb hnv
  by_cases h15 : (l.getD i Co.zero).op = 15
  · exact l6Known_var b l f h900 i ss nv w hi (by omega) hsem hrow hb hnv h15 (hnum i hi)
  have hiI : (i : Int) < (l.length : Int) := by omega
  have hopi := hop i hi
  obtain ⟨f0, f1, f2, f3, f4, vg, f5⟩ := hrow i hi
  have htl := Co.tree_length l
  have hT := Co.tree_getD l hi
  have hni := hnum i hi
  have fin0 := hide (show Co.okF (f + 1) l i = (Tr.links (Co.nd (l.getD i Co.zero))).all (Co.okF f l) by
    rw [Co.ok_ord, hT]
    unfold Co.unk
    rw [beq_eq_false_iff_ne.2 h15]
    simp)
  have hkl := Co.kids_le (l.getD i Co.zero).op
  have hkk : Tr.kids (Co.nd (l.getD i Co.zero)).op = Co.kids (l.getD i Co.zero).op := Co.nd_kids _
  have hfin := hide (fun j hj => Tr.kid_fine hf i (by omega) j hj)
  have htk := hide (fun j hj => Co.ok_take f l (Co.nd (l.getD i Co.zero)) j hj)
  have hnone := hide (fun j h => Co.ok_none f l (Co.nd (l.getD i Co.zero)) j h)
  have hlall := hide (Tr.links_length (Co.nd (l.getD i Co.zero)))
  have hbk := hide (fun (j : Nat) (hj : j < Tr.kids ((Co.tree l).getD i Nd.zero).op) (x : Nat) (hx : Tr.kidAt ((Co.tree l).getD i Nd.zero) j = x) (t : ByteArray) => show Tr.bound (Co.tree l) x t = ((Tr.binds ((Co.tree l).getD i Nd.zero) x && (((Co.tree l).getD i Nd.zero).text.toList == t.toList)) || Tr.bound (Co.tree l) i t) from Tr.bound_kid hf hod (by omega) (by rw [← hx]; exact Tr.kid_mem _ j hj) t)
  have hbn := hide (fun (j : Nat) (hj : j < Tr.kids ((Co.tree l).getD i Nd.zero).op) => Tr.binds_kid hod (show i < (Co.tree l).length by omega) hj)
  rw [hT] at hfin hbk hbn
  rw [hkk] at hfin htk hbk hbn hlall
  have HR := hide hrow
  have HIH := hide ih
  have HK := hide (fun wq => l6Kids_any (l.getD i Co.zero).op wq hopi.1 hopi.2)
  have HKD := hide (fun j hj wq => l6Kid_any (l.getD i Co.zero) vg j hj wq)
  obtain ⟨t0, ht0, hy0, hy1, hy2⟩ := info_parts Tr.infoI
  have HSEM := hide hsem
  have HNV := hide hnv
  obtain ⟨na, nc, hnve⟩ := Tr.owns_slice hnv
  subst hnve
  have g15 : ((l.getD i Co.zero).op == 15) = false := beq_eq_false_iff_ne.2 h15
  clear hop hf hrow ih hod hsem hnv h15 hT hkk htl hopi hnum
  generalize l.getD i Co.zero = n at *
  obtain ⟨ks, hks⟩ : ∃ ks, ks = Co.kids n.op := ⟨_, rfl⟩
  rw [← hks] at hkl hfin htk HK hbk hbn hlall
  clear hks
  obtain ⟨w1, hw1⟩ : ∃ w1, w1 = w.alloc (.cells #[.int .i64 n.op, .int .i64 n.a, .int .i64 n.b, .int .i64 n.c, .int .i64 n.num, .slice (some ⟨vg, 0, none⟩) n.val.length n.val.length] 47) := ⟨_, rfl⟩
  have B1 : Below w.heap.size w w1 := by rw [hw1]; exact (Below.refl _ _).alloc (Nat.le_refl _) _
  have N1 : Own w1 w.heap.size 47 [.int .i64 n.op, .int .i64 n.a, .int .i64 n.b, .int .i64 n.c, .int .i64 n.num, .slice (some ⟨vg, 0, none⟩) n.val.length n.val.length] := by rw [hw1]; exact ⟨_, heap_alloc_new _ _, rfl⟩
  go_enter Tryz.func53, Tryz.ntmps53
  go_wp2_with fail
  rw [← hw1]
  clear hw1 f0 f1 f2 f3 f4 f5
  go_loopg [9, 10] 4 (fun gh s9 s10 wr => ∃ j : Nat, Hid (gh = 4 - j) ∧ s9 = .int .i64 j ∧ j ≤ ks ∧ Hid (((Tr.links (Co.nd n)).take j).all (Co.okF f l) = true) ∧ Below w1.heap.size w1 wr)
  case atStart => exact ⟨0, rfl, rfl, by omega, by simp [Hid], Below.refl _ _⟩
  case round =>
    obtain ⟨j, hg, rfl, hj, hall, hbel⟩ := hrel
    have BW : Below w.heap.size w wr := B1.trans (hbel.mono B1.size)
    have hN := N1.below hbel N1.lt
    have hnvr := hide (Tr.owns_below (unhide HNV) BW)
    have c0 := hN.cell 0
    have c1 := hN.cell 1
    have c2 := hN.cell 2
    have c3 := hN.cell 3
    have c4 := hN.cell 4
    have c5 := hN.cell 5
    simp only [List.getElem?_cons_zero, List.getElem?_cons_succ] at c0 c1 c2 c3 c4 c5
    by_cases hjl : j < ks
    · have g1 : (j : Int) < (ks : Int) := by omega
      have hb1 := (unhide hfin) j hjl
      have htj := hide ((unhide htk) j hjl)
      obtain ⟨x, hx⟩ : ∃ x : Nat, Tr.kidAt (Co.nd n) j = x := ⟨(Tr.kidAt (Co.nd n) j).toNat, by omega⟩
      have HKJ := hide (fun wq => (unhide HKD) j (by omega) wq)
      have hbx := hide (fun t => (unhide hbk) j hjl x hx t)
      have hnx := (unhide hbn) j hjl
      rw [hx] at hb1 htj HKJ hnx
      have hxi : x < i := by omega
      have HNX := hide (show Tr.binds (Co.nd n) x = ((n.op == 14 && j == 1) || (n.op == 13 && j == 2)) by
        have h20 : ((Co.nd n).op == 20) = (n.op == 14) := Co.ndOp_20 n.op
        have h19 : ((Co.nd n).op == 19) = (n.op == 13) := Co.ndOp_19 n.op
        rw [hnx, h20, h19])
      have HS0 : Hid (∀ s2, s2 = (if Tr.binds (Co.nd n) x = true then ss ++ [n.num] else ss) → s2.length + f ≤ 2000 ∧ ∀ y, 0 ≤ y → Co.has s2 y = Tr.bound (Co.tree l) x (Co.slotT y)) := fun s2 h2 => by
        cases hbb : Tr.binds (Co.nd n) x with
        | true =>
          rw [hbb, if_pos rfl] at h2
          subst h2
          refine ⟨by rw [List.length_append]; simp only [List.length_cons, List.length_nil]; omega, fun y hy => ?_⟩
          rw [Co.has_snoc, (unhide hbx) (Co.slotT y), hbb, Bool.true_and, (unhide HSEM) y hy, Bool.or_comm]
          have : ((Co.nd n).text.toList == (Co.slotT y).toList) = (n.num == y) := Co.slotT_eq hni hy
          rw [this]
        | false =>
          rw [hbb, if_neg (by decide)] at h2
          subst h2
          refine ⟨by omega, fun y hy => ?_⟩
          rw [(unhide hbx) (Co.slotT y), hbb, Bool.false_and, Bool.false_or, (unhide HSEM) y hy]
      clear hx hb1 hnx hbx
      go_wp2_with fail
      refine ((unhide HK) _).mono ?_
      rintro e w2 ⟨rfl, hw2⟩
      subst w2
      go_upto_region 13 with fail
      go_cut [54] from 31 to 68 (fun s54 wx => s54 = .bool ((n.op == 14 && j == 1) || (n.op == 13 && j == 2)) ∧ wx = wr)
      case first =>
        clear HS0 HNX htj
        have e1 : ((j : Int) == 1) = (j == 1) := by
          by_cases h : j = 1
          · subst h; rfl
          · rw [beq_eq_false_iff_ne.2 h, beq_eq_false_iff_ne.2 (by omega)]
        have e2 : ((j : Int) == 2) = (j == 2) := by
          by_cases h : j = 2
          · subst h; rfl
          · rw [beq_eq_false_iff_ne.2 h, beq_eq_false_iff_ne.2 (by omega)]
        have E1 := hide e1
        have E2 := hide e2
        clear e1 e2
        cases g20 : (n.op == 14) with
        | true =>
          have g19 : (n.op == 13) = false := by
            have : n.op = 14 := by simpa using g20
            rw [this]; rfl
          cases hq1 : ((j : Int) == 1) with
          | true =>
            have HF := hide (show ((n.op == 14 && j == 1) || (n.op == 13 && j == 2)) = true by rw [g20, ← unhide E1, hq1]; rfl)
            go_wp2_with fail
            go_meet
            case rel => exact ⟨congrArg Value.bool (unhide HF).symm, rfl⟩
          | false =>
            have HF := hide (show ((n.op == 14 && j == 1) || (n.op == 13 && j == 2)) = false by rw [g20, ← unhide E1, hq1, g19]; rfl)
            go_wp2_with fail
            go_meet
            case rel => exact ⟨congrArg Value.bool (unhide HF).symm, rfl⟩
        | false =>
          cases g19 : (n.op == 13) with
          | true =>
            cases hq2 : ((j : Int) == 2) with
            | true =>
              have HF := hide (show ((n.op == 14 && j == 1) || (n.op == 13 && j == 2)) = true by rw [g20, g19, ← unhide E2, hq2]; rfl)
              go_wp2_with fail
              go_meet
              case rel => exact ⟨congrArg Value.bool (unhide HF).symm, rfl⟩
            | false =>
              have HF := hide (show ((n.op == 14 && j == 1) || (n.op == 13 && j == 2)) = false by rw [g20, g19, ← unhide E2, hq2]; rfl)
              go_wp2_with fail
              go_meet
              case rel => exact ⟨congrArg Value.bool (unhide HF).symm, rfl⟩
          | false =>
            have HF := hide (show ((n.op == 14 && j == 1) || (n.op == 13 && j == 2)) = false by rw [g20, g19]; rfl)
            go_wp2_with fail
            go_meet
            case rel => exact ⟨congrArg Value.bool (unhide HF).symm, rfl⟩
      case rest =>
      obtain ⟨h54, hwc⟩ := hcut
      subst h54
      subst wc
      rw [unhide HNX] at HS0
      generalize ((n.op == 14 && j == 1) || (n.op == 13 && j == 2)) = bq at *
      clear HNX
      go_upto_if 54 with fail
      go_cut [10] from 31 to 68 (fun s10 wx => ∃ s2 : List Int, (s2.length + f ≤ 2000 ∧ ∀ y, 0 ≤ y → Co.has s2 y = Tr.bound (Co.tree l) x (Co.slotT y)) ∧ wx.ownsRow 0 2 1 s10 s2.length (s2.map (Value.int .i64)) ∧ Below wr.heap.size wr wx)
      case first =>
        cases bq with
        | true =>
          have HS := hide (HS0.out (ss ++ [n.num]) rfl)
          clear HS0 htj
          have KEEP := hide (show ∀ W, Below wr.heap.size wr W → (W.cell? ⟨w.heap.size, 4, none⟩ = some (.int .i64 n.num) ∧ Below wr.heap.size wr W) from fun W hb => ⟨(hb.cell (by exact hN.lt)).trans c4, hb⟩)
          have NMV := hide (show ∀ W, Below wr.heap.size wr W → W.ownsRow 0 2 1 (.slice na ss.length nc) ss.length (ss.map (Value.int .i64)) from fun W hb => Tr.owns_below (unhide hnvr) hb)
          go_wp2_with fail
          go_region_held_law (fun w' => w'.cell? ⟨w.heap.size, 4, none⟩ = some (.int .i64 n.num) ∧ Below wr.heap.size wr w')
            (first | assumption | exact (unhide KEEP) _ (by assumption) | exact (unhide KEEP) _ (Below.refl _ _).drew | exact (unhide KEEP) _ (Ap.below_alloc (And.right (by assumption))))
            (first
              | (refine Ap.step_append_row ((wr.alloc (.cells #[] 2)).drew) rfl (.tmp 55) (.tmp 56) 34 rfl wr.heap.size 2 t0 (.int .i64 0) 8 Tryz.underlying34 ht0 hy0 hy1 hy2 rfl (.slice (some ⟨wr.heap.size, 0, none⟩) 0 0) 0 [] rfl (Ap.owns_empty (by omega) (Ap.heapE _ _)) 0 2 _ ss.length (ss.map (Value.int .i64)) rfl ((unhide NMV) _ (by exact And.right (by assumption))) (ints_plain ss) (by unfold maxLen; omega) (by omega) (Below.size (B := wr.heap.size) (by exact And.right (by assumption))) ?_
                 intro v1 w1' ho1 hg1
                 have hB1 : Below wr.heap.size wr w1' := Below.grown (by exact And.right (by assumption)) hg1 (Below.size (B := wr.heap.size) (by exact And.right (by assumption))) (by intro q hq; simp only [Value.ownBlock, Option.some.injEq] at hq; omega))
              | (refine Ap.step_append_row (((wr.alloc (.cells #[] 2)).alloc (.cells #[.int .i64 n.num] 2)).drew) rfl (.tmp 55) (.tmp 56) 34 rfl wr.heap.size 2 t0 (.int .i64 0) 8 Tryz.underlying34 ht0 hy0 hy1 hy2 rfl (.slice (some ⟨wr.heap.size, 0, none⟩) 0 0) 0 [] rfl (Ap.owns_empty (by omega) (Ap.heapEK _ _ _)) 0 2 _ ss.length (ss.map (Value.int .i64)) rfl ((unhide NMV) _ (by exact And.right (by assumption))) (ints_plain ss) (by unfold maxLen; omega) (by omega) (Below.size (B := wr.heap.size) (by exact And.right (by assumption))) ?_
                 intro v1 w1' ho1 hg1
                 have hB1 : Below wr.heap.size wr w1' := Below.grown (by exact And.right (by assumption)) hg1 (Below.size (B := wr.heap.size) (by exact And.right (by assumption))) (by intro q hq; simp only [Value.ownBlock, Option.some.injEq] at hq; omega)
                 have hk1 : w1'.cell? ⟨wr.heap.size + 1, 0, none⟩ = some (.int .i64 n.num) := (World.grownBy.cell_far hg1 ⟨wr.heap.size + 1, 0, none⟩ (by simp) (Ap.ne_own (wr.heap.size + 1) wr.heap.size 0 0 (by omega))).trans (Ap.cellEK _ _ _))
              | (refine Ap.step_append_row (((wr.alloc (.cells #[.int .i64 n.num] 2)).alloc (.cells #[] 2)).drew) rfl (.tmp 55) (.tmp 56) 34 rfl wr.heap.size 2 t0 (.int .i64 0) 8 Tryz.underlying34 ht0 hy0 hy1 hy2 rfl (.slice (some ⟨wr.heap.size + 1, 0, none⟩) 0 0) 0 [] rfl (Ap.owns_empty (by omega) (Ap.heapKE _ _ _)) 0 2 _ ss.length (ss.map (Value.int .i64)) rfl ((unhide NMV) _ (by exact And.right (by assumption))) (ints_plain ss) (by unfold maxLen; omega) (by omega) (Below.size (B := wr.heap.size) (by exact And.right (by assumption))) ?_
                 intro v1 w1' ho1 hg1
                 have hB1 : Below wr.heap.size wr w1' := Below.grown (by exact And.right (by assumption)) hg1 (Below.size (B := wr.heap.size) (by exact And.right (by assumption))) (by intro q hq; simp only [Value.ownBlock, Option.some.injEq] at hq; omega)
                 have hk1 : w1'.cell? ⟨wr.heap.size, 0, none⟩ = some (.int .i64 n.num) := (World.grownBy.cell_far hg1 ⟨wr.heap.size, 0, none⟩ (by simp <;> omega) (Ap.ne_own wr.heap.size (wr.heap.size + 1) 0 0 (by omega))).trans (Ap.cellKE _ _ _))
              | (refine Ap.step_append_any _ rfl (.tmp 57) (.tmp 60) 34 rfl wr.heap.size 2 t0 (.int .i64 0) 1 8 Tryz.underlying34 ht0 hy0 hy1 hy2 rfl (by decide) _ (0 + ss.length) _ rfl (by first | exact ho1 | exact ho1.alloc _) _ _ _ [.int .i64 n.num] rfl rfl (Ap.one_of (by first | assumption | exact World.cell?_alloc_mark _ _ _ _ _ | simp)) (by intro u hu; simp only [List.mem_cons, List.not_mem_nil, or_false] at hu; subst hu; rfl) (by unfold maxLen; omega) (by omega) (Below.size (B := wr.heap.size) (by exact And.right (by assumption))) ?_
                 intro v2 w2' ho2 hg2
                 have hB2 : Below wr.heap.size wr w2' := Below.grown (by exact And.right (by assumption)) hg2 (Below.size (B := wr.heap.size) (by exact And.right (by assumption))) (Tr.owns_base ho1)))
          all_goals
            have HV2 := hide (show w2'.ownsRow 0 2 1 v2 (ss ++ [n.num]).length ((ss ++ [n.num]).map (Value.int .i64)) by
              have := Tr.owns_mono ho2 (Nat.zero_le _)
              rw [List.length_append, List.map_append]
              simpa using this)
            have HB2 := hide hB2
            obtain ⟨xa, xc, hxe⟩ := Tr.owns_slice (unhide HV2)
            clear ho2
            subst hxe
            have HV3 := hide (show w2'.ownsRow 0 2 1 (.slice xa (ss.length + 1) xc) (ss ++ [n.num]).length ((ss ++ [n.num]).map (Value.int .i64)) by
              have h := unhide HV2
              rwa [show (Value.slice xa (ss ++ [n.num]).length xc) = .slice xa (ss.length + 1) xc by rw [List.length_append]; rfl] at h)
            go_wp2_with fail
            all_goals first
              | (rename_i dst d heq
                 have hd : d = 61 := (Option.some.inj (show some 61 = some d from heq)).symm
                 subst hd
                 clear heq
                 simp only [List.set_cons_zero, List.set_cons_succ]
                 go_meet
                 exact ⟨_, unhide HS, unhide HV3, unhide HB2⟩)
              | (rename_i heq
                 exact absurd (show some 61 = none from heq) (by decide))
              | (go_meet
                 exact ⟨_, unhide HS, unhide HV3, unhide HB2⟩)
        | false =>
          have HS := hide (HS0.out ss rfl)
          clear HS0 htj
          go_wp2_with fail
          go_meet
          case rel => exact ⟨ss, unhide HS, unhide hnvr, Below.refl _ _⟩
      case rest =>
      obtain ⟨s2, hs2, hv2, hbx2⟩ := hcut
      obtain ⟨xa, xc, hxe⟩ := Tr.owns_slice hv2
      have HV2 := hide hv2
      have HS2 := hide hs2
      clear hv2 HS0 c0 c1 c2 c3 c4 c5 hs2
      subst hxe
      have hN2 := hN.below hbx2 hN.lt
      have c0 := hN2.cell 0
      have c1 := hN2.cell 1
      have c2 := hN2.cell 2
      have c3 := hN2.cell 3
      have c4 := hN2.cell 4
      have c5 := hN2.cell 5
      simp only [List.getElem?_cons_zero, List.getElem?_cons_succ] at c0 c1 c2 c3 c4 c5
      go_wp2_with fail
      refine ((unhide HKJ) _).mono ?_
      rintro e w3 ⟨rfl, hb3⟩
      have B3 : Below w1.heap.size w1 w3 := (hbel.trans (hbx2.mono hbel.size)).trans (hb3.mono (Nat.le_trans hbel.size hbx2.size))
      have BW3 : Below w.heap.size w w3 := B1.trans (B3.mono B1.size)
      clear c0 c1 c2 c3 c4 c5 HKJ
      have HQ := hide ((unhide HIH) x s2 _ w3 (by omega) (by omega) (unhide HS2).1 (unhide HS2).2 ((unhide HR).below BW3 hb) (Nat.lt_of_lt_of_le hb BW3.size) (Tr.owns_below (unhide HV2) hb3))
      generalize hq : Co.okF f l x = q at HQ htj
      clear hq
      go_wp2_with fail
      refine (unhide HQ).mono ?_
      rintro e w4 ⟨rfl, hb4⟩
      have B4 : Below w1.heap.size w1 w4 := B3.trans (hb4.mono B3.size)
      clear HQ HV2 HS2
      cases q with
      | true =>
        have hn2 := hide (show ((Tr.links (Co.nd n)).take (j + 1)).all (Co.okF f l) = true by rw [unhide htj, hall.out]; rfl)
        clear htj
        go_wp2_with fail
        go_roundg (4 - (j + 1))
        case rel => exact ⟨j + 1, rfl, by go_num, by omega, unhide hn2, B4⟩
        case measure => have := hg.out; omega
      | false =>
        have fin := hide ((unhide fin0).trans ((unhide hnone) (j + 1) (by rw [unhide htj, hall.out]; rfl)))
        have BW4 : Below w.heap.size w w4 := B1.trans (B4.mono B1.size)
        clear htj
        go_wp2_with fail
        go_ret
        exact ⟨ret_bool (unhide fin).symm, BW4⟩
    · have hje : j = ks := by omega
      have fin := hide ((unhide fin0).trans (show (Tr.links (Co.nd n)).all (Co.okF f l) = true by
        have := hall.out
        rw [List.take_of_length_le (by rw [unhide hlall]; omega)] at this
        exact this))
      have g1 : ¬ (j : Int) < (ks : Int) := by omega
      clear hje
      go_wp2_with fail
      refine ((unhide HK) _).mono ?_
      rintro e w2 ⟨rfl, hw2⟩
      subst w2
      go_wp2_with fail
      go_ret
      exact ⟨ret_bool (unhide fin).symm, BW⟩

theorem l6Known_any (b : Nat) (l : List Co) (h900 : l.length ≤ 900) (hf : Tr.Fine (Co.tree l)) (hod : Tr.inOrder (Co.tree l) = true) (hop : ∀ i, i < l.length → 1 ≤ (l.getD i Co.zero).op ∧ (l.getD i Co.zero).op ≤ 17) (hnum : ∀ i, i < l.length → 0 ≤ (l.getD i Co.zero).num) (f : Nat) : f ≤ 900 → KnoSays b l f := by
  induction f with
  | zero => intro _ i ss nv w hi hif; omega
  | succ f ih => intro h; exact l6Known_step b l f h900 hf hod hop hnum (by omega) (ih (by omega))

end Go.Proofs.YtbaanpgbfncdnaaGreat
