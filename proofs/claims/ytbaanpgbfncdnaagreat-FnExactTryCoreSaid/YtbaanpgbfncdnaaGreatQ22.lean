/-
  spec.l6Order: the nodes of a core below one in their order, cut where there are too many.
-/
import Derived.Test.YtbaanpgbfncdnaaGreatQ19
import Derived.Test.YtbaanpgbfncdnaaGreatQ21
namespace Go.Proofs.YtbaanpgbfncdnaaGreat
open Go.RowKit
set_option linter.unusedVariables false
set_option linter.unusedSimpArgs false

/-- The fields of the nodes of a core alone. -/
def Co.Flat (w : World) (b : Nat) (l : List Co) : Prop := ∀ i, i < l.length → w.cell? ⟨b, i * 6, none⟩ = some (.int .i64 (l.getD i Co.zero).op) ∧ w.cell? ⟨b, i * 6 + 1, none⟩ = some (.int .i64 (l.getD i Co.zero).a) ∧ w.cell? ⟨b, i * 6 + 2, none⟩ = some (.int .i64 (l.getD i Co.zero).b) ∧ w.cell? ⟨b, i * 6 + 3, none⟩ = some (.int .i64 (l.getD i Co.zero).c) ∧ w.cell? ⟨b, i * 6 + 4, none⟩ = some (.int .i64 (l.getD i Co.zero).num) ∧ ∃ g : Nat, w.cell? ⟨b, i * 6 + 5, none⟩ = some (.slice (some ⟨g, 0, none⟩) (l.getD i Co.zero).val.length (l.getD i Co.zero).val.length)
theorem Co.Row.flat {w : World} {b : Nat} {l : List Co} (h : Co.Row w b l) : Co.Flat w b l := fun i hi => by
  obtain ⟨h0, h1, h2, h3, h4, g, h5, _, _⟩ := h i hi
  exact ⟨h0, h1, h2, h3, h4, g, h5⟩
theorem Co.Flat.below {B : Nat} {w w' : World} {b : Nat} {l : List Co} (h : Co.Flat w b l) (hb : Below B w w') (hB : b < B) : Co.Flat w' b l := by
  intro i hi
  obtain ⟨h0, h1, h2, h3, h4, g, h5⟩ := h i hi
  exact ⟨(hb.cell (by exact hB)).trans h0, (hb.cell (by exact hB)).trans h1, (hb.cell (by exact hB)).trans h2, (hb.cell (by exact hB)).trans h3, (hb.cell (by exact hB)).trans h4, g, (hb.cell (by exact hB)).trans h5⟩

/-- What l6Order of a node answers, where it may call itself f times deep. -/
def CordSays (b B0 : Nat) (l : List Co) (f : Nat) : Prop := ∀ (i : Nat) (out : List Int) (v : Value) (w : World), i < l.length → i < f → out.length ≤ 5000 - 2 * f → Co.Flat w b l → b < B0 → B0 ≤ w.heap.size → w.ownsRow B0 2 1 v out.length (out.map (Value.int .i64)) →
    Calls Tryz.prog 52 #[.slice (some ⟨b, 0, none⟩) l.length l.length, .int .i64 i, v] w fun e w' => ∃ v', e = .returned v' ∧ w'.ownsRow B0 2 1 v' (Tr.cutF f (Co.tree l) out i).length ((Tr.cutF f (Co.tree l) out i).map (Value.int .i64)) ∧ Tr.Kp B0 w w'

set_option maxRecDepth 100000 in
set_option maxHeartbeats 2000000 in
theorem l6Order_step (b B0 : Nat) (l : List Co) (f : Nat) (h900 : l.length ≤ 900) (hf : Tr.Fine (Co.tree l)) (hop : ∀ i, i < l.length → 1 ≤ (l.getD i Co.zero).op ∧ (l.getD i Co.zero).op ≤ 17) (hf2 : f < 900) (ih : CordSays b B0 l f) : CordSays b B0 l (f + 1) := by
  intro i out v w hi hif hlen hrow hb hB hown
  have hiI : (i : Int) < (l.length : Int) := by omega
  have hopi := hop i hi
  obtain ⟨f0, f1, f2, f3, f4, vg, f5⟩ := hrow i hi
  have htl := Co.tree_length l
  have hT := Co.tree_getD l hi
  have hkk := Co.nd_kids (l.getD i Co.zero).op
  have hkl := Co.kids_le (l.getD i Co.zero).op
  have hall := hide (Tr.cutK_all f (Co.tree l) out i)
  have hfin := hide (fun j hj => Tr.kid_fine hf i (by omega) j hj)
  have hsucc := hide (fun j hj => Tr.cutK_succ f (Co.tree l) ((Co.tree l).getD i Nd.zero) out j hj)
  have hstop := hide (fun j h hm => Tr.cutK_stop f (Co.tree l) ((Co.tree l).getD i Nd.zero) out j _ h hm (Nat.le_refl _))
  have hbd := hide (fun j => Tr.cutK_le f (Co.tree l) ((Co.tree l).getD i Nd.zero) out (5000 - 2 * (f + 1)) (by omega) (by omega) j)
  have hz := hide (Tr.cutK_zero f (Co.tree l) ((Co.tree l).getD i Nd.zero) out)
  have HR := hide hrow
  have HIH := hide ih
  have HK := hide (fun wq => l6Kids_any (l.getD i Co.zero).op wq hopi.1 hopi.2)
  have HKD := hide (fun j hj wq => l6Kid_any (l.getD i Co.zero) vg j hj wq)
  rw [hT] at hall hfin hsucc hstop hbd hz
  obtain ⟨i0, hi0, hz0, hz1, hz2⟩ := info_parts Tr.infoI
  clear hop hf hrow ih hopi hT
  generalize l.getD i Co.zero = n at *
  have hnk : Tr.kids (Co.nd n).op = Co.kids n.op := hkk
  rw [hnk] at hall hfin hsucc hstop
  clear hnk hkk
  obtain ⟨ks, hks⟩ : ∃ ks, ks = Co.kids n.op := ⟨_, rfl⟩
  rw [← hks] at hkl hall hfin hsucc hstop HK
  clear hks
  rw [htl] at hsucc hstop
  clear htl
  obtain ⟨w1, hw1⟩ : ∃ w1, w1 = w.alloc (.cells #[.int .i64 n.op, .int .i64 n.a, .int .i64 n.b, .int .i64 n.c, .int .i64 n.num, .slice (some ⟨vg, 0, none⟩) n.val.length n.val.length] 47) := ⟨_, rfl⟩
  have B1 : Below w.heap.size w w1 := by rw [hw1]; exact (Below.refl _ _).alloc (Nat.le_refl _) _
  have N1 : Own w1 w.heap.size 47 [.int .i64 n.op, .int .i64 n.a, .int .i64 n.b, .int .i64 n.c, .int .i64 n.num, .slice (some ⟨vg, 0, none⟩) n.val.length n.val.length] := by rw [hw1]; exact ⟨_, heap_alloc_new _ _, rfl⟩
  have hown1 := Tr.owns_below hown B1
  obtain ⟨va, vc, hv⟩ := Tr.owns_slice hown
  have HO1 := hide hown1
  clear hown hown1
  subst hv
  go_enter Tryz.func52, Tryz.ntmps52
  go_wp2_with fail
  rw [← hw1]
  clear hw1 f0 f1 f2 f3 f4 f5
  go_loopg [2, 8] 4 (fun gh s2 s8 wr => ∃ (j : Nat) (L : List Int), Hid (gh = 4 - j) ∧ s8 = .int .i64 j ∧ j ≤ ks ∧ Hid (L = Tr.cutK f (Co.tree l) (Co.nd n) out j) ∧ wr.ownsRow B0 2 1 s2 L.length (L.map (Value.int .i64)) ∧ Tr.Kp B0 w1 wr ∧ Own wr w.heap.size 47 [.int .i64 n.op, .int .i64 n.a, .int .i64 n.b, .int .i64 n.c, .int .i64 n.num, .slice (some ⟨vg, 0, none⟩) n.val.length n.val.length])
  case atStart => exact ⟨0, out, rfl, rfl, by omega, (unhide hz).symm, unhide HO1, Tr.Kp.refl _ _, N1⟩
  case round =>
    obtain ⟨j, L, hg, rfl, hj, hL, hown, hbel, hN⟩ := hrel
    obtain ⟨ua, uc, hu⟩ := Tr.owns_slice hown
    subst hu
    have K1 : Tr.Kp B0 w w1 := Tr.Kp.of_below B1 hB
    have KW := K1.trans hbel
    have hsz := KW.1.size
    have c0 := hN.cell 0
    have c1 := hN.cell 1
    have c2 := hN.cell 2
    have c3 := hN.cell 3
    have c4 := hN.cell 4
    have c5 := hN.cell 5
    simp only [List.getElem?_cons_zero, List.getElem?_cons_succ] at c0 c1 c2 c3 c4 c5
    have hLb : L.length ≤ 5000 := by rw [hL.out]; have := (unhide hbd) j; omega
    have HL := hide hown
    have hjI : (j : Int) ≤ (ks : Int) := by omega
    by_cases hgo : j < ks ∧ L.length ≤ l.length
    · obtain ⟨hjl, hll⟩ := hgo
      have g1 : (j : Int) < (ks : Int) := by omega
      have g2 : (L.length : Int) ≤ (l.length : Int) := by omega
      have hb1 := (unhide hfin) j hjl
      have hs1 := hide ((unhide hsucc) j hjl)
      obtain ⟨x, hx⟩ : ∃ x : Nat, Tr.kidAt (Co.nd n) j = x := ⟨(Tr.kidAt (Co.nd n) j).toNat, by omega⟩
      have HKJ := hide (fun wq => (unhide HKD) j (by omega) wq)
      rw [hx] at hb1 hs1 HKJ
      simp only [Int.toNat_natCast] at hs1
      have hxi : x < i := by omega
      clear hx hb1
      go_wp2_with fail
      refine ((unhide HK) _).mono ?_
      rintro e w2 ⟨rfl, hw2⟩
      subst w2
      go_wp2_with fail
      refine ((unhide HKJ) _).mono ?_
      rintro e w3 ⟨rfl, hb3⟩
      have K3 : Tr.Kp B0 wr w3 := Tr.Kp.of_below hb3 (by omega)
      have hN3 := K3.own hN (by decide)
      have KW3 := KW.trans K3
      clear c0 c1 c2 c3 c4 c5
      go_wp2_with fail
      refine ((unhide HIH) x L _ w3 (by omega) (by omega) (by omega) ((unhide HR).below KW3.1 hb) hb (by have := KW3.1.size; omega) (Tr.owns_below (unhide HL) hb3)).mono ?_
      rintro e w4 ⟨v4, rfl, ho4, k4⟩
      have hN4 := k4.own hN3 (by decide)
      have HO4 := hide ho4
      clear ho4
      go_wp2_with fail
      go_roundg (4 - (j + 1))
      case rel => exact ⟨j + 1, _, rfl, by go_num, by omega, by (show _ = _; rw [unhide hs1, ← hL.out, if_pos hll]), unhide HO4, hbel.trans (K3.trans k4), hN4⟩
      case measure => have := hg.out; omega
    · have hend : L = Tr.cutK f (Co.tree l) (Co.nd n) out ks := by
        by_cases hjl : j < ks
        · rw [hL.out]
          exact ((unhide hstop) j (by rw [← hL.out]; intro h; exact hgo ⟨hjl, h⟩) (by omega)).symm
        · rw [hL.out, show j = ks by omega]
      have hfinal : Hid (Tr.cutF (f + 1) (Co.tree l) out i = L ++ [(i : Int)]) := (unhide hall).trans (by rw [hend])
      have hcond : (¬ (j : Int) < (ks : Int)) ∨ ((j : Int) < (ks : Int) ∧ ¬ (L.length : Int) ≤ (l.length : Int)) := by omega
      have hbse := hide (Tr.owns_base hown)
      have hown' := hide (fun o => hown.alloc o)
      have hone := hide (Tr.one_word wr (i : Int))
      have honep := hide (Tr.one_plain (i : Int))
      have hb63 : L.length + 1 ≤ maxLen := by unfold maxLen; omega
      have hby : (L.length + 1) * 8 ≤ 140737488355328 := by omega
      have hbase : B0 ≤ wr.heap.size + 1 := by omega
      clear hend hown hgo
      rcases hcond with g1 | ⟨g1, g2⟩
      · have g3 : decide ((j : Int) < (ks : Int)) = false := decide_eq_false g1
        go_wp2_with fail
        refine ((unhide HK) _).mono ?_
        rintro e w2 ⟨rfl, hw2⟩
        subst w2
        go_wp2_with (at_builtin; refine wpList_append_own_at _ rfl (.tmp 33) (.tmp 35) 34 rfl B0 2 i0 (.int .i64 0) 1 8 Tryz.underlying34 hi0 hz0 hz1 hz2 rfl (by decide) _ L.length _ rfl ((unhide hown') _) ⟨wr.heap.size, 0, none⟩ 1 1 [.int .i64 i] rfl rfl (unhide hone) (unhide honep) hb63 hby (by simpa using hbase) ?_)
        intro v' w3 ho3 hg3 _ _
        have K3 : Tr.Kp B0 w w3 := (KW.trans (Tr.Kp.of_below ((Below.refl _ _).alloc (Nat.le_refl _) _) (by omega))).trans (Tr.Kp.grown ((unhide hown') _) hg3 (by simpa using hbase))
        obtain ⟨xa, xc, hx⟩ := Tr.owns_slice ho3
        subst hx
        have HO3 := hide ho3
        clear ho3 hg3
        go_wp2_with fail
        go_ret
        refine ⟨_, rfl, ?_, K3⟩
        rw [hfinal.out, List.length_append, List.map_append]; exact unhide HO3
      · have g4 : decide ((L.length : Int) ≤ (l.length : Int)) = false := decide_eq_false g2
        go_wp2_with fail
        refine ((unhide HK) _).mono ?_
        rintro e w2 ⟨rfl, hw2⟩
        subst w2
        go_wp2_with (at_builtin; refine wpList_append_own_at _ rfl (.tmp 33) (.tmp 35) 34 rfl B0 2 i0 (.int .i64 0) 1 8 Tryz.underlying34 hi0 hz0 hz1 hz2 rfl (by decide) _ L.length _ rfl ((unhide hown') _) ⟨wr.heap.size, 0, none⟩ 1 1 [.int .i64 i] rfl rfl (unhide hone) (unhide honep) hb63 hby (by simpa using hbase) ?_)
        intro v' w3 ho3 hg3 _ _
        have K3 : Tr.Kp B0 w w3 := (KW.trans (Tr.Kp.of_below ((Below.refl _ _).alloc (Nat.le_refl _) _) (by omega))).trans (Tr.Kp.grown ((unhide hown') _) hg3 (by simpa using hbase))
        obtain ⟨xa, xc, hx⟩ := Tr.owns_slice ho3
        subst hx
        have HO3 := hide ho3
        clear ho3 hg3
        go_wp2_with fail
        go_ret
        refine ⟨_, rfl, ?_, K3⟩
        rw [hfinal.out, List.length_append, List.map_append]; exact unhide HO3

theorem l6Order_any (b B0 : Nat) (l : List Co) (h900 : l.length ≤ 900) (hf : Tr.Fine (Co.tree l)) (hop : ∀ i, i < l.length → 1 ≤ (l.getD i Co.zero).op ∧ (l.getD i Co.zero).op ≤ 17) (f : Nat) : f ≤ 900 → CordSays b B0 l f := by
  induction f with
  | zero => intro _ i out v w hi hif; omega
  | succ f ih => intro h; exact l6Order_step b B0 l f h900 hf hop (by omega) (ih (by omega))

end Go.Proofs.YtbaanpgbfncdnaaGreat
