/-
  impl.DecodeNumber.
-/
import Derived.Test.YtabpjknbdahddaaGreatDoorNumP
import Derived.Test.YtabpjknbdahddaaGreatDoorShelf
import Derived.Lib.AtoiErrMem
namespace Go.Proofs.YtabpjknbdahddaaGreatDoor
open Go.RowKit
set_option linter.unusedVariables false
set_option linter.unusedSimpArgs false

theorem below_drewN2 {B : Nat} {a b : World} (h : Below B a b) (q : Nat) : Below B a (b.drewN q) := ⟨h.os, h.tape, h.output, h.size, h.block⟩
theorem J.num_pos {s : ByteArray} {m : Nat} (h : J.num s 0 = ((m : Int), 0)) : 0 < s.size := by
  unfold J.num at h
  by_cases hp : J.sign s 0 < s.size
  · omega
  · rw [dif_neg hp] at h
    have := congrArg Prod.fst h
    simp only at this
    omega

set_option maxHeartbeats 1000000 in
theorem numberFits_num (n : Int) (w : World) : Calls Tryz.prog 161 #[.int .i64 n] w fun e w' => e = .returned (.bool (decide (-1000000000000000 ≤ n) && decide (n ≤ 1000000000000000))) ∧ w' = w := by
  by_cases h1 : -1000000000000000 ≤ n
  · by_cases h2 : n ≤ 1000000000000000
    · go_enter Tryz.func161, Tryz.ntmps161
      go_wp2
      go_ret
      exact ⟨ret_bool (by first | simp [h1, h2] | (simp; omega)), rfl⟩
    · go_enter Tryz.func161, Tryz.ntmps161
      go_wp2
      go_ret
      exact ⟨ret_bool (by first | simp [h1, h2] | (simp; omega)), rfl⟩
  · go_enter Tryz.func161, Tryz.ntmps161
    go_wp2
    go_ret
    exact ⟨ret_bool (by first | (simp; omega) | simp [h1]), rfl⟩

set_option maxRecDepth 100000 in
set_option maxHeartbeats 4000000 in
theorem impl_DecodeNumber (s : ByteArray) (w : World) (hs : s.size ≤ 1048576) (ev : Value) (hev : ev = .nilIface ∨ ∃ te pe, ev = .iface te pe) (g : Nat) (hg : g < w.heap.size) (hv : w.cell? ⟨g, 0, none⟩ = some ev) (hgv : g = 6) :
    Calls Tryz.prog 133 #[.string s] w fun e w' => e = .returned (.agg #[.int .i64 (J.numOut s).1, .int .i64 (J.numOut s).2]) ∧ Below w.heap.size w w' := by
  subst hgv
  obtain ⟨w1, hw1⟩ : ∃ w1, w1 = (w.alloc (.cells #[.int .i64 0, .int .i64 0] 207)).alloc (.cells #[.string s, .int .i64 0] 54) := ⟨_, rfl⟩
  have hX : Own w1 w.heap.size 207 [.int .i64 0, .int .i64 0] := by rw [hw1]; exact Own.alloc ⟨_, heap_alloc_new _ _, rfl⟩ _
  have hR : Rd w1 (w.heap.size + 1) 54 s 0 [] := by
    rw [hw1]
    exact ⟨_, by rw [← show (w.alloc (.cells #[.int .i64 0, .int .i64 0] 207)).heap.size = w.heap.size + 1 by simp]; exact heap_alloc_new _ _, rfl⟩
  have B1 : Below w.heap.size w w1 := by rw [hw1]; exact ((Below.refl _ _).alloc (Nat.le_refl _) _).alloc (by simp) _
  have hs1 : w1.heap.size = w.heap.size + 2 := by rw [hw1]; simp
  have HN := hide (numeral_any (w.heap.size + 1) _ s 0 [] w1 hR (by omega) hs)
  go_enter Tryz.func133, Tryz.ntmps133
  go_wp2_with fail
  rw [← hw1]
  clear hw1 hR
  refine (unhide HN).mono ?_
  rintro e w2 ⟨hleft, ht2⟩
  have hX2 : Own w2 w.heap.size 207 [.int .i64 0, .int .i64 0] := by
    obtain ⟨c, h1, h2⟩ := hX
    exact ⟨c, (ht2.block w.heap.size (by omega) (by omega)).trans h1, h2⟩
  have B2 : Below w.heap.size w w2 := B1.trans (ht2.below (by omega) (by omega))
  clear hX HN ht2 B1
  rcases hleft with ⟨m, hnum, hm, rfl, hR2⟩ | ⟨m, hnum, hm, rfl, hR2⟩
  · have hpos := J.num_pos hnum
    have HE := hide (ended_any (w.heap.size + 1) _ s m [] w2 hR2 hs)
    by_cases hend : s.size ≤ m
    · have hisn : J.isNum s := ⟨by rw [hnum]; simp only; omega, hpos⟩
      have hed : decide (s.size ≤ m) = true := decide_eq_true hend
      rw [hed] at HE
      have H2 := J.numVal_two hisn
      rcases J.parse_num hisn with ⟨hp, hbig⟩ | ⟨hp, hle⟩
      · have fin := hide (J.numOut_big hisn (by rw [H2]; exact decide_eq_false (by omega)))
        have HP := hide (fun (wq : World) (hq : Below w.heap.size w wq) => Tryz.strconv_ParseInt_10_at64_range s (by omega) hp ev wq ((hq.cell (p := ⟨6, 0, none⟩) hg).trans hv) hev)
        clear hp hbig H2 hisn hed hend hnum
        go_wp2_with fail
        refine (unhide HE).mono ?_
        rintro e w3 ⟨rfl, q, rfl⟩
        have hX3 : Own (w2.drewN q) w.heap.size 207 [.int .i64 0, .int .i64 0] := hX2
        have B3 : Below w.heap.size w (w2.drewN q) := below_drewN2 B2 q
        clear hX2 B2 hR2 HE
        generalize w2.drewN q = w3 at *
        go_wp2_with fail
        refine ((unhide HP) _ B3).mono ?_
        rintro e w4 ⟨N, rfl, _, _, hb4⟩
        have hX4 := hX3.below hb4 hX3.lt
        have B4 : Below w.heap.size w w4 := B3.trans (hb4.mono B3.size)
        clear hX3 B3 hb4 HP
        have r0 := hX4.cell 0
        have r1 := hX4.cell 1
        have z0 := hX4.frozen 0
        have z1 := hX4.frozen 1
        simp only [List.getElem?_cons_zero, List.getElem?_cons_succ] at r0 r1
        go_wp2_with fail
        refine bodyPost_ret (v := .agg #[.int .i64 3, .int .i64 0]) (by simp [results, Tryz.results133, go_sem, r0, r1]) rfl ⟨by rw [unhide fin], ?_⟩
        exact (B4.setCell (Nat.le_refl _) _).setCell (Nat.le_refl _) _
      · obtain ⟨v, hvv⟩ : ∃ v : Int, v = if J.negOf s = true then -(J.valK (J.digitsOf s) (J.digitsOf s).size) else J.valK (J.digitsOf s) (J.digitsOf s).size := ⟨_, rfl⟩
        rw [← hvv] at hp
        have hge := (J.valK_bd (J.digitsOf s) (J.digits_all hisn) _ (Nat.le_refl _)).1
        have HP := hide (fun (wq : World) => Tryz.strconv_ParseInt_10_at64_ok s (by omega) v hp wq)
        have hfit : (decide (-1000000000000000 ≤ v) && decide (v ≤ 1000000000000000)) = (J.numVal (J.negOf s) (J.digitsOf s)).2 := by
          rw [H2, Bool.eq_iff_iff]
          simp only [Bool.and_eq_true, decide_eq_true_eq]
          rw [hvv]
          split <;> omega
        have HF := hide (numberFits_num v)
        cases hok : (J.numVal (J.negOf s) (J.digitsOf s)).2 with
        | true =>
          have hone := J.numVal_one hisn (by rw [H2] at hok; exact of_decide_eq_true hok)
          rw [← hvv] at hone
          have fin := hide ((J.numOut_ok hisn hok).trans (by rw [hone]))
          rw [hok] at hfit
          clear hp H2 hisn hed hend hnum hvv hone hok hge hle
          go_wp2_with fail
          refine (unhide HE).mono ?_
          rintro e w3 ⟨rfl, q, rfl⟩
          have hX3 : Own (w2.drewN q) w.heap.size 207 [.int .i64 0, .int .i64 0] := hX2
          have B3 : Below w.heap.size w (w2.drewN q) := below_drewN2 B2 q
          clear hX2 B2 hR2 HE
          generalize w2.drewN q = w3 at *
          go_wp2_with fail
          refine ((unhide HP) _).mono ?_
          rintro e w4 ⟨rfl, hw4⟩
          have hb4 : Below w3.heap.size w3 w4 := by
            rcases hw4 with rfl | ⟨t, rfl⟩
            · exact Below.refl _ _
            · exact Lib.bytesWorld_below _ _ _
          have hX4 := hX3.below hb4 hX3.lt
          have B4 : Below w.heap.size w w4 := B3.trans (hb4.mono B3.size)
          clear hX3 B3 hb4 HP hw4
          go_wp2_with fail
          refine ((unhide HF) _).mono ?_
          rintro e w5 ⟨rfl, hw5⟩
          have hw6 := hw5.symm
          clear hw5
          subst hw6
          rw [hfit]
          have r0 := hX4.cell 0
          have r1 := hX4.cell 1
          have z0 := hX4.frozen 0
          have z1 := hX4.frozen 1
          simp only [List.getElem?_cons_zero, List.getElem?_cons_succ] at r0 r1
          go_wp2_with fail
          refine bodyPost_ret (v := .agg #[.int .i64 0, .int .i64 v]) (by simp [results, Tryz.results133, go_sem, r0, r1]) rfl ⟨by rw [unhide fin], ?_⟩
          exact (B4.setCell (Nat.le_refl _) _).setCell (Nat.le_refl _) _
        | false =>
          have fin := hide (J.numOut_big hisn hok)
          rw [hok] at hfit
          clear hp H2 hisn hed hend hnum hvv hok hge hle
          go_wp2_with fail
          refine (unhide HE).mono ?_
          rintro e w3 ⟨rfl, q, rfl⟩
          have hX3 : Own (w2.drewN q) w.heap.size 207 [.int .i64 0, .int .i64 0] := hX2
          have B3 : Below w.heap.size w (w2.drewN q) := below_drewN2 B2 q
          clear hX2 B2 hR2 HE
          generalize w2.drewN q = w3 at *
          go_wp2_with fail
          refine ((unhide HP) _).mono ?_
          rintro e w4 ⟨rfl, hw4⟩
          have hb4 : Below w3.heap.size w3 w4 := by
            rcases hw4 with rfl | ⟨t, rfl⟩
            · exact Below.refl _ _
            · exact Lib.bytesWorld_below _ _ _
          have hX4 := hX3.below hb4 hX3.lt
          have B4 : Below w.heap.size w w4 := B3.trans (hb4.mono B3.size)
          clear hX3 B3 hb4 HP hw4
          go_wp2_with fail
          refine ((unhide HF) _).mono ?_
          rintro e w5 ⟨rfl, hw5⟩
          have hw6 := hw5.symm
          clear hw5
          subst hw6
          rw [hfit]
          have r0 := hX4.cell 0
          have r1 := hX4.cell 1
          have z0 := hX4.frozen 0
          have z1 := hX4.frozen 1
          simp only [List.getElem?_cons_zero, List.getElem?_cons_succ] at r0 r1
          go_wp2_with fail
          refine bodyPost_ret (v := .agg #[.int .i64 3, .int .i64 0]) (by simp [results, Tryz.results133, go_sem, r0, r1]) rfl ⟨by rw [unhide fin], ?_⟩
          exact (B4.setCell (Nat.le_refl _) _).setCell (Nat.le_refl _) _
    · have hnot : ¬ J.isNum s := fun h => by
        have := h.1
        rw [hnum] at this
        simp only at this
        omega
      have fin := hide (J.numOut_no hnot)
      have hed : decide (s.size ≤ m) = false := decide_eq_false hend
      rw [hed] at HE
      clear hed hend hnum hnot
      go_wp2_with fail
      refine (unhide HE).mono ?_
      rintro e w3 ⟨rfl, q, rfl⟩
      have hX3 : Own (w2.drewN q) w.heap.size 207 [.int .i64 0, .int .i64 0] := hX2
      have B3 : Below w.heap.size w (w2.drewN q) := below_drewN2 B2 q
      clear hX2 B2 hR2 HE
      generalize w2.drewN q = w3 at *
      have r0 := hX3.cell 0
      have r1 := hX3.cell 1
      have z0 := hX3.frozen 0
      have z1 := hX3.frozen 1
      simp only [List.getElem?_cons_zero, List.getElem?_cons_succ] at r0 r1
      go_wp2_with fail
      refine bodyPost_ret (v := .agg #[.int .i64 5, .int .i64 0]) (by simp [results, Tryz.results133, go_sem, r0, r1]) rfl ⟨by rw [unhide fin], ?_⟩
      exact (B3.setCell (Nat.le_refl _) _).setCell (Nat.le_refl _) _
  · have hnot : ¬ J.isNum s := fun h => by
      have := h.1
      rw [hnum] at this
      simp only at this
      omega
    have fin := hide (J.numOut_no hnot)
    clear hnum hnot hR2
    have r0 := hX2.cell 0
    have r1 := hX2.cell 1
    have z0 := hX2.frozen 0
    have z1 := hX2.frozen 1
    simp only [List.getElem?_cons_zero, List.getElem?_cons_succ] at r0 r1
    go_wp2_with fail
    refine bodyPost_ret (v := .agg #[.int .i64 5, .int .i64 0]) (by simp [results, Tryz.results133, go_sem, r0, r1]) rfl ⟨by rw [unhide fin], ?_⟩
    exact (B2.setCell (Nat.le_refl _) _).setCell (Nat.le_refl _) _

end Go.Proofs.YtabpjknbdahddaaGreatDoor
