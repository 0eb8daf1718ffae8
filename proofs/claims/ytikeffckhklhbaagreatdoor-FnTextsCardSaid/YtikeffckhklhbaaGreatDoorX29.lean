/-
  impl.DecodeNumber.
  (*scalarReader).wholeNumber.
-/
import Derived.Test.YtikeffckhklhbaaGreatDoorX04
import Derived.Test.YtikeffckhklhbaaGreatDoorX26
import Derived.Test.YtikeffckhklhbaaGreatDoorX28
import Derived.Deep.RegionHeld3
import Derived.Lib.AtoiErrMem
import Derived.Test.YtikeffckhklhbaaGreatDoorShelf
namespace Go.Proofs.YtikeffckhklhbaaGreatDoor
open Go.RowKit
set_option linter.unusedVariables false
set_option linter.unusedSimpArgs false

theorem below_drewN2 {B : Nat} {a b : World} (h : Below B a b) (q : Nat) : Below B a (b.drewN q) := ⟨h.os, h.tape, h.output, h.size, h.block⟩
theorem J.num_pos {s : ByteArray} {m : Nat} (h : J.num s 0 = ((m : Int), 0)) : 0 < s.size := by
  unfold J.num at h
  by_cases hp : J.sign s 0 < s.size
  · omega
  · rw [dif_neg hp] at h
    have := congrArg Prod.fst h
    simp only at this
    omega

set_option maxHeartbeats 1000000 in
theorem numberFits_num (n : Int) (w : World) : Calls Tryz.prog 58 #[.int .i64 n] w fun e w' => e = .returned (.bool (decide (-1000000000000000 ≤ n) && decide (n ≤ 1000000000000000))) ∧ w' = w := by
  by_cases h1 : -1000000000000000 ≤ n
  · by_cases h2 : n ≤ 1000000000000000
    · go_enter Tryz.func58, Tryz.ntmps58
      go_wp2
      go_ret
      exact ⟨ret_bool (by first | simp [h1, h2] | (simp; omega)), rfl⟩
    · go_enter Tryz.func58, Tryz.ntmps58
      go_wp2
      go_ret
      exact ⟨ret_bool (by first | simp [h1, h2] | (simp; omega)), rfl⟩
  · go_enter Tryz.func58, Tryz.ntmps58
    go_wp2
    go_ret
    exact ⟨ret_bool (by first | (simp; omega) | simp [h1]), rfl⟩

set_option maxRecDepth 100000 in
set_option maxHeartbeats 4000000 in
theorem impl_DecodeNumber (s : ByteArray) (w : World) (hs : s.size ≤ 1048576) (ev : Value) (hev : ev = .nilIface ∨ ∃ te pe, ev = .iface te pe) (g : Nat) (hg : g < w.heap.size) (hv : w.cell? ⟨g, 0, none⟩ = some ev) (hgv : g = 6) :
    Calls Tryz.prog 119 #[.string s] w fun e w' => e = .returned (.agg #[.int .i64 (J.numOut s).1, .int .i64 (J.numOut s).2]) ∧ Below w.heap.size w w' := by
  subst hgv
  obtain ⟨w1, hw1⟩ : ∃ w1, w1 = (w.alloc (.cells #[.int .i64 0, .int .i64 0] 169)).alloc (.cells #[.string s, .int .i64 0] 47) := ⟨_, rfl⟩
  have hX : Own w1 w.heap.size 169 [.int .i64 0, .int .i64 0] := by rw [hw1]; exact Own.alloc ⟨_, heap_alloc_new _ _, rfl⟩ _
  have hR : Rd w1 (w.heap.size + 1) 47 s 0 [] := by
    rw [hw1]
    exact ⟨_, by rw [← show (w.alloc (.cells #[.int .i64 0, .int .i64 0] 169)).heap.size = w.heap.size + 1 by simp]; exact heap_alloc_new _ _, rfl⟩
  have B1 : Below w.heap.size w w1 := by rw [hw1]; exact ((Below.refl _ _).alloc (Nat.le_refl _) _).alloc (by simp) _
  have hs1 : w1.heap.size = w.heap.size + 2 := by rw [hw1]; simp
  have HN := hide (numeral_any (w.heap.size + 1) _ s 0 [] w1 hR (by omega) hs)
  go_enter Tryz.func119, Tryz.ntmps119
  go_wp2_with fail
  rw [← hw1]
  clear hw1 hR
  refine (unhide HN).mono ?_
  rintro e w2 ⟨hleft, ht2⟩
  have hX2 : Own w2 w.heap.size 169 [.int .i64 0, .int .i64 0] := by
    obtain ⟨c, h1, h2⟩ := hX
    exact ⟨c, (ht2.block w.heap.size (by omega) (by omega)).trans h1, h2⟩
  have B2 : Below w.heap.size w w2 := B1.trans (ht2.below (by omega) (by omega))
  clear hX HN ht2 B1
  rcases hleft with ⟨m, hnum, hm, rfl, hR2⟩ | ⟨m, hnum, hm, rfl, hR2⟩
  · have hpos := J.num_pos hnum
    have HE := hide (ended_any (w.heap.size + 1) _ s m [] w2 hR2 hs)
    by_cases hend : s.size ≤ m
    · have hisn : J.isNum s := ⟨by rw [hnum]; simp only; omega, hpos⟩
      have hed : decide (s.size ≤ m) = true := decide_eq_true hend
      rw [hed] at HE
      have H2 := J.numVal_two hisn
      rcases J.parse_num hisn with ⟨hp, hbig⟩ | ⟨hp, hle⟩
      · have fin := hide (J.numOut_big hisn (by rw [H2]; exact decide_eq_false (by omega)))
        have HP := hide (fun (wq : World) (hq : Below w.heap.size w wq) => Tryz.strconv_ParseInt_10_at64_range s (by omega) hp ev wq ((hq.cell (p := ⟨6, 0, none⟩) hg).trans hv) hev)
        clear hp hbig H2 hisn hed hend hnum
        go_wp2_with fail
        refine (unhide HE).mono ?_
        rintro e w3 ⟨rfl, q, rfl⟩
        have hX3 : Own (w2.drewN q) w.heap.size 169 [.int .i64 0, .int .i64 0] := hX2
        have B3 : Below w.heap.size w (w2.drewN q) := below_drewN2 B2 q
        clear hX2 B2 hR2 HE
        generalize w2.drewN q = w3 at *
        go_wp2_with fail
        refine ((unhide HP) _ B3).mono ?_
        rintro e w4 ⟨N, rfl, _, _, hb4⟩
        have hX4 := hX3.below hb4 hX3.lt
        have B4 : Below w.heap.size w w4 := B3.trans (hb4.mono B3.size)
        clear hX3 B3 hb4 HP
        have r0 := hX4.cell 0
        have r1 := hX4.cell 1
        have z0 := hX4.frozen 0
        have z1 := hX4.frozen 1
        simp only [List.getElem?_cons_zero, List.getElem?_cons_succ] at r0 r1
        go_wp2_with fail
        refine bodyPost_ret (v := .agg #[.int .i64 3, .int .i64 0]) (by simp [results, Tryz.results119, go_sem, r0, r1]) rfl ⟨by rw [unhide fin], ?_⟩
        exact (B4.setCell (Nat.le_refl _) _).setCell (Nat.le_refl _) _
      · obtain ⟨v, hvv⟩ : ∃ v : Int, v = if J.negOf s = true then -(J.valK (J.digitsOf s) (J.digitsOf s).size) else J.valK (J.digitsOf s) (J.digitsOf s).size := ⟨_, rfl⟩
        rw [← hvv] at hp
        have hge := (J.valK_bd (J.digitsOf s) (J.digits_all hisn) _ (Nat.le_refl _)).1
        have HP := hide (fun (wq : World) => Tryz.strconv_ParseInt_10_at64_ok s (by omega) v hp wq)
        have hfit : (decide (-1000000000000000 ≤ v) && decide (v ≤ 1000000000000000)) = (J.numVal (J.negOf s) (J.digitsOf s)).2 := by
          rw [H2, Bool.eq_iff_iff]
          simp only [Bool.and_eq_true, decide_eq_true_eq]
          rw [hvv]
          split <;> omega
        have HF := hide (numberFits_num v)
        cases hok : (J.numVal (J.negOf s) (J.digitsOf s)).2 with
        | true =>
          have hone := J.numVal_one hisn (by rw [H2] at hok; exact of_decide_eq_true hok)
          rw [← hvv] at hone
          have fin := hide ((J.numOut_ok hisn hok).trans (by rw [hone]))
          rw [hok] at hfit
          clear hp H2 hisn hed hend hnum hvv hone hok hge hle
          go_wp2_with fail
          refine (unhide HE).mono ?_
          rintro e w3 ⟨rfl, q, rfl⟩
          have hX3 : Own (w2.drewN q) w.heap.size 169 [.int .i64 0, .int .i64 0] := hX2
          have B3 : Below w.heap.size w (w2.drewN q) := below_drewN2 B2 q
          clear hX2 B2 hR2 HE
          generalize w2.drewN q = w3 at *
          go_wp2_with fail
          refine ((unhide HP) _).mono ?_
          rintro e w4 ⟨rfl, hw4⟩
          have hb4 : Below w3.heap.size w3 w4 := by
            rcases hw4 with rfl | ⟨t, rfl⟩
            · exact Below.refl _ _
            · exact Lib.bytesWorld_below _ _ _
          have hX4 := hX3.below hb4 hX3.lt
          have B4 : Below w.heap.size w w4 := B3.trans (hb4.mono B3.size)
          clear hX3 B3 hb4 HP hw4
          go_wp2_with fail
          refine ((unhide HF) _).mono ?_
          rintro e w5 ⟨rfl, hw5⟩
          have hw6 := hw5.symm
          clear hw5
          subst hw6
          rw [hfit]
          have r0 := hX4.cell 0
          have r1 := hX4.cell 1
          have z0 := hX4.frozen 0
          have z1 := hX4.frozen 1
          simp only [List.getElem?_cons_zero, List.getElem?_cons_succ] at r0 r1
          go_wp2_with fail
          refine bodyPost_ret (v := .agg #[.int .i64 0, .int .i64 v]) (by simp [results, Tryz.results119, go_sem, r0, r1]) rfl ⟨by rw [unhide fin], ?_⟩
          exact (B4.setCell (Nat.le_refl _) _).setCell (Nat.le_refl _) _
        | false =>
          have fin := hide (J.numOut_big hisn hok)
          rw [hok] at hfit
          clear hp H2 hisn hed hend hnum hvv hok hge hle
          go_wp2_with fail
          refine (unhide HE).mono ?_
          rintro e w3 ⟨rfl, q, rfl⟩
          have hX3 : Own (w2.drewN q) w.heap.size 169 [.int .i64 0, .int .i64 0] := hX2
          have B3 : Below w.heap.size w (w2.drewN q) := below_drewN2 B2 q
          clear hX2 B2 hR2 HE
          generalize w2.drewN q = w3 at *
          go_wp2_with fail
          refine ((unhide HP) _).mono ?_
          rintro e w4 ⟨rfl, hw4⟩
          have hb4 : Below w3.heap.size w3 w4 := by
            rcases hw4 with rfl | ⟨t, rfl⟩
            · exact Below.refl _ _
            · exact Lib.bytesWorld_below _ _ _
          have hX4 := hX3.below hb4 hX3.lt
          have B4 : Below w.heap.size w w4 := B3.trans (hb4.mono B3.size)
          clear hX3 B3 hb4 HP hw4
          go_wp2_with fail
          refine ((unhide HF) _).mono ?_
          rintro e w5 ⟨rfl, hw5⟩
          have hw6 := hw5.symm
          clear hw5
          subst hw6
          rw [hfit]
          have r0 := hX4.cell 0
          have r1 := hX4.cell 1
          have z0 := hX4.frozen 0
          have z1 := hX4.frozen 1
          simp only [List.getElem?_cons_zero, List.getElem?_cons_succ] at r0 r1
          go_wp2_with fail
          refine bodyPost_ret (v := .agg #[.int .i64 3, .int .i64 0]) (by simp [results, Tryz.results119, go_sem, r0, r1]) rfl ⟨by rw [unhide fin], ?_⟩
          exact (B4.setCell (Nat.le_refl _) _).setCell (Nat.le_refl _) _
    · have hnot : ¬ J.isNum s := fun h => by
        have := h.1
        rw [hnum] at this
        simp only at this
        omega
      have fin := hide (J.numOut_no hnot)
      have hed : decide (s.size ≤ m) = false := decide_eq_false hend
      rw [hed] at HE
      clear hed hend hnum hnot
      go_wp2_with fail
      refine (unhide HE).mono ?_
      rintro e w3 ⟨rfl, q, rfl⟩
      have hX3 : Own (w2.drewN q) w.heap.size 169 [.int .i64 0, .int .i64 0] := hX2
      have B3 : Below w.heap.size w (w2.drewN q) := below_drewN2 B2 q
      clear hX2 B2 hR2 HE
      generalize w2.drewN q = w3 at *
      have r0 := hX3.cell 0
      have r1 := hX3.cell 1
      have z0 := hX3.frozen 0
      have z1 := hX3.frozen 1
      simp only [List.getElem?_cons_zero, List.getElem?_cons_succ] at r0 r1
      go_wp2_with fail
      refine bodyPost_ret (v := .agg #[.int .i64 5, .int .i64 0]) (by simp [results, Tryz.results119, go_sem, r0, r1]) rfl ⟨by rw [unhide fin], ?_⟩
      exact (B3.setCell (Nat.le_refl _) _).setCell (Nat.le_refl _) _
  · have hnot : ¬ J.isNum s := fun h => by
      have := h.1
      rw [hnum] at this
      simp only at this
      omega
    have fin := hide (J.numOut_no hnot)
    clear hnum hnot hR2
    have r0 := hX2.cell 0
    have r1 := hX2.cell 1
    have z0 := hX2.frozen 0
    have z1 := hX2.frozen 1
    simp only [List.getElem?_cons_zero, List.getElem?_cons_succ] at r0 r1
    go_wp2_with fail
    refine bodyPost_ret (v := .agg #[.int .i64 5, .int .i64 0]) (by simp [results, Tryz.results119, go_sem, r0, r1]) rfl ⟨by rw [unhide fin], ?_⟩
    exact (B2.setCell (Nat.le_refl _) _).setCell (Nat.le_refl _) _

end Go.Proofs.YtikeffckhklhbaaGreatDoor

namespace Go.Proofs.YtikeffckhklhbaaGreatDoor
open Go.RowKit
set_option linter.unusedVariables false
set_option linter.unusedSimpArgs false

theorem Tch.cell {B b : Nat} {w w' : World} (h : Tch B b w w') (g o : Nat) (hg : g < B) (hb : g ≠ b) : w'.cell? ⟨g, o, none⟩ = w.cell? ⟨g, o, none⟩ := by
  simp only [World.cell?, h.block g hg hb]
theorem Tch.of_below {B b : Nat} {w w' : World} (h : Below B w w') : Tch B b w w' := ⟨h.os, h.tape, h.output, h.size, fun k hk _ => h.block k hk⟩
theorem Rd.below {B : Nat} {w w' : World} {b : Nat} {t : TypeId} {s : ByteArray} {k : Nat} {rest : List Value} (h : Rd w b t s k rest) (hb : Below B w w') (hB : b < B) : Rd w' b t s k rest := Own.below h hb hB
theorem kept_int1 {w w2 : World} (hb : Below (w.alloc (.cells #[.int .i64 0, .int .i64 0] 169)).drew.heap.size (w.alloc (.cells #[.int .i64 0, .int .i64 0] 169)).drew w2) : Own w2 w.heap.size 169 [.int .i64 0, .int .i64 0] :=
  Own.below (w := (w.alloc (.cells #[.int .i64 0, .int .i64 0] 169)).drew) ⟨_, heap_alloc_new _ _, rfl⟩ hb (by show w.heap.size < (w.alloc _).heap.size; simp)
theorem kept_int2 {w w2 : World} (hb : Below (w.alloc (.cells #[.int .i64 0, .int .i64 0] 169)).drew.drew.heap.size (w.alloc (.cells #[.int .i64 0, .int .i64 0] 169)).drew.drew w2) : Own w2 w.heap.size 169 [.int .i64 0, .int .i64 0] :=
  Own.below (w := (w.alloc (.cells #[.int .i64 0, .int .i64 0] 169)).drew.drew) ⟨_, heap_alloc_new _ _, rfl⟩ hb (by show w.heap.size < (w.alloc _).heap.size; simp)
theorem kept_int3 {w w2 : World} (hb : Below (w.alloc (.cells #[.int .i64 0, .int .i64 0] 169)).drew.drew.drew.heap.size (w.alloc (.cells #[.int .i64 0, .int .i64 0] 169)).drew.drew.drew w2) : Own w2 w.heap.size 169 [.int .i64 0, .int .i64 0] :=
  Own.below (w := (w.alloc (.cells #[.int .i64 0, .int .i64 0] 169)).drew.drew.drew) ⟨_, heap_alloc_new _ _, rfl⟩ hb (by show w.heap.size < (w.alloc _).heap.size; simp)
/-- What the program's reader of numbers leaves. -/
def NumbLeft (b : Nat) (t : TypeId) (s : ByteArray) (rest : List Value) (R : (Int × Nat) ⊕ (Int × Nat)) (e : Ending) (w' : World) : Prop :=
  (∃ c m, R = .inr (c, m) ∧ e = .returned (.tuple #[.int .i64 c, .nilIface]) ∧ m ≤ s.size ∧ Rd w' b t s m rest) ∨ (∃ (c : Int) (m q : Nat), R = .inl (c, m) ∧ e = .returned (.tuple #[.int .i64 0, .iface 55 (.agg #[.int .i64 c, .int .i64 (m : Int)])]) ∧ q ≤ s.size ∧ Rd w' b t s q rest)

set_option maxRecDepth 100000 in
set_option maxHeartbeats 2000000 in
theorem wholeNumber_any (b : Nat) (t : TypeId) (s : ByteArray) (k : Nat) (rest : List Value) (w : World) (h : Rd w b t s k rest) (hk : k ≤ s.size) (hs : s.size ≤ 1048576) (ev : Value) (hev : ev = .nilIface ∨ ∃ te pe, ev = .iface te pe) (hG : 6 < w.heap.size) (hGb : 6 ≠ b) (hv : w.cell? ⟨6, 0, none⟩ = some ev) :
    Calls Tryz.prog 107 #[.pointer (some ⟨b, 0, none⟩)] w fun e w' => NumbLeft b t s rest (J.wholeR s k) e w' ∧ Tch w.heap.size b w w' := by
  have q1 := h.cell 1
  simp only [List.getElem?_cons_zero, List.getElem?_cons_succ] at q1
  have hbw := h.lt
  go_enter Tryz.func107, Tryz.ntmps107
  go_wp2_with fail
  refine (numeral_any b t s k rest _ h hk hs).mono ?_
  rintro e w1 ⟨hleft, ht1⟩
  clear q1 h
  have hv1 : w1.cell? ⟨6, 0, none⟩ = some ev := (ht1.cell _ 0 hG hGb).trans hv
  have hG1 : 6 < w1.heap.size := Nat.lt_of_lt_of_le hG ht1.size
  rcases hleft with ⟨m, hnum, hm, rfl, hr1⟩ | ⟨m, hnum, hm, rfl, hr1⟩
  · have hext := J.isNum_ext hnum hm
    have HW := hide (J.wholeR_yes hnum)
    have hcode := J.numOut_code hext.1
    have hkm := hext.2
    have hes : (s.extract k m).size ≤ 1048576 := by rw [J.ext_size hm]; omega
    have HD := hide (fun (wq : World) (hq : Below w1.heap.size w1 wq) => impl_DecodeNumber (s.extract k m) wq hes ev hev 6 (Nat.lt_of_lt_of_le hG1 hq.size) ((hq.cell (p := ⟨6, 0, none⟩) hG1).trans hv1) rfl)
    clear hext hnum hv hv1 hG1
    have q0 := hr1.cell 0
    have q1 := hr1.cell 1
    simp only [List.getElem?_cons_zero, List.getElem?_cons_succ] at q0 q1
    have hb1 := hr1.lt
    have hkI : (k : Int) ≤ (m : Int) := by omega
    have hmI : (m : Int) ≤ (s.size : Int) := by omega
    generalize hX : J.numOut (s.extract k m) = R at *
    obtain ⟨x, y⟩ := R
    simp only at hcode HW
    have BR : Below w1.heap.size w1 w1 := Below.refl _ _
    have FIN := hide (fun (wf : World) (hbf : Below w1.heap.size w1 wf) => (⟨hr1.below hbf hb1, ht1.trans ((Tch.of_below (b := b) hbf).mono ht1.size)⟩ : Rd wf b t s m rest ∧ Tch w.heap.size b w wf))
    clear hX
    rcases hcode with hx | hx
    · subst hx
      rw [if_neg (by simp)] at HW
      go_wp2_with fail
      go_region_with (go_at_call 119; refine ((unhide HD) _ ?_).mono ?_; (first | exact BR.drew | exact (BR.alloc (Nat.le_refl _) _).drew | exact BR | exact BR.alloc (Nat.le_refl _) _ | exact BR.drew.drew | exact (BR.alloc (Nat.le_refl _) _).drew.drew | exact BR.drew.drew.drew | exact (BR.alloc (Nat.le_refl _) _).drew.drew.drew); rintro e w2 ⟨rfl, hb2⟩; (first | (have hY := kept_int1 hb2; have y0 := hY.cell 0; have y1 := hY.cell 1; have z0 := hY.frozen 0; have z1 := hY.frozen 1; simp only [List.getElem?_cons_zero, List.getElem?_cons_succ] at y0 y1) | (have hY := kept_int2 hb2; have y0 := hY.cell 0; have y1 := hY.cell 1; have z0 := hY.frozen 0; have z1 := hY.frozen 1; simp only [List.getElem?_cons_zero, List.getElem?_cons_succ] at y0 y1) | (have hY := kept_int3 hb2; have y0 := hY.cell 0; have y1 := hY.cell 1; have z0 := hY.frozen 0; have z1 := hY.frozen 1; simp only [List.getElem?_cons_zero, List.getElem?_cons_succ] at y0 y1) | skip))
      all_goals
        clear HD q0 q1
        go_wp2_with fail
        go_ret2
        refine ⟨.inl ⟨y, m, unhide HW, rfl, hm, ((unhide FIN) _ ?_).1⟩, ((unhide FIN) _ ?_).2⟩
        all_goals first | exact (Below.trans BR.drew hb2).alloc (by have := hb2.size; exact this) _ | exact ((Below.trans ((BR.alloc (Nat.le_refl _) _).drew) (hb2.mono (by show w1.heap.size ≤ (w1.alloc _).heap.size; simp))).setCell (Nat.le_refl _) _).setCell (Nat.le_refl _) _
    · subst hx
      rw [if_pos (by simp)] at HW
      go_wp2_with fail
      go_region_with (go_at_call 119; refine ((unhide HD) _ ?_).mono ?_; (first | exact BR.drew | exact (BR.alloc (Nat.le_refl _) _).drew | exact BR | exact BR.alloc (Nat.le_refl _) _ | exact BR.drew.drew | exact (BR.alloc (Nat.le_refl _) _).drew.drew | exact BR.drew.drew.drew | exact (BR.alloc (Nat.le_refl _) _).drew.drew.drew); rintro e w2 ⟨rfl, hb2⟩; (first | (have hY := kept_int1 hb2; have y0 := hY.cell 0; have y1 := hY.cell 1; have z0 := hY.frozen 0; have z1 := hY.frozen 1; simp only [List.getElem?_cons_zero, List.getElem?_cons_succ] at y0 y1) | (have hY := kept_int2 hb2; have y0 := hY.cell 0; have y1 := hY.cell 1; have z0 := hY.frozen 0; have z1 := hY.frozen 1; simp only [List.getElem?_cons_zero, List.getElem?_cons_succ] at y0 y1) | (have hY := kept_int3 hb2; have y0 := hY.cell 0; have y1 := hY.cell 1; have z0 := hY.frozen 0; have z1 := hY.frozen 1; simp only [List.getElem?_cons_zero, List.getElem?_cons_succ] at y0 y1) | skip))
      all_goals
        clear HD q0 q1
        go_wp2_with fail
        first
          | (have c0d := fun q => show ((w2.alloc (.cells #[.int .i64 3, .int .i64 y] 169)).drewN q).cell? ⟨w2.heap.size, 0, none⟩ = some (.int .i64 3) from Own.cell (t := 169) (xs := [.int .i64 3, .int .i64 y]) ⟨_, heap_alloc_new _ _, rfl⟩ 0
             go_quiet (fail)
             go_wp2_with fail
             go_ret2
             refine ⟨.inr ⟨3, k, m, unhide HW, rfl, hm, (((unhide FIN) _ ?_).1).drewN _⟩, (((unhide FIN) _ ?_).2).drewN _⟩
             all_goals exact (Below.trans BR.drew hb2).alloc (by have := hb2.size; exact this) _)
          | (have hYf := (hY.set 0 (.int .i64 3)).set 1 (.int .i64 y)
             have c0d := fun q => show (((w2.setCell ⟨w1.heap.size, 0, none⟩ (.int .i64 3)).setCell ⟨w1.heap.size, 1, none⟩ (.int .i64 y)).drewN q).cell? ⟨w1.heap.size, 0, none⟩ = some (.int .i64 3) from hYf.cell 0
             go_quiet (fail)
             go_wp2_with fail
             go_ret2
             refine ⟨.inr ⟨3, k, m, unhide HW, rfl, hm, (((unhide FIN) _ ?_).1).drewN _⟩, (((unhide FIN) _ ?_).2).drewN _⟩
             all_goals exact ((Below.trans ((BR.alloc (Nat.le_refl _) _).drew) (hb2.mono (by show w1.heap.size ≤ (w1.alloc _).heap.size; simp))).setCell (Nat.le_refl _) _).setCell (Nat.le_refl _) _)
  · have HW := hide (J.wholeR_no hnum)
    go_wp2_with fail
    go_ret2
    exact ⟨.inr ⟨5, m, m, unhide HW, rfl, hm, hr1⟩, ht1⟩

end Go.Proofs.YtikeffckhklhbaaGreatDoor
