/-
  CountSame: plainly, of the model and of the program.
-/
import Derived.Test.YthaabakpcokomaaQ28
import Derived.Test.YthaabakpcokomaaQ42
import Derived.Test.YthaabakpcokomaaQ43
import Derived.Test.YthaabakpcokomaaQ49
namespace Go.Proofs.Ythaabakpcokomaa
open Go.RowKit
set_option linter.unusedVariables false
set_option linter.unusedSimpArgs false
namespace Al
/-- Is there the same at a path? -/
def same1 (a b p : List M.Cl) : Bool := decide ((Pth.getS b p).1 = 0) && decide (cmpL (Pth.getS a p).2.length (Pth.getS a p).2 (Pth.getS b p).2 = 0)
def countS (a b : List M.Cl) (L : List (List M.Cl)) : Nat := (L.filter (same1 a b)).length
theorem count_succ (a b : List M.Cl) (L : List (List M.Cl)) (k : Nat) (hk : k < L.length) : countS a b (L.take (k + 1)) = countS a b (L.take k) + (if same1 a b (L.getD k []) = true then 1 else 0) := by
  unfold countS
  rw [List.take_succ_eq_append_getElem hk, List.filter_append, List.length_append, List.getD_eq_getElem?_getD, List.getElem?_eq_getElem hk]
  simp only [Option.getD_some, List.filter_cons, List.filter_nil]
  split <;> rfl
theorem count_le (a b : List M.Cl) (L : List (List M.Cl)) : countS a b L ≤ L.length := List.length_filter_le _ _
/-- What CountSame tells. -/
def countOut (a b : List M.Cl) : Int × Int := if bothOut a b ≠ 0 then (bothOut a b, 0) else (0, (countS a b (steps true a) : Int))
theorem count_bad {a b : List M.Cl} (h : bothOut a b ≠ 0) : countOut a b = (bothOut a b, 0) := if_pos h
theorem count_ok {a b : List M.Cl} (h : bothOut a b = 0) : countOut a b = (0, (countS a b (steps true a) : Int)) := if_neg (by simp [h])
theorem gets_val {v : List M.Cl} (hv : M.valueFault v = 0) {p : List M.Cl} (hp : ∀ c ∈ p, Pth.Stp c) (h : (Pth.getS v p).1 = 0) : M.valueFault (Pth.getS v p).2 = 0 := (Pth.getS_gd hv p).ok h
/-- What is told of a path of a. -/
structure Pt (a b p : List M.Cl) : Prop where
  stp : ∀ c ∈ p, Pth.Stp c
  len : p.length ≤ 199
  acode : (Pth.getS a p).1 = 0
  aval : M.valueFault (Pth.getS a p).2 = 0
  bval : (Pth.getS b p).1 = 0 → M.valueFault (Pth.getS b p).2 = 0
theorem pt_at {a b : List M.Cl} (ha : M.valueFault a = 0) (hb : M.valueFault b = 0) {i : Nat} (hi : i < (steps true a).length) : Pt a b ((steps true a).getD i []) := by
  obtain ⟨h1, h2, u, h3, h4⟩ := steps_at true ha hi
  have := (M.fault_zero ha).2.1
  exact ⟨h1, by omega, by rw [h3], by rw [h3]; exact h4, fun h => gets_val hb h1 h⟩

set_option maxHeartbeats 1000000 in
theorem orderOf_same (v : List M.Cl) (b off cap : Nat) (u : List M.Cl) (b' off' cap' : Nat) (w : World) (hv : M.valueFault v = 0) (hu : M.valueFault u = 0) (hrow : Row w b off v) (hb : b < w.heap.size) (hn : v.length ≤ 1048576) (hcap : v.length ≤ cap) (hok : ∀ c ∈ v, c.ok) (hrow' : Row w b' off' u) (hb' : b' < w.heap.size) (hn' : u.length ≤ 1048576) (hcap' : u.length ≤ cap') (hok' : ∀ c ∈ u, c.ok) :
    Calls Try.prog 66 #[.slice (some ⟨b, off, none⟩) v.length cap, .slice (some ⟨b', off', none⟩) u.length cap'] w fun e w' => e = .returned (.int .i64 (cmpL v.length v u)) ∧ Below w.heap.size w w' := by
  have h1 := (M.fault_zero hv).1
  have h2 := (M.fault_zero hu).1
  have HC := hide (compareAt_any v u b off cap b' off' cap' v.length hv hu hcap hcap' 0 0 w (by omega) (by omega) (by have h3 := part_len hv (show 0 < v.length by omega); have h4 := (end_gt hv (show 0 < v.length by omega)).2; omega) hrow hb hrow' hb')
  rw [cmpL_whole hv hu] at HC
  clear hv hu hok hok' hrow hrow'
  generalize cmpL v.length v u = c at *
  go_enter Try.func66, Try.ntmps66
  go_wp2_with fail
  refine (unhide HC).mono ?_
  rintro e1 w1 ⟨rfl, hb1⟩
  go_wp2_with fail
  go_ret
  exact ⟨rfl, hb1⟩
/-- What GetPath tells of a path. -/
structure getP1 (v p : List M.Cl) : Prop where
  ask : Pth.asked v p = 0
theorem getP1.eq {v p : List M.Cl} (h : getP1 v p) : Pth.getOutP v p = Pth.getS v (p.drop 1) := Pth.getP_ok h.ask
theorem below_two {w W : World} (B : Below w.heap.size w W) (x y : Value) : Below w.heap.size w ((W.setCell ⟨w.heap.size, 0, none⟩ x).setCell ⟨w.heap.size, 1, none⟩ y) := (B.setCell (Nat.le_refl _) _).setCell (Nat.le_refl _) _

set_option maxRecDepth 100000 in
set_option maxHeartbeats 4000000 in
theorem specCountSame_any (a b : List M.Cl) (ba oa ca bb ob cb : Nat) (w : World) (hra : Row w ba oa a) (hla : ba < w.heap.size) (hna : a.length ≤ 1048576) (hca : a.length ≤ ca) (hoka : ∀ c ∈ a, c.ok) (hrb : Row w bb ob b) (hlb : bb < w.heap.size) (hnb : b.length ≤ 1048576) (hcb : b.length ≤ cb) (hokb : ∀ c ∈ b, c.ok) :
    Calls Try.prog 26 #[.slice (some ⟨ba, oa, none⟩) a.length ca, .slice (some ⟨bb, ob, none⟩) b.length cb] w fun e w' => e = .returned (.agg #[.int .i64 (countOut a b).1, .int .i64 (countOut a b).2]) ∧ Below w.heap.size w w' := by
  have HB0 := hide (fun o => (show Below w.heap.size w (w.alloc o) from (Below.refl _ _).alloc (Nat.le_refl _) o))
  have HBO := hide (fun o => l3Both_any a ba oa ca b bb ob cb (w.alloc o) (hra.below ((unhide HB0) o) hla) (by simp; omega) hna hca hoka (hrb.below ((unhide HB0) o) hlb) (by simp; omega) hnb hcb hokb)
  have HAL := hide (fun W (h : Below w.heap.size w W) hv => l13All_any true a ba oa ca W hv (hra.below h hla) (Nat.lt_of_lt_of_le hla h.size) hca)
  have HGA := hide (fun W (h : Below w.heap.size w W) hv p pa pc hs hlv hn hc hm => l13GetO_any a ba oa ca p pa pc W hv (hra.below h hla) (Nat.lt_of_lt_of_le hla h.size) hca hs hlv hn hc hm)
  have HGB := hide (fun W (h : Below w.heap.size w W) hv p pa pc hs hlv hn hc hm => l13GetO_any b bb ob cb p pa pc W hv (hrb.below h hlb) (Nat.lt_of_lt_of_le hlb h.size) hcb hs hlv hn hc hm)
  clear hra hrb hoka hokb
  go_enter Try.func26, Try.ntmps26
  go_wp2_with fail
  refine ((unhide HBO) _).mono ?_
  rintro e w1 ⟨rfl, hb1⟩
  have hR : Own w1 w.heap.size 42 [.int .i64 0, .int .i64 0] := Own.below ⟨_, heap_alloc_new _ _, rfl⟩ hb1 (by simp)
  have B1 : Below w.heap.size w w1 := ((unhide HB0) _).trans (hb1.mono (by simp))
  clear hb1 HBO HB0
  generalize hq : bothOut a b = q
  by_cases hz : q = 0
  · subst hz
    obtain ⟨va, vb⟩ := both_zero hq
    have FIN := hide (count_ok hq)
    have HA := hide ((unhide HAL) w1 B1 va)
    have hLn := steps_len true va
    have HPT := hide (fun i hi => pt_at va vb (i := i) hi)
    have HVA := hide va
    have HVB := hide vb
    clear HAL va vb hq
    generalize steps true a = L at *
    go_wp2_with fail
    refine (unhide HA).mono ?_
    rintro e w2 ⟨s, rfl, hpp, hb2⟩
    have B2 : Below w.heap.size w w2 := B1.trans (hb2.mono B1.size)
    have hR2 := hR.below hb2 hR.lt
    obtain ⟨sa, sc, rfl⟩ : ∃ a c, s = .slice a L.length c := by
      obtain ⟨xs, ho, _⟩ := hpp; exact row_len ho
    have HPP := hide hpp
    clear hb2 hpp hR B1 HA
    obtain ⟨n, hN⟩ : ∃ n, n = L.length := ⟨_, rfl⟩
    have HN := hide hN
    rw [← hN] at hLn ⊢
    clear hN
    go_wp2_with fail
    go_loopg [6, 8] n (fun g s6 s8 wr => ∃ (k m : Nat), Hid (g = n - k) ∧ s8 = .int .i64 (k : Int) ∧ s6 = .int .i64 (m : Int) ∧ k ≤ n ∧ m ≤ 200 ∧ Hid (m = countS a b (L.take k)) ∧ Own wr w.heap.size 42 [.int .i64 0, .int .i64 0] ∧ Below w2.heap.size w2 wr)
    case atStart => exact ⟨0, 0, rfl, rfl, rfl, by omega, by omega, by rw [List.take_zero]; rfl, hR2, Below.refl _ _⟩
    case round =>
      clear hR2
      obtain ⟨k, m, hg, rfl, rfl, hk, hm, hcnt, hR, hbel⟩ := hrel
      by_cases hlt : k < n
      · obtain ⟨gp, gc, cur, esl, hgc, hgB, hgh, hgx⟩ := PPL.at (unhide HPP) (by rw [← unhide HN]; omega)
        simp only [Value.slice.injEq] at esl
        obtain ⟨rfl, _, rfl⟩ := esl
        obtain ⟨pa, pc, hx, hpc, hpm, hpt⟩ := hgx k (by rw [← unhide HN]; exact hlt)
        have hptk := (unhide HPT) k (by rw [← unhide HN]; exact hlt)
        have hgl : gp < w2.heap.size := (Array.getElem?_eq_some_iff.1 hgh).1
        have HCS := hide (count_succ a b L k (by rw [← unhide HN]; exact hlt))
        have hcl := hide (Nat.le_trans (count_le a b (L.take (k + 1))) (by rw [List.length_take]; omega : (L.take (k + 1)).length ≤ 200))
        generalize L.getD k [] = p at *
        have BL := hide (hbel)
        have hx1 : ∀ W, Below wr.heap.size wr W → W.cell? ⟨gp, k, none⟩ = some (.slice pa p.length pc) := fun W hW => (hW.cell (Nat.lt_of_lt_of_le hgl hbel.size)).trans ((hbel.cell hgl).trans ((cell_in hgh).trans hx))
        have HX := hide hx1
        have f0 := hx1 wr (Below.refl _ _)
        have HGA1 := hide (fun W (h : Below wr.heap.size wr W) => (unhide HGA) W (B2.trans ((hbel.trans (h.mono hbel.size)).mono B2.size)) (unhide HVA) p pa pc hptk.stp (hpt.pl.below (B := 0) (hbel.trans (h.mono hbel.size))) (by have := hptk.len; omega) hpc hpm)
        have HGB1 := hide (fun W (h : Below wr.heap.size wr W) => (unhide HGB) W (B2.trans ((hbel.trans (h.mono hbel.size)).mono B2.size)) (unhide HVB) p pa pc hptk.stp (hpt.pl.below (B := 0) (hbel.trans (h.mono hbel.size))) (by have := hptk.len; omega) hpc hpm)
        have hS1 := hide (show same1 a b p = (decide ((Pth.getS b p).1 = 0) && decide (cmpL (Pth.getS a p).2.length (Pth.getS a p).2 (Pth.getS b p).2 = 0)) from rfl)
        have hav := hptk.aval
        have hbv := hptk.bval
        have hac := hptk.acode
        generalize same1 a b p = sm at *
        generalize Pth.getS a p = X at *
        generalize Pth.getS b p = Y at *
        obtain ⟨xc, xl⟩ := X
        obtain ⟨yc, yl⟩ := Y
        simp only at hS1 hav hbv hac
        have hac0 : xc = 0 := hac
        subst hac0
        have HXN := hide (Pth.val_ne hav)
        have HXV := hide hav
        have HYV := hide hbv
        have hk0 : (0 : Int) ≤ (k : Int) := by omega
        have kI : (k : Int) < (n : Int) := by omega
        have HLT := hide hlt
        have HHB := hide hbel
        have HRR := hide hR
        clear hptk hgh hgx hx hx1 hpt hpc hpm hlt hav hbv hac hbel hR
        go_wp2_with fail
        refine ((unhide HGA1) wr (Below.refl _ _)).mono ?_
        rintro e w3 ⟨s3, rfl, hr3, hb3⟩
        simp only at hr3 ⊢
        obtain ⟨xb, xp, rfl, hxp, hxlo, hxlt, hxrow⟩ := hr3.rowedQ (unhide HXN)
        obtain ⟨W4, hW4⟩ : ∃ W4, W4 = w3.alloc (.cells #[.int .i64 0, .slice (some ⟨xb, 0, none⟩) xl.length xp] 36) := ⟨_, rfl⟩
        have b34 : Below w3.heap.size w3 W4 := by rw [hW4]; exact (Below.refl _ _).alloc (Nat.le_refl _) _
        have B4 : Below wr.heap.size wr W4 := hb3.trans (b34.mono hb3.size)
        have O4 : Own W4 w3.heap.size 36 [.int .i64 0, .slice (some ⟨xb, 0, none⟩) xl.length xp] := by rw [hW4]; exact ⟨_, heap_alloc_new _ _, rfl⟩
        have f4 : ∀ o, (w3.alloc o).cell? ⟨gp, k, none⟩ = some (.slice pa p.length pc) := fun o => (unhide HX) _ (hb3.trans (((Below.refl _ _).alloc (Nat.le_refl _) o).mono hb3.size))
        have HXR := hide (fun W (h : Below W4.heap.size W4 W) => (hxrow.below b34 hxlt).below h (Nat.lt_of_lt_of_le hxlt b34.size))
        have hxl4 : xb < W4.heap.size := Nat.lt_of_lt_of_le hxlt b34.size
        have HB4 := hide B4
        have HO4 := hide O4
        clear hr3 hb3 hxrow b34 hxlt hxlo f0 B4 O4
        go_wp2_with fail
        rw [← hW4]
        clear hW4
        refine ((unhide HGB1) W4 (unhide HB4)).mono ?_
        rintro e w5 ⟨s5, rfl, hr5, hb5⟩
        simp only at hr5 ⊢
        obtain ⟨ya, yn, yp, rfl⟩ := hr5.shape
        obtain ⟨W6, hW6⟩ : ∃ W6, W6 = w5.alloc (.cells #[.int .i64 yc, .slice ya yn yp] 36) := ⟨_, rfl⟩
        have b56 : Below w5.heap.size w5 W6 := by rw [hW6]; exact (Below.refl _ _).alloc (Nat.le_refl _) _
        have B46 : Below W4.heap.size W4 W6 := hb5.trans (b56.mono hb5.size)
        have O6 : Own W6 w5.heap.size 36 [.int .i64 yc, .slice ya yn yp] := by rw [hW6]; exact ⟨_, heap_alloc_new _ _, rfl⟩
        have O46 := (unhide HO4).below B46 (unhide HO4).lt
        have HR6 := hide (hr5.below b56)
        have B6 : Below wr.heap.size wr W6 := (unhide HB4).trans (B46.mono (unhide HB4).size)
        have R6 := (unhide HRR).below B6 (unhide HRR).lt
        have HXR6 := hide ((unhide HXR) W6 B46)
        have hxl6 : xb < W6.heap.size := Nat.lt_of_lt_of_le hxl4 B46.size
        have p1 : ∀ o, (w5.alloc o).cell? ⟨w3.heap.size, 1, none⟩ = some (.slice (some ⟨xb, 0, none⟩) xl.length xp) := fun o => ((unhide HO4).below (hb5.trans (((Below.refl _ _).alloc (Nat.le_refl _) o).mono hb5.size)) (unhide HO4).lt).cell 1
        have BEL6 := hide ((unhide HHB).trans (B6.mono (unhide HHB).size))
        have HR6r := hide R6
        clear hr5 hb5 b56 B46 O6 O46 f4 HXR B6 R6 HX HGA1
        by_cases hy : yc = 0
        · have hyv := (unhide HYV) hy
          obtain ⟨yb, yp', hysh, hyp, hylo, hylt, hyrow⟩ := (unhide HR6).rowedQ (Pth.val_ne hyv)
          simp only [Value.slice.injEq] at hysh
          obtain ⟨rfl, rfl, rfl⟩ := hysh
          have hxv := unhide HXV
          have HCMP := hide (l1Compare_any xl.length xl yl xb 0 xp yb 0 yp W6 hxv hyv (Nat.le_refl _) (unhide HXR6) hxl6 hxp (Pth.oks hxv) hyrow hylt hyp (Pth.oks hyv))
          subst hy
          rw [decide_eq_true rfl, Bool.true_and] at hS1
          clear hxv hyv hyrow HR6 HXR6
          generalize cmpL xl.length xl yl = cm at *
          go_wp2_with fail
          rw [← hW6]
          clear hW6
          refine (unhide HCMP).mono ?_
          rintro e w7 ⟨rfl, hb7⟩
          have R7 := (unhide HR6r).below hb7 (unhide HR6r).lt
          have BEL7 : Below w2.heap.size w2 w7 := (unhide BEL6).trans (hb7.mono (unhide BEL6).size)
          clear HCMP hb7
          by_cases hc0 : cm = 0
          · have hsm : Hid (countS a b (L.take (k + 1)) = m + 1) := hide (by rw [unhide HCS, ← hcnt.out, unhide hS1, decide_eq_true hc0]; rfl)
            have hml : m + 1 ≤ 200 := by have := unhide hsm; have := unhide hcl; omega
            subst hc0
            clear hS1 HCS
            go_wp2_with fail
            go_roundg (n - (k + 1))
            case rel => exact ⟨k + 1, m + 1, rfl, by go_num, by go_num, by have := unhide HLT; omega, hml, (unhide hsm).symm, R7, BEL7⟩
            case measure => have := hg.out; have := unhide HLT; omega
          · have hsm : Hid (countS a b (L.take (k + 1)) = m) := hide (by rw [unhide HCS, ← hcnt.out, unhide hS1, decide_eq_false hc0]; rfl)
            have hc1 : (cm == 0) = false := beq_eq_false_iff_ne.2 hc0
            clear hS1 HCS hc0
            go_wp2_with fail
            go_roundg (n - (k + 1))
            case rel => exact ⟨k + 1, m, rfl, by go_num, rfl, by have := unhide HLT; omega, hm, (unhide hsm).symm, R7, BEL7⟩
            case measure => have := hg.out; have := unhide HLT; omega
        · have hsm : Hid (countS a b (L.take (k + 1)) = m) := hide (by rw [unhide HCS, ← hcnt.out, unhide hS1, decide_eq_false hy]; rfl)
          have hy1 : (yc == 0) = false := beq_eq_false_iff_ne.2 hy
          have R6' := unhide HR6r
          have B6' := unhide BEL6
          clear hS1 HCS hy HR6 HXR6
          go_wp2_with fail
          rw [← hW6]
          clear hW6
          go_roundg (n - (k + 1))
          case rel => exact ⟨k + 1, m, rfl, by go_num, rfl, by have := unhide HLT; omega, hm, (unhide hsm).symm, R6', B6'⟩
          case measure => have := hg.out; have := unhide HLT; omega
      · have hke : k = n := by omega
        have fin := hide (show countOut a b = (0, (m : Int)) by rw [unhide FIN, hcnt.out, hke, unhide HN, List.take_length])
        have BB := B2.trans (hbel.mono B2.size)
        have r0 := hR.cell 0
        have r1 := hR.cell 1
        have z0 := hR.frozen 0
        have z1 := hR.frozen 1
        simp only [List.getElem?_cons_zero, List.getElem?_cons_succ] at r0 r1
        clear hke hcnt
        go_wp2_with fail
        refine bodyPost_ret (v := .agg #[.int .i64 0, .int .i64 (m : Int)]) (by simp [results, Try.results26, go_sem, r0, r1]) rfl ⟨by rw [unhide fin], below_two BB _ _⟩
  · have fin := hide ((count_bad (by rw [hq]; exact hz)).trans (by rw [hq]))
    have hz' : (q == 0) = false := by simp [hz]
    have r0 := hR.cell 0
    have r1 := hR.cell 1
    have z0 := hR.frozen 0
    have z1 := hR.frozen 1
    simp only [List.getElem?_cons_zero, List.getElem?_cons_succ] at r0 r1
    clear hq HAL HGA HGB
    go_wp2_with fail
    refine bodyPost_ret (v := .agg #[.int .i64 q, .int .i64 0]) (by simp [results, Try.results26, go_sem, r0, r1]) rfl ⟨by rw [unhide fin], below_two B1 _ _⟩

set_option maxRecDepth 100000 in
set_option maxHeartbeats 4000000 in
theorem implCountSame_any (a b : List M.Cl) (ba oa ca bb ob cb : Nat) (w : World) (hra : Row w ba oa a) (hla : ba < w.heap.size) (hna : a.length ≤ 1048576) (hca : a.length ≤ ca) (hoka : ∀ c ∈ a, c.ok) (hrb : Row w bb ob b) (hlb : bb < w.heap.size) (hnb : b.length ≤ 1048576) (hcb : b.length ≤ cb) (hokb : ∀ c ∈ b, c.ok) :
    Calls Try.prog 27 #[.slice (some ⟨ba, oa, none⟩) a.length ca, .slice (some ⟨bb, ob, none⟩) b.length cb] w fun e w' => e = .returned (.agg #[.int .i64 (countOut a b).1, .int .i64 (countOut a b).2]) ∧ Below w.heap.size w w' := by
  have HB0 := hide (fun o => (show Below w.heap.size w (w.alloc o) from (Below.refl _ _).alloc (Nat.le_refl _) o))
  have HKF := hide (fun o => firstFaultV_any (some ⟨w.heap.size + 1, 0, none⟩) 2 [a, b] ((w.alloc o).alloc (.cells #[.slice (some ⟨ba, oa, none⟩) a.length ca, .slice (some ⟨bb, ob, none⟩) b.length cb] 28)) (LV.two (w.alloc o) (w.heap.size + 1) ba oa ca bb ob cb a b 28 (by simp) (hra.below ((unhide HB0) _) hla) (by simp; omega) hca (hrb.below ((unhide HB0) _) hlb) (by simp; omega) hcb) (by simp) (by simp) (len_two hna hnb) (okS_two hoka hokb))
  simp only [List.length_cons, List.length_nil, Nat.zero_add, firstBad_both] at HKF
  have HAL := hide (fun W (h : Below w.heap.size w W) => implLeavesIn_any a ba oa ca W (hra.below h hla) (Nat.lt_of_lt_of_le hla h.size) hna hca hoka)
  have HGA := hide (fun W (h : Below w.heap.size w W) p b' off' hp hpb hn hc hok' => implGetPath_any a ba oa ca p b' off' p.length W (hra.below h hla) (Nat.lt_of_lt_of_le hla h.size) hna hca hoka hp hpb hn (Nat.le_refl _) hc hok')
  have HGB := hide (fun W (h : Below w.heap.size w W) p b' off' hp hpb hn hc hok' => implGetPath_any b bb ob cb p b' off' p.length W (hrb.below h hlb) (Nat.lt_of_lt_of_le hlb h.size) hnb hcb hokb hp hpb hn (Nat.le_refl _) hc hok')
  clear hra hrb hoka hokb
  go_enter Try.func27, Try.ntmps27
  go_wp2_with fail
  refine ((unhide HKF) _).mono ?_
  rintro e w1 ⟨rfl, hb1⟩
  have hR : Own w1 w.heap.size 42 [.int .i64 0, .int .i64 0] := Own.below (Own.alloc ⟨_, heap_alloc_new _ _, rfl⟩ _) hb1 (by simp; omega)
  have B1 : Below w.heap.size w w1 := (((unhide HB0) _).alloc (by simp) _).trans (hb1.mono (by simp; omega))
  clear hb1 HKF HB0
  generalize hq : bothOut a b = q
  by_cases hz : q = 0
  · subst hz
    obtain ⟨va, vb⟩ := both_zero hq
    have FIN := hide (count_ok hq)
    have HA := hide ((unhide HAL) w1 B1)
    rw [paths_ok (leaves := true) va] at HA
    have hLn := steps_len true va
    have HPT := hide (fun i hi => pt_at va vb (i := i) hi)
    have HAA := hide (fun p (h : Pth.fault p = 0) => (show getP1 a p from ⟨(Pth.asked_ok (p := p) va).trans h⟩))
    have HAB := hide (fun p (h : Pth.fault p = 0) => (show getP1 b p from ⟨(Pth.asked_ok (p := p) vb).trans h⟩))
    clear HAL va vb hq
    generalize steps true a = L at *
    go_wp2_with fail
    refine (unhide HA).mono ?_
    rintro e w2 ⟨s, rfl, hpp, hb2⟩
    simp only at hpp ⊢
    have B2 : Below w.heap.size w w2 := B1.trans (hb2.mono B1.size)
    have hR2 := hR.below hb2 hR.lt
    obtain ⟨sa, sc, rfl⟩ := hpp.shapeN
    have HPP := hide hpp
    rw [List.length_map]
    clear hb2 hpp hR B1 HA
    obtain ⟨n, hN⟩ : ∃ n, n = L.length := ⟨_, rfl⟩
    have HN := hide hN
    rw [← hN] at hLn ⊢
    clear hN
    have fld : ∀ W, (Instr.field 26 (.agg #[.int .i64 0, .slice sa n sc]) 1).run Try.prog W = .ok (.slice sa n sc) W := fun W => by kernel_rfl
    go_wp2_with fail
    go_loopg [6, 23] n (fun g s6 s23 wr => ∃ (k m : Nat), Hid (g = n - k) ∧ s23 = .int .i64 (k : Int) ∧ s6 = .int .i64 (m : Int) ∧ k ≤ n ∧ m ≤ 200 ∧ Hid (m = countS a b (L.take k)) ∧ Own wr w.heap.size 42 [.int .i64 0, .int .i64 0] ∧ Below w2.heap.size w2 wr)
    case atStart => exact ⟨0, 0, rfl, rfl, rfl, by omega, by omega, by rw [List.take_zero]; rfl, hR2, Below.refl _ _⟩
    case round =>
      clear hR2
      obtain ⟨k, m, hg, rfl, rfl, hk, hm, hcnt, hR, hbel⟩ := hrel
      by_cases hlt : k < n
      · have hkL : k < L.length := by rw [← unhide HN]; exact hlt
        obtain ⟨gp, gc, pb, esl, hgc, hgl, hx, hpb, hprow⟩ := Qs.at (unhide HPP) (i := k) (by rw [List.length_map]; exact hkL)
        rw [List.length_map] at esl
        simp only [Value.slice.injEq] at esl
        obtain ⟨rfl, _, rfl⟩ := esl
        have hptk := (unhide HPT) k hkL
        have HCS := hide (count_succ a b L k hkL)
        have hcl := hide (Nat.le_trans (count_le a b (L.take (k + 1))) (by rw [List.length_take]; omega : (L.take (k + 1)).length ≤ 200))
        rw [show (L.map pathC).getD k [] = pathC (L.getD k []) by simp [List.getD_eq_getElem?_getD, List.getElem?_eq_getElem hkL]] at hx hprow
        generalize tot (L.map pathC) k * 5 = po at *
        generalize L.getD k [] = p at *
        obtain ⟨pv, pf, pd⟩ := pathC_ok hptk.stp hptk.len
        have hpl := pathC_length p
        have hplen := hptk.len
        have hpok := Pth.oks pv
        have hA1 := ((unhide HAA) _ pf).eq
        have hB1 := ((unhide HAB) _ pf).eq
        rw [pd] at hA1 hB1
        generalize pathC p = pc at *
        have HGA1 := hide (fun W (h : Below wr.heap.size wr W) => (unhide HGA) W (B2.trans ((hbel.trans (h.mono hbel.size)).mono B2.size)) pc pb po ((hprow.below hbel hpb).below h (Nat.lt_of_lt_of_le hpb hbel.size)) (Nat.lt_of_lt_of_le hpb (Nat.le_trans hbel.size h.size)) (by omega) (by omega) hpok)
        have HGB1 := hide (fun W (h : Below wr.heap.size wr W) => (unhide HGB) W (B2.trans ((hbel.trans (h.mono hbel.size)).mono B2.size)) pc pb po ((hprow.below hbel hpb).below h (Nat.lt_of_lt_of_le hpb hbel.size)) (Nat.lt_of_lt_of_le hpb (Nat.le_trans hbel.size h.size)) (by omega) (by omega) hpok)
        rw [hA1] at HGA1
        rw [hB1] at HGB1
        have f0 := (hbel.cell hgl).trans hx
        have hS1 := hide (show same1 a b p = (decide ((Pth.getS b p).1 = 0) && decide (cmpL (Pth.getS a p).2.length (Pth.getS a p).2 (Pth.getS b p).2 = 0)) from rfl)
        have hav := hptk.aval
        have hbv := hptk.bval
        generalize same1 a b p = sm at *
        generalize Pth.getS a p = X at *
        generalize Pth.getS b p = Y at *
        obtain ⟨xc, xl⟩ := X
        obtain ⟨yc, yl⟩ := Y
        simp only at hS1 hav hbv
        have HXN := hide (Pth.val_ne hav)
        have HXV := hide hav
        have HYV := hide hbv
        generalize pc.length = pn at *
        have hk0 : (0 : Int) ≤ (k : Int) := by omega
        have kI : (k : Int) < (n : Int) := by omega
        have HLT := hide hlt
        have HHB := hide hbel
        have HRR := hide hR
        clear hptk hx hprow hlt hav hbv hbel hR pv pf pd hpl hpok hA1 hB1 hkL
        go_wp2_with fail
        refine ((unhide HGA1) wr (Below.refl _ _)).mono ?_
        rintro e w3 ⟨s3, rfl, hr3, hb3⟩
        simp only at hr3 ⊢
        obtain ⟨xb, xp, rfl, hxp, hxlo, hxlt, hxrow⟩ := hr3.rowedQ (unhide HXN)
        have HXR := hide (fun W (h : Below w3.heap.size w3 W) => hxrow.below h hxlt)
        have HB3 := hide hb3
        clear hr3 hb3 hxrow hxlo
        go_wp2_with fail
        refine ((unhide HGB1) w3 (unhide HB3)).mono ?_
        rintro e w5 ⟨s5, rfl, hr5, hb5⟩
        simp only at hr5 ⊢
        obtain ⟨ya, yn, yp, rfl⟩ := hr5.shape
        obtain ⟨W5, hW5⟩ : ∃ W5, W5 = w5.alloc (.cells #[.int .i64 xc, .slice (some ⟨xb, 0, none⟩) xl.length xp] 36) := ⟨_, rfl⟩
        obtain ⟨W6, hW6⟩ : ∃ W6, W6 = W5.alloc (.cells #[.int .i64 yc, .slice ya yn yp] 36) := ⟨_, rfl⟩
        have b55 : Below w5.heap.size w5 W5 := by rw [hW5]; exact (Below.refl _ _).alloc (Nat.le_refl _) _
        have b56 : Below W5.heap.size W5 W6 := by rw [hW6]; exact (Below.refl _ _).alloc (Nat.le_refl _) _
        have O5 : Own W5 w5.heap.size 36 [.int .i64 xc, .slice (some ⟨xb, 0, none⟩) xl.length xp] := by rw [hW5]; exact ⟨_, heap_alloc_new _ _, rfl⟩
        have O6 : Own W6 W5.heap.size 36 [.int .i64 yc, .slice ya yn yp] := by rw [hW6]; exact ⟨_, heap_alloc_new _ _, rfl⟩
        have hs5 : Hid (W5.heap.size = w5.heap.size + 1) := hide (by rw [hW5]; simp)
        have O56 := O5.below b56 O5.lt
        have B36 : Below w3.heap.size w3 W6 := hb5.trans ((b55.trans (b56.mono b55.size)).mono hb5.size)
        have HR6 := hide ((hr5.below b55).below b56)
        have B6 : Below wr.heap.size wr W6 := (unhide HB3).trans (B36.mono (unhide HB3).size)
        have R6 := (unhide HRR).below B6 (unhide HRR).lt
        have HXR6 := hide ((unhide HXR) W6 B36)
        have hxl6 : xb < W6.heap.size := Nat.lt_of_lt_of_le hxlt B36.size
        have BEL6 := hide ((unhide HHB).trans (B6.mono (unhide HHB).size))
        have HR6r := hide R6
        clear hr5 hb5 b55 b56 B36 O5 O6 O56 HXR B6 R6 f0
        by_cases hy : yc = 0
        · have hyv := (unhide HYV) hy
          obtain ⟨yb, yp', hysh, hyp, hylo, hylt, hyrow⟩ := (unhide HR6).rowedQ (Pth.val_ne hyv)
          simp only [Value.slice.injEq] at hysh
          obtain ⟨rfl, rfl, rfl⟩ := hysh
          have hxv := unhide HXV
          have hxl2 := (M.fault_zero hxv).2.1
          have hyl2 := (M.fault_zero hyv).2.1
          have HCMP := hide (orderOf_same xl xb 0 xp yl yb 0 yp W6 hxv hyv (unhide HXR6) hxl6 (by omega) hxp (Pth.oks hxv) hyrow hylt (by omega) hyp (Pth.oks hyv))
          subst hy
          rw [decide_eq_true rfl, Bool.true_and] at hS1
          clear hxv hyv hyrow HR6 HXR6
          generalize cmpL xl.length xl yl = cm at *
          go_wp2_with fail
          rw [← hW5, ← hW6]
          clear hW5 hW6
          refine (unhide HCMP).mono ?_
          rintro e w7 ⟨rfl, hb7⟩
          have R7 := (unhide HR6r).below hb7 (unhide HR6r).lt
          have BEL7 : Below w2.heap.size w2 w7 := (unhide BEL6).trans (hb7.mono (unhide BEL6).size)
          clear HCMP hb7
          by_cases hc0 : cm = 0
          · have hsm : Hid (countS a b (L.take (k + 1)) = m + 1) := hide (by rw [unhide HCS, ← hcnt.out, unhide hS1, decide_eq_true hc0]; rfl)
            have hml : m + 1 ≤ 200 := by have := unhide hsm; have := unhide hcl; omega
            subst hc0
            clear hS1 HCS
            go_wp2_with fail
            go_roundg (n - (k + 1))
            case rel => exact ⟨k + 1, m + 1, rfl, by go_num, by go_num, by have := unhide HLT; omega, hml, (unhide hsm).symm, R7, BEL7⟩
            case measure => have := hg.out; have := unhide HLT; omega
          · have hsm : Hid (countS a b (L.take (k + 1)) = m) := hide (by rw [unhide HCS, ← hcnt.out, unhide hS1, decide_eq_false hc0]; rfl)
            have hc1 : (cm == 0) = false := beq_eq_false_iff_ne.2 hc0
            clear hS1 HCS hc0
            go_wp2_with fail
            go_roundg (n - (k + 1))
            case rel => exact ⟨k + 1, m, rfl, by go_num, rfl, by have := unhide HLT; omega, hm, (unhide hsm).symm, R7, BEL7⟩
            case measure => have := hg.out; have := unhide HLT; omega
        · have hsm : Hid (countS a b (L.take (k + 1)) = m) := hide (by rw [unhide HCS, ← hcnt.out, unhide hS1, decide_eq_false hy]; rfl)
          have hy1 : (yc == 0) = false := beq_eq_false_iff_ne.2 hy
          have R6' := unhide HR6r
          have B6' := unhide BEL6
          clear hS1 HCS hy HR6 HXR6
          go_wp2_with fail
          rw [← hW5, ← hW6]
          clear hW5 hW6
          go_roundg (n - (k + 1))
          case rel => exact ⟨k + 1, m, rfl, by go_num, rfl, by have := unhide HLT; omega, hm, (unhide hsm).symm, R6', B6'⟩
          case measure => have := hg.out; have := unhide HLT; omega
      · have hke : k = n := by omega
        have fin := hide (show countOut a b = (0, (m : Int)) by rw [unhide FIN, hcnt.out, hke, unhide HN, List.take_length])
        have BB := B2.trans (hbel.mono B2.size)
        have r0 := hR.cell 0
        have r1 := hR.cell 1
        have z0 := hR.frozen 0
        have z1 := hR.frozen 1
        simp only [List.getElem?_cons_zero, List.getElem?_cons_succ] at r0 r1
        clear hke hcnt
        go_wp2_with fail
        refine bodyPost_ret (v := .agg #[.int .i64 0, .int .i64 (m : Int)]) (by simp [results, Try.results27, go_sem, r0, r1]) rfl ⟨by rw [unhide fin], below_two BB _ _⟩
  · have fin := hide ((count_bad (by rw [hq]; exact hz)).trans (by rw [hq]))
    have hz' : (q == 0) = false := by simp [hz]
    have r0 := hR.cell 0
    have r1 := hR.cell 1
    have z0 := hR.frozen 0
    have z1 := hR.frozen 1
    simp only [List.getElem?_cons_zero, List.getElem?_cons_succ] at r0 r1
    clear hq HAL HGA HGB
    go_wp2_with fail
    refine bodyPost_ret (v := .agg #[.int .i64 q, .int .i64 0]) (by simp [results, Try.results27, go_sem, r0, r1]) rfl ⟨by rw [unhide fin], below_two B1 _ _⟩
end Al
end Go.Proofs.Ythaabakpcokomaa
