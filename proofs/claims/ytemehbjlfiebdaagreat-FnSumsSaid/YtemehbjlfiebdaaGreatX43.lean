/-
  The numbers of Binary: plain functions, and the given side.
  The numbers of Binary, the side that is held.
  impl.productOf.
  impl.remainderOf.
-/
import Derived.Test.YtemehbjlfiebdaaGreatX41
import Derived.Test.YtemehbjlfiebdaaGreatX42
import Derived.BigQuiet
namespace Go.Proofs.YtemehbjlfiebdaaGreat
open Go.RowKit
set_option linter.unusedVariables false

def boolCl (q : Bool) : M.Cl := ⟨if q then 2 else 1, 0, ByteArray.empty, ByteArray.empty, 0⟩
theorem size_abs (n : Int) : size n = (n.natAbs : Int) := by unfold size; split <;> omega
theorem size_mul (x y : Int) : size x * size y = ((x * y).natAbs : Int) := by rw [size_abs, size_abs, Int.natAbs_mul]; simp
theorem tdiv_bd {x : Int} (y : Int) (x0 : -1000000000000000 ≤ x) (x1 : x ≤ 1000000000000000) : -1000000000000000 ≤ x.tdiv y ∧ x.tdiv y ≤ 1000000000000000 := by
  have h : (x.tdiv y).natAbs ≤ x.natAbs := by rw [Int.natAbs_tdiv]; exact Nat.div_le_self _ _
  omega
theorem tmod_bd {x : Int} (y : Int) (x0 : -1000000000000000 ≤ x) (x1 : x ≤ 1000000000000000) : -1000000000000000 ≤ x.tmod y ∧ x.tmod y ≤ 1000000000000000 := by
  have h := Int.natAbs_tmod x y
  have h2 := Nat.mod_le x.natAbs y.natAbs
  omega
theorem mul_bd {x y : Int} (h : ¬ 1000000000000000 < size x * size y) : -1000000000000000 ≤ x * y ∧ x * y ≤ 1000000000000000 := by
  rw [size_mul] at h; omega
theorem size_pos {y : Int} (h : y ≠ 0) : 1 ≤ size y := by unfold size; split <;> omega
theorem big_iff {a b : Int} (hb : 1 ≤ b) : 1000000000000000 / b < a ↔ 1000000000000000 < a * b := Int.ediv_lt_iff_lt_mul (by omega)
/-- The product, quotient, remainder of two numbers. -/
def timesOut (op x y : Int) : Int × List M.Cl := if op = 3 then (if 1000000000000000 < size x * size y then (3, []) else numOut (x * y)) else if y = 0 then (3, []) else if op = 10 then numOut (x.tdiv y) else numOut (x.tmod y)
theorem times_big {x y : Int} (h : 1000000000000000 < size x * size y) : timesOut 3 x y = (3, []) := by unfold timesOut; rw [if_pos rfl, if_pos h]
theorem times_mul {x y : Int} (h : ¬ 1000000000000000 < size x * size y) : timesOut 3 x y = (0, [numCl (x * y)]) := by
  have := mul_bd h
  unfold timesOut; rw [if_pos rfl, if_neg h, num_ok (by omega)]; rfl
theorem times_zero {op x : Int} (h : op = 10 ∨ op = 11) : timesOut op x 0 = (3, []) := by unfold timesOut; rw [if_neg (by omega), if_pos rfl]
theorem times_quo {x y : Int} (hy : y ≠ 0) (x0 : -1000000000000000 ≤ x) (x1 : x ≤ 1000000000000000) : timesOut 10 x y = (0, [numCl (x.tdiv y)]) := by
  have := tdiv_bd y x0 x1
  unfold timesOut; rw [if_neg (by omega), if_neg hy, if_pos rfl, num_ok (by omega)]; rfl
theorem times_rem {x y : Int} (hy : y ≠ 0) (x0 : -1000000000000000 ≤ x) (x1 : x ≤ 1000000000000000) : timesOut 11 x y = (0, [numCl (x.tmod y)]) := by
  have := tmod_bd y x0 x1
  unfold timesOut; rw [if_neg (by omega), if_neg hy, if_neg (by omega), num_ok (by omega)]; rfl

set_option maxHeartbeats 400000 in
theorem l3Bool_any (q : Bool) (w : World) : Calls Tryz.prog 53 #[.bool q] w fun e w' => ∃ s, e = .returned s ∧ Res w' w.heap.size s [boolCl q] ∧ Below w.heap.size w w' := by
  cases q
  · go_enter Tryz.func53, Tryz.ntmps53
    go_wp2_with fail
    go_ret
    exact ⟨_, rfl, one_cell w w.heap.size w.heap.size (boolCl false) rfl (Nat.le_refl _), (Below.refl _ _).alloc (Nat.le_refl _) _⟩
  · go_enter Tryz.func53, Tryz.ntmps53
    go_wp2_with fail
    go_ret
    exact ⟨_, rfl, one_cell w w.heap.size w.heap.size (boolCl true) rfl (Nat.le_refl _), (Below.refl _ _).alloc (Nat.le_refl _) _⟩
set_option maxHeartbeats 400000 in
theorem boolResult_any (q : Bool) (w : World) : Calls Tryz.prog 40 #[.bool q] w (Ans w (0, [boolCl q])) := by
  cases q
  · go_enter Tryz.func40, Tryz.ntmps40
    go_wp2_with fail
    refine bodyPost_ret (v := .agg #[.int .i64 0, .slice (some ⟨w.heap.size + 1, 0, none⟩) 1 1]) (by simp [results, Tryz.results40, go_sem]) rfl (ans_of rfl ?_ ?_)
    · exact one_cell (w.alloc _) w.heap.size (w.heap.size + 1) (boolCl false) (by simp) (by simp)
    · exact ((Below.refl _ _).alloc (Nat.le_refl _) _).alloc (by simp) _
  · go_enter Tryz.func40, Tryz.ntmps40
    go_wp2_with fail
    refine bodyPost_ret (v := .agg #[.int .i64 0, .slice (some ⟨w.heap.size + 1, 0, none⟩) 1 1]) (by simp [results, Tryz.results40, go_sem]) rfl (ans_of rfl ?_ ?_)
    · exact one_cell (w.alloc _) w.heap.size (w.heap.size + 1) (boolCl true) (by simp) (by simp)
    · exact ((Below.refl _ _).alloc (Nat.le_refl _) _).alloc (by simp) _

set_option maxRecDepth 100000 in
set_option maxHeartbeats 2000000 in
theorem l3Times_any (op x y : Int) (w : World) (hop : op = 3 ∨ op = 10 ∨ op = 11) (x0 : -1000000000000000 ≤ x) (x1 : x ≤ 1000000000000000) (y0 : -1000000000000000 ≤ y) (y1 : y ≤ 1000000000000000) :
    Calls Tryz.prog 54 #[.int .i64 op, .int .i64 x, .int .i64 y] w (Ans w (timesOut op x y)) := by
  have B0 : ∀ o, Below w.heap.size w (w.alloc o) := fun o => (Below.refl _ _).alloc (Nat.le_refl _) o
  have HB0 := hide B0
  clear B0
  have hR0 : Own (w.alloc (.cells #[.int .i64 0, .slice none 0 0] 28)) w.heap.size 28 [.int .i64 0, .slice none 0 0] := ⟨_, heap_alloc_new _ _, rfl⟩
  have HR0 := hide hR0
  clear hR0
  by_cases hy : y = 0
  · subst hy
    rcases hop with rfl | rfl | rfl
    · have fin := hide (times_mul (x := x) (y := 0) (by rw [show size 0 = 0 from rfl]; omega))
      rw [Int.mul_zero] at fin
      go_enter Tryz.func54, Tryz.ntmps54
      go_wp2_with fail
      refine (l1Number_any _ _).mono ?_
      rintro ec wc ⟨sc, rfl, hrc, hbc⟩
      have hRc := (unhide HR0).below hbc (unhide HR0).lt
      have r0 := hRc.cell 0
      have r1 := hRc.cell 1
      have z0 := hRc.frozen 0
      have z1 := hRc.frozen 1
      simp only [List.getElem?_cons_zero, List.getElem?_cons_succ] at r0 r1
      have HE := hide (Ans.store hrc ((unhide HB0) _) (unhide HR0).lt hbc)
      obtain ⟨ac, mc, cc, rfl⟩ := hrc.shape
      clear hrc hbc
      go_wp2_with fail
      refine bodyPost_ret (v := .agg #[.int .i64 0, .slice ac mc cc]) (by simp [results, Tryz.results54, go_sem, r0, r1]) rfl (ans_of (unhide fin) ((unhide HE) _ _).1 ((unhide HE) _ _).2)
    · have fin := hide (times_zero (op := 10) (x := x) (by omega))
      go_enter Tryz.func54, Tryz.ntmps54
      go_wp2_with fail
      refine (l3Bad_any _ _).mono ?_
      rintro ec wc ⟨sc, rfl, hrc, hbc⟩
      have hRc := (unhide HR0).below hbc (unhide HR0).lt
      have r0 := hRc.cell 0
      have r1 := hRc.cell 1
      have z0 := hRc.frozen 0
      have z1 := hRc.frozen 1
      simp only [List.getElem?_cons_zero, List.getElem?_cons_succ] at r0 r1
      have HE := hide (Ans.store hrc ((unhide HB0) _) (unhide HR0).lt hbc)
      obtain ⟨ac, mc, cc, rfl⟩ := hrc.shape
      clear hrc hbc
      go_wp2_with fail
      refine bodyPost_ret (v := .agg #[.int .i64 3, .slice ac mc cc]) (by simp [results, Tryz.results54, go_sem, r0, r1]) rfl (ans_of (unhide fin) ((unhide HE) _ _).1 ((unhide HE) _ _).2)
    · have fin := hide (times_zero (op := 11) (x := x) (by omega))
      go_enter Tryz.func54, Tryz.ntmps54
      go_wp2_with fail
      refine (l3Bad_any _ _).mono ?_
      rintro ec wc ⟨sc, rfl, hrc, hbc⟩
      have hRc := (unhide HR0).below hbc (unhide HR0).lt
      have r0 := hRc.cell 0
      have r1 := hRc.cell 1
      have z0 := hRc.frozen 0
      have z1 := hRc.frozen 1
      simp only [List.getElem?_cons_zero, List.getElem?_cons_succ] at r0 r1
      have HE := hide (Ans.store hrc ((unhide HB0) _) (unhide HR0).lt hbc)
      obtain ⟨ac, mc, cc, rfl⟩ := hrc.shape
      clear hrc hbc
      go_wp2_with fail
      refine bodyPost_ret (v := .agg #[.int .i64 3, .slice ac mc cc]) (by simp [results, Tryz.results54, go_sem, r0, r1]) rfl (ans_of (unhide fin) ((unhide HE) _ _).1 ((unhide HE) _ _).2)
  have hy1 : (y != 0) = true := by simpa using hy
  have hy2 : (y == 0) = false := by simpa using hy
  rcases hop with rfl | rfl | rfl
  · have hsp := size_pos hy
    have hsy : size y ≤ 1000000000000000 := by have := size_bd y0 y1; omega
    have hsx : size x ≤ 1000000000000000 := by have := size_bd x0 x1; omega
    have hsx0 : 0 ≤ size x := by rw [size_abs]; omega
    have HX := hide (fun w' => l3Size_any x w' x0 x1)
    have HY := hide (fun w' => l3Size_any y w' y0 y1)
    by_cases big : 1000000000000000 < size x * size y
    · have fin := hide (times_big big)
      have hq := (big_iff (a := size x) hsp).2 big
      clear big
      generalize size x = sx at *
      generalize size y = sy at *
      go_enter Tryz.func54, Tryz.ntmps54
      go_wp2_with fail
      refine ((unhide HX) _).mono ?_
      rintro e1 w1 ⟨rfl, rfl⟩
      go_wp2_with fail
      refine ((unhide HY) _).mono ?_
      rintro e2 w2 ⟨rfl, rfl⟩
      go_wp2_with fail
      refine (l3Bad_any _ _).mono ?_
      rintro ec wc ⟨sc, rfl, hrc, hbc⟩
      have hRc := (unhide HR0).below hbc (unhide HR0).lt
      have r0 := hRc.cell 0
      have r1 := hRc.cell 1
      have z0 := hRc.frozen 0
      have z1 := hRc.frozen 1
      simp only [List.getElem?_cons_zero, List.getElem?_cons_succ] at r0 r1
      have HE := hide (Ans.store hrc ((unhide HB0) _) (unhide HR0).lt hbc)
      obtain ⟨ac, mc, cc, rfl⟩ := hrc.shape
      clear hrc hbc
      go_wp2_with fail
      refine bodyPost_ret (v := .agg #[.int .i64 3, .slice ac mc cc]) (by simp [results, Tryz.results54, go_sem, r0, r1]) rfl (ans_of (unhide fin) ((unhide HE) _ _).1 ((unhide HE) _ _).2)
    · have fin := hide (times_mul big)
      obtain ⟨m0, m1⟩ := mul_bd big
      have hq := fun h => big ((big_iff (a := size x) hsp).1 h)
      clear big
      generalize size x = sx at *
      generalize size y = sy at *
      go_enter Tryz.func54, Tryz.ntmps54
      go_wp2_with fail
      refine ((unhide HX) _).mono ?_
      rintro e1 w1 ⟨rfl, rfl⟩
      go_wp2_with fail
      refine ((unhide HY) _).mono ?_
      rintro e2 w2 ⟨rfl, rfl⟩
      go_wp2_with fail
      refine (l1Number_any _ _).mono ?_
      rintro ec wc ⟨sc, rfl, hrc, hbc⟩
      have hRc := (unhide HR0).below hbc (unhide HR0).lt
      have r0 := hRc.cell 0
      have r1 := hRc.cell 1
      have z0 := hRc.frozen 0
      have z1 := hRc.frozen 1
      simp only [List.getElem?_cons_zero, List.getElem?_cons_succ] at r0 r1
      have HE := hide (Ans.store hrc ((unhide HB0) _) (unhide HR0).lt hbc)
      obtain ⟨ac, mc, cc, rfl⟩ := hrc.shape
      clear hrc hbc
      go_wp2_with fail
      refine bodyPost_ret (v := .agg #[.int .i64 0, .slice ac mc cc]) (by simp [results, Tryz.results54, go_sem, r0, r1]) rfl (ans_of (unhide fin) ((unhide HE) _ _).1 ((unhide HE) _ _).2)
  · have fin := hide (times_quo hy x0 x1)
    obtain ⟨m0, m1⟩ := tdiv_bd y x0 x1
    go_enter Tryz.func54, Tryz.ntmps54
    go_wp2_with fail
    refine (l1Number_any _ _).mono ?_
    rintro ec wc ⟨sc, rfl, hrc, hbc⟩
    have hRc := (unhide HR0).below hbc (unhide HR0).lt
    have r0 := hRc.cell 0
    have r1 := hRc.cell 1
    have z0 := hRc.frozen 0
    have z1 := hRc.frozen 1
    simp only [List.getElem?_cons_zero, List.getElem?_cons_succ] at r0 r1
    have HE := hide (Ans.store hrc ((unhide HB0) _) (unhide HR0).lt hbc)
    obtain ⟨ac, mc, cc, rfl⟩ := hrc.shape
    clear hrc hbc
    go_wp2_with fail
    refine bodyPost_ret (v := .agg #[.int .i64 0, .slice ac mc cc]) (by simp [results, Tryz.results54, go_sem, r0, r1]) rfl (ans_of (unhide fin) ((unhide HE) _ _).1 ((unhide HE) _ _).2)
  · have fin := hide (times_rem hy x0 x1)
    obtain ⟨m0, m1⟩ := tmod_bd y x0 x1
    go_enter Tryz.func54, Tryz.ntmps54
    go_wp2_with fail
    refine (l1Number_any _ _).mono ?_
    rintro ec wc ⟨sc, rfl, hrc, hbc⟩
    have hRc := (unhide HR0).below hbc (unhide HR0).lt
    have r0 := hRc.cell 0
    have r1 := hRc.cell 1
    have z0 := hRc.frozen 0
    have z1 := hRc.frozen 1
    simp only [List.getElem?_cons_zero, List.getElem?_cons_succ] at r0 r1
    have HE := hide (Ans.store hrc ((unhide HB0) _) (unhide HR0).lt hbc)
    obtain ⟨ac, mc, cc, rfl⟩ := hrc.shape
    clear hrc hbc
    go_wp2_with fail
    refine bodyPost_ret (v := .agg #[.int .i64 0, .slice ac mc cc]) (by simp [results, Tryz.results54, go_sem, r0, r1]) rfl (ans_of (unhide fin) ((unhide HE) _ _).1 ((unhide HE) _ _).2)

end Go.Proofs.YtemehbjlfiebdaaGreat

namespace Go.Proofs.YtemehbjlfiebdaaGreat
open Go.RowKit
set_option linter.unusedVariables false

def timesIn (op : Int) (v u : List M.Cl) : Int × List M.Cl := if (v.getD 0 M.zero).kind = 3 ∧ (u.getD 0 M.zero).kind = 3 then timesOut op (v.getD 0 M.zero).num (u.getD 0 M.zero).num else (6, [])
theorem timesIn_yes {op : Int} {v u : List M.Cl} (h : (v.getD 0 M.zero).kind = 3 ∧ (u.getD 0 M.zero).kind = 3) : timesIn op v u = timesOut op (v.getD 0 M.zero).num (u.getD 0 M.zero).num := if_pos h
theorem timesIn_no {op : Int} {v u : List M.Cl} (h : ¬ ((v.getD 0 M.zero).kind = 3 ∧ (u.getD 0 M.zero).kind = 3)) : timesIn op v u = (6, []) := if_neg h
theorem not_both {a b : Int} (h : ¬ (a = 3 ∧ b = 3)) : a ≠ 3 ∨ b ≠ 3 := by omega
theorem mul_out {x y : Int} (h : ¬ 1000000000000000 < size x * size y) : timesOut 3 x y = numOut (x * y) := by unfold timesOut; rw [if_pos rfl, if_neg h]
theorem quo_out {x y : Int} (h : y ≠ 0) : timesOut 10 x y = numOut (x.tdiv y) := by unfold timesOut; rw [if_neg (by omega), if_neg h, if_pos rfl]
theorem rem_out {x y : Int} (h : y ≠ 0) : timesOut 11 x y = numOut (x.tmod y) := by unfold timesOut; rw [if_neg (by omega), if_neg h, if_neg (by omega)]
def divCode (kv ku y : Int) : Int := if kv = 3 ∧ ku = 3 then (if y = 0 then 3 else 0) else 6

set_option maxHeartbeats 1000000 in
theorem divideFault_any (kv ku y : Int) (b off n cap b' off' n' cap' : Nat) (w : World) (hn : 0 < n) (hn' : 0 < n') (f0 : w.cell? ⟨b, off, none⟩ = some (.int .i64 kv)) (g0 : w.cell? ⟨b', off', none⟩ = some (.int .i64 ku)) (g1 : w.cell? ⟨b', off' + 1, none⟩ = some (.int .i64 y)) :
    Calls Tryz.prog 65 #[.slice (some ⟨b, off, none⟩) n cap, .slice (some ⟨b', off', none⟩) n' cap'] w fun e w' => e = .returned (.int .i64 (divCode kv ku y)) ∧ w' = w := by
  by_cases h : kv = 3 ∧ ku = 3
  · obtain ⟨rfl, rfl⟩ := h
    have HYES := hide (areBoth_yes 3 b off n cap b' off' n' cap' w hn hn' f0 g0)
    by_cases hy : y = 0
    · subst hy
      have fin := hide (show divCode 3 3 0 = 3 from by decide)
      go_enter Tryz.func65, Tryz.ntmps65
      go_wp2_with fail
      refine (unhide HYES).mono ?_
      rintro e1 w1 ⟨rfl, rfl⟩
      go_wp2_with fail
      go_ret
      exact ⟨ret_int (unhide fin).symm, rfl⟩
    · have fin := hide (show divCode 3 3 y = 0 from by unfold divCode; rw [if_pos ⟨rfl, rfl⟩, if_neg hy])
      have hy2 : (y == 0) = false := by simpa using hy
      go_enter Tryz.func65, Tryz.ntmps65
      go_wp2_with fail
      refine (unhide HYES).mono ?_
      rintro e1 w1 ⟨rfl, rfl⟩
      go_wp2_with fail
      go_ret
      exact ⟨ret_int (unhide fin).symm, rfl⟩
  · have fin := hide (show divCode kv ku y = 6 from if_neg h)
    have HNO := hide (areBoth_no 3 kv ku b off n cap b' off' n' cap' w hn hn' f0 g0 (not_both h))
    go_enter Tryz.func65, Tryz.ntmps65
    go_wp2_with fail
    refine (unhide HNO).mono ?_
    rintro e1 w1 ⟨rfl, rfl⟩
    go_wp2_with fail
    go_ret
    exact ⟨ret_int (unhide fin).symm, rfl⟩

set_option maxRecDepth 100000 in
set_option maxHeartbeats 4000000 in
theorem quotientOf_any (v : List M.Cl) (b off cap : Nat) (u : List M.Cl) (b' off' cap' : Nat) (w : World) (hv : M.valueFault v = 0) (hu : M.valueFault u = 0) (hrow : Row w b off v) (hb : b < w.heap.size) (hn : v.length ≤ 1048576) (hcap : v.length ≤ cap) (hok : ∀ c ∈ v, c.ok) (hrow' : Row w b' off' u) (hb' : b' < w.heap.size) (hn' : u.length ≤ 1048576) (hcap' : u.length ≤ cap') (hok' : ∀ c ∈ u, c.ok) :
    Calls Tryz.prog 47 #[.slice (some ⟨b, off, none⟩) v.length cap, .slice (some ⟨b', off', none⟩) u.length cap'] w (Ans w (timesIn 10 v u)) := by
  have hl1 := (M.fault_zero hv).1
  have hl1' := (M.fault_zero hu).1
  have hl2 := (M.fault_zero hv).2.1
  have hl2' := (M.fault_zero hu).2.1
  obtain ⟨w0, hw0⟩ : ∃ w0, w0 = w.alloc (.cells #[.int .i64 0, .slice none 0 0] 28) := ⟨_, rfl⟩
  have HR0 : Own w0 w.heap.size 28 [.int .i64 0, .slice none 0 0] := by rw [hw0]; exact ⟨_, heap_alloc_new _ _, rfl⟩
  have B00 : Below w.heap.size w w0 := by rw [hw0]; exact (Below.refl _ _).alloc (Nat.le_refl _) _
  obtain ⟨f0, f1, _, _, _⟩ := (hrow.below B00 hb) 0 (by omega)
  obtain ⟨g0, g1, _, _, _⟩ := (hrow'.below B00 hb') 0 (by omega)
  simp only [Nat.zero_mul, Nat.add_zero] at f0 f1 g0 g1
  obtain ⟨_, _, x1, x2, _, _, _, _⟩ := code_bd (M.first_zero (M.fault_zero hv).2.2.1 _ (getD_mem v 0 (by omega)))
  obtain ⟨_, _, y1, y2, _, _, _, _⟩ := code_bd (M.first_zero (M.fault_zero hu).2.2.1 _ (getD_mem u 0 (by omega)))
  clear hv hu hok hok' hrow hrow' hcap hcap' hn hn'
  have HD := hide (divideFault_any _ _ _ b off v.length cap b' off' u.length cap' w0 (by omega) (by omega) f0 g0 g1)
  by_cases h : (v.getD 0 M.zero).kind = 3 ∧ (u.getD 0 M.zero).kind = 3
  · have fin0 := hide (timesIn_yes (op := 10) h)
    rw [h.1, h.2] at HD
    rw [h.1] at f0
    rw [h.2] at g0
    clear h
    generalize v.getD 0 M.zero = c at *
    generalize u.getD 0 M.zero = d at *
    generalize c.num = x at *
    generalize d.num = y at *
    by_cases hy : y = 0
    · subst hy
      have fin := hide ((unhide fin0).trans (times_zero (by omega)))
      rw [show divCode 3 3 0 = 3 from by decide] at HD
      have r0 := HR0.cell 0
      have r1 := HR0.cell 1
      have z0 := HR0.frozen 0
      have z1 := HR0.frozen 1
      simp only [List.getElem?_cons_zero, List.getElem?_cons_succ] at r0 r1
      clear f0 f1 g0 g1
      go_enter Tryz.func47, Tryz.ntmps47
      go_wp2_with fail
      rw [← hw0]
      clear hw0
      refine (unhide HD).mono ?_
      rintro e1 w1 ⟨rfl, hw1⟩
      have hw2 := hw1.symm
      clear hw1
      subst hw2
      go_wp2_with fail
      refine bodyPost_ret (v := .agg #[.int .i64 3, .slice none 0 0]) (by simp [results, Tryz.results47, go_sem, r0, r1]) rfl (ans_of (unhide fin) (resNil _ _) (store_below B00 _ _))
    · have fin := hide ((unhide fin0).trans (quo_out hy))
      obtain ⟨m0, m1⟩ := tdiv_bd y x1 x2
      have HW := hide (show IntKind.i64.wrap (x.tdiv y) = x.tdiv y from IntWalk.i64_in _ ⟨by omega, by omega⟩)
      clear m0 m1 x1 x2 y1 y2
      rw [show divCode 3 3 y = 0 from by unfold divCode; rw [if_pos ⟨rfl, rfl⟩, if_neg hy]] at HD
      generalize hR2 : numOut (x.tdiv y) = R at *
      obtain ⟨rc, rl⟩ := R
      have HR2 := hide hR2
      clear hR2
      go_enter Tryz.func47, Tryz.ntmps47
      go_wp2_with fail
      rw [← hw0]
      clear hw0
      refine (unhide HD).mono ?_
      rintro e1 w1 ⟨rfl, hw1⟩
      have hw2 := hw1.symm
      clear hw1
      subst hw2
      go_wp2_with fail
      go_region_with (go_at_call 9; try rw [unhide HW]; refine (numberValue_any _ _).mono ?_; rintro e7 w7 ⟨s7, rfl, hr7, hb7⟩; rw [unhide HR2] at hr7 ⊢; have hR7 := HR0.drew.below hb7 HR0.drew.lt; have r0 := hR7.cell 0; have r1 := hR7.cell 1; have z0 := hR7.frozen 0; have z1 := hR7.frozen 1; simp only [List.getElem?_cons_zero, List.getElem?_cons_succ] at r0 r1; have HE := hide (Ans.storeC hr7 (show w.heap.size < _ from by exact HR0.lt) (B00.drew.trans (hb7.mono (by exact B00.size)))); obtain ⟨ac, mc, cc, rfl⟩ := hr7.shape)
      all_goals
        go_wp2_with fail
        refine bodyPost_ret (v := .agg #[.int .i64 rc, .slice ac mc cc]) (by simp [results, Tryz.results47, go_sem, r0, r1]) rfl (ans_of (unhide fin) ((unhide HE) _ _).1 ((unhide HE) _ _).2)
  · have fin := hide (timesIn_no (op := 10) h)
    rw [show ∀ y, divCode (v.getD 0 M.zero).kind (u.getD 0 M.zero).kind y = 6 from fun y => if_neg h] at HD
    have r0 := HR0.cell 0
    have r1 := HR0.cell 1
    have z0 := HR0.frozen 0
    have z1 := HR0.frozen 1
    simp only [List.getElem?_cons_zero, List.getElem?_cons_succ] at r0 r1
    clear f0 f1 g0 g1 h
    go_enter Tryz.func47, Tryz.ntmps47
    go_wp2_with fail
    rw [← hw0]
    clear hw0
    refine (unhide HD).mono ?_
    rintro e1 w1 ⟨rfl, hw1⟩
    have hw2 := hw1.symm
    clear hw1
    subst hw2
    go_wp2_with fail
    refine bodyPost_ret (v := .agg #[.int .i64 6, .slice none 0 0]) (by simp [results, Tryz.results47, go_sem, r0, r1]) rfl (ans_of (unhide fin) (resNil _ _) (store_below B00 _ _))

end Go.Proofs.YtemehbjlfiebdaaGreat

namespace Go.Proofs.YtemehbjlfiebdaaGreat
open Go.RowKit
set_option linter.unusedVariables false

set_option maxRecDepth 100000 in
set_option maxHeartbeats 4000000 in
theorem productOf_any (v : List M.Cl) (b off cap : Nat) (u : List M.Cl) (b' off' cap' : Nat) (w : World) (hv : M.valueFault v = 0) (hu : M.valueFault u = 0) (hrow : Row w b off v) (hb : b < w.heap.size) (hn : v.length ≤ 1048576) (hcap : v.length ≤ cap) (hok : ∀ c ∈ v, c.ok) (hrow' : Row w b' off' u) (hb' : b' < w.heap.size) (hn' : u.length ≤ 1048576) (hcap' : u.length ≤ cap') (hok' : ∀ c ∈ u, c.ok) :
    Calls Tryz.prog 38 #[.slice (some ⟨b, off, none⟩) v.length cap, .slice (some ⟨b', off', none⟩) u.length cap'] w (Ans w (timesIn 3 v u)) := by
  have hl1 := (M.fault_zero hv).1
  have hl1' := (M.fault_zero hu).1
  have hl2 := (M.fault_zero hv).2.1
  have hl2' := (M.fault_zero hu).2.1
  obtain ⟨w0, hw0⟩ : ∃ w0, w0 = w.alloc (.cells #[.int .i64 0, .slice none 0 0] 28) := ⟨_, rfl⟩
  have HR0 : Own w0 w.heap.size 28 [.int .i64 0, .slice none 0 0] := by rw [hw0]; exact ⟨_, heap_alloc_new _ _, rfl⟩
  have B00 : Below w.heap.size w w0 := by rw [hw0]; exact (Below.refl _ _).alloc (Nat.le_refl _) _
  obtain ⟨f0, f1, _, _, _⟩ := (hrow.below B00 hb) 0 (by omega)
  obtain ⟨g0, g1, _, _, _⟩ := (hrow'.below B00 hb') 0 (by omega)
  simp only [Nat.zero_mul, Nat.add_zero] at f0 f1 g0 g1
  obtain ⟨_, _, x1, x2, _, _, _, _⟩ := code_bd (M.first_zero (M.fault_zero hv).2.2.1 _ (getD_mem v 0 (by omega)))
  obtain ⟨_, _, y1, y2, _, _, _, _⟩ := code_bd (M.first_zero (M.fault_zero hu).2.2.1 _ (getD_mem u 0 (by omega)))
  clear hv hu hok hok' hrow hrow' hcap hcap' hn hn'
  by_cases h : (v.getD 0 M.zero).kind = 3 ∧ (u.getD 0 M.zero).kind = 3
  · have fin0 := hide (timesIn_yes (op := 3) h)
    rw [h.1] at f0
    rw [h.2] at g0
    clear h
    have HA := hide (areBoth_yes 3 b off v.length cap b' off' u.length cap' w0 (by omega) (by omega) f0 g0)
    generalize v.getD 0 M.zero = c at *
    generalize u.getD 0 M.zero = d at *
    generalize c.num = x at *
    generalize d.num = y at *
    have hsx1 : size x ≤ 1000000000000000 := by have := size_bd x1 x2; omega
    have hsy1 : size y ≤ 1000000000000000 := by have := size_bd y1 y2; omega
    have hsy0 : 0 ≤ size y := by rw [size_abs]; omega
    have HX := hide (fun w' => sizeOf_any x w' x1 x2)
    have HY := hide (fun w' => sizeOf_any y w' y1 y2)
    by_cases hx : x = 0
    · subst hx
      have fin := hide ((unhide fin0).trans (mul_out (by rw [show size 0 = 0 from rfl]; omega)))
      rw [Int.zero_mul] at fin
      generalize hR2 : numOut 0 = R at *
      obtain ⟨rc, rl⟩ := R
      have HR2 := hide hR2
      clear hR2
      go_enter Tryz.func38, Tryz.ntmps38
      go_wp2_with fail
      rw [← hw0]
      clear hw0
      refine (unhide HA).mono ?_
      rintro e1 w1 ⟨rfl, hw1⟩
      have hw2 := hw1.symm
      clear hw1
      subst hw2
      have f1q := fun q => show (w0.drewN q).cell? ⟨b, off + 1, none⟩ = some (.int .i64 0) from f1
      have g1q := fun q => show (w0.drewN q).cell? ⟨b', off' + 1, none⟩ = some (.int .i64 y) from g1
      go_wp2_with fail
      go_quiet (fail)
      obtain ⟨w9, hw9⟩ : ∃ w9, w9 = w0.drewN nq := ⟨_, rfl⟩
      have HR9 : Own w9 w.heap.size 28 [.int .i64 0, .slice none 0 0] := by rw [hw9]; exact HR0
      have B09 : Below w.heap.size w w9 := by rw [hw9]; exact below_drewN B00 nq
      rw [← hw9]
      clear hw9 HR0 B00 f0 f1 g0 g1
      have r0 := HR9.cell 0
      have r1 := HR9.cell 1
      have z0 := HR9.frozen 0
      have z1 := HR9.frozen 1
      simp only [List.getElem?_cons_zero, List.getElem?_cons_succ] at r0 r1
      go_wp2_with fail
      refine (numberValue_any _ _).mono ?_
      rintro ec wc ⟨sc, rfl, hrc, hbc⟩
      rw [unhide HR2] at hrc ⊢
      have hRc := HR9.below hbc HR9.lt
      clear r0 r1 z0 z1
      have r0 := hRc.cell 0
      have r1 := hRc.cell 1
      have z0 := hRc.frozen 0
      have z1 := hRc.frozen 1
      simp only [List.getElem?_cons_zero, List.getElem?_cons_succ] at r0 r1
      have HE := hide (Ans.store hrc B09 HR9.lt hbc)
      obtain ⟨ac, mc, cc, rfl⟩ := hrc.shape
      clear hrc hbc
      go_wp2_with fail
      refine bodyPost_ret (v := .agg #[.int .i64 rc, .slice ac mc cc]) (by simp [results, Tryz.results38, go_sem, r0, r1]) rfl (ans_of (unhide fin) ((unhide HE) _ _).1 ((unhide HE) _ _).2)
    · have hx1 : (x != 0) = true := by simpa using hx
      have hsp := size_pos hx
      by_cases big : 1000000000000000 < size x * size y
      · have fin := hide ((unhide fin0).trans (times_big big))
        have hq := (big_iff (a := size y) hsp).2 (by rw [Int.mul_comm]; exact big)
        clear big
        generalize size x = sx at *
        generalize size y = sy at *
        go_enter Tryz.func38, Tryz.ntmps38
        go_wp2_with fail
        rw [← hw0]
        clear hw0
        refine (unhide HA).mono ?_
        rintro e1 w1 ⟨rfl, hw1⟩
        have hw2 := hw1.symm
        clear hw1
        subst hw2
        have f1q := fun q => show (w0.drewN q).cell? ⟨b, off + 1, none⟩ = some (.int .i64 x) from f1
        have g1q := fun q => show (w0.drewN q).cell? ⟨b', off' + 1, none⟩ = some (.int .i64 y) from g1
        go_wp2_with fail
        go_quiet (fail)
        obtain ⟨w9, hw9⟩ : ∃ w9, w9 = w0.drewN nq := ⟨_, rfl⟩
        have HR9 : Own w9 w.heap.size 28 [.int .i64 0, .slice none 0 0] := by rw [hw9]; exact HR0
        have B09 : Below w.heap.size w w9 := by rw [hw9]; exact below_drewN B00 nq
        rw [← hw9]
        clear hw9 HR0 B00 f0 f1 g0 g1
        have r0 := HR9.cell 0
        have r1 := HR9.cell 1
        have z0 := HR9.frozen 0
        have z1 := HR9.frozen 1
        simp only [List.getElem?_cons_zero, List.getElem?_cons_succ] at r0 r1
        go_wp2_with fail
        refine ((unhide HY) _).mono ?_
        rintro e3 w3 ⟨rfl, hw3⟩
        have hw4 := hw3.symm
        clear hw3
        subst hw4
        go_wp2_with fail
        refine ((unhide HX) _).mono ?_
        rintro e4 w4 ⟨rfl, hw5⟩
        have hw6 := hw5.symm
        clear hw5
        subst hw6
        go_wp2_with fail
        refine bodyPost_ret (v := .agg #[.int .i64 3, .slice none 0 0]) (by simp [results, Tryz.results38, go_sem, r0, r1]) rfl (ans_of (unhide fin) (resNil _ _) (store_below B09 _ _))
      · have fin := hide ((unhide fin0).trans (mul_out big))
        obtain ⟨m0, m1⟩ := mul_bd big
        have HW := hide (show IntKind.i64.wrap (x * y) = x * y from IntWalk.i64_in _ ⟨by omega, by omega⟩)
        have hq := fun h => big ((Int.mul_comm _ _) ▸ (big_iff (a := size y) hsp).1 h)
        clear big
        generalize size x = sx at *
        generalize size y = sy at *
        generalize hR2 : numOut (x * y) = R at *
        obtain ⟨rc, rl⟩ := R
        have HR2 := hide hR2
        clear hR2
        go_enter Tryz.func38, Tryz.ntmps38
        go_wp2_with fail
        rw [← hw0]
        clear hw0
        refine (unhide HA).mono ?_
        rintro e1 w1 ⟨rfl, hw1⟩
        have hw2 := hw1.symm
        clear hw1
        subst hw2
        have f1q := fun q => show (w0.drewN q).cell? ⟨b, off + 1, none⟩ = some (.int .i64 x) from f1
        have g1q := fun q => show (w0.drewN q).cell? ⟨b', off' + 1, none⟩ = some (.int .i64 y) from g1
        go_wp2_with fail
        go_quiet (fail)
        obtain ⟨w9, hw9⟩ : ∃ w9, w9 = w0.drewN nq := ⟨_, rfl⟩
        have HR9 : Own w9 w.heap.size 28 [.int .i64 0, .slice none 0 0] := by rw [hw9]; exact HR0
        have B09 : Below w.heap.size w w9 := by rw [hw9]; exact below_drewN B00 nq
        rw [← hw9]
        clear hw9 HR0 B00 f0 f1 g0 g1
        have r0 := HR9.cell 0
        have r1 := HR9.cell 1
        have z0 := HR9.frozen 0
        have z1 := HR9.frozen 1
        simp only [List.getElem?_cons_zero, List.getElem?_cons_succ] at r0 r1
        go_wp2_with fail
        refine ((unhide HY) _).mono ?_
        rintro e3 w3 ⟨rfl, hw3⟩
        have hw4 := hw3.symm
        clear hw3
        subst hw4
        go_wp2_with fail
        refine ((unhide HX) _).mono ?_
        rintro e4 w4 ⟨rfl, hw5⟩
        have hw6 := hw5.symm
        clear hw5
        subst hw6
        go_wp2_with fail
        try rw [unhide HW]
        refine (numberValue_any _ _).mono ?_
        rintro ec wc ⟨sc, rfl, hrc, hbc⟩
        rw [unhide HR2] at hrc ⊢
        have hRc := HR9.below hbc HR9.lt
        clear r0 r1 z0 z1
        have r0 := hRc.cell 0
        have r1 := hRc.cell 1
        have z0 := hRc.frozen 0
        have z1 := hRc.frozen 1
        simp only [List.getElem?_cons_zero, List.getElem?_cons_succ] at r0 r1
        have HE := hide (Ans.store hrc B09 HR9.lt hbc)
        obtain ⟨ac, mc, cc, rfl⟩ := hrc.shape
        clear hrc hbc
        go_wp2_with fail
        refine bodyPost_ret (v := .agg #[.int .i64 rc, .slice ac mc cc]) (by simp [results, Tryz.results38, go_sem, r0, r1]) rfl (ans_of (unhide fin) ((unhide HE) _ _).1 ((unhide HE) _ _).2)
  · have fin := hide (timesIn_no (op := 3) h)
    have HA := hide (areBoth_no 3 _ _ b off v.length cap b' off' u.length cap' w0 (by omega) (by omega) f0 g0 (not_both h))
    have r0 := HR0.cell 0
    have r1 := HR0.cell 1
    have z0 := HR0.frozen 0
    have z1 := HR0.frozen 1
    simp only [List.getElem?_cons_zero, List.getElem?_cons_succ] at r0 r1
    clear f0 f1 g0 g1 h
    go_enter Tryz.func38, Tryz.ntmps38
    go_wp2_with fail
    rw [← hw0]
    clear hw0
    refine (unhide HA).mono ?_
    rintro e1 w1 ⟨rfl, hw1⟩
    have hw2 := hw1.symm
    clear hw1
    subst hw2
    go_wp2_with fail
    refine bodyPost_ret (v := .agg #[.int .i64 6, .slice none 0 0]) (by simp [results, Tryz.results38, go_sem, r0, r1]) rfl (ans_of (unhide fin) (resNil _ _) (store_below B00 _ _))

end Go.Proofs.YtemehbjlfiebdaaGreat

namespace Go.Proofs.YtemehbjlfiebdaaGreat
open Go.RowKit
set_option linter.unusedVariables false

set_option maxRecDepth 100000 in
set_option maxHeartbeats 4000000 in
theorem remainderOf_any (v : List M.Cl) (b off cap : Nat) (u : List M.Cl) (b' off' cap' : Nat) (w : World) (hv : M.valueFault v = 0) (hu : M.valueFault u = 0) (hrow : Row w b off v) (hb : b < w.heap.size) (hn : v.length ≤ 1048576) (hcap : v.length ≤ cap) (hok : ∀ c ∈ v, c.ok) (hrow' : Row w b' off' u) (hb' : b' < w.heap.size) (hn' : u.length ≤ 1048576) (hcap' : u.length ≤ cap') (hok' : ∀ c ∈ u, c.ok) :
    Calls Tryz.prog 48 #[.slice (some ⟨b, off, none⟩) v.length cap, .slice (some ⟨b', off', none⟩) u.length cap'] w (Ans w (timesIn 11 v u)) := by
  have hl1 := (M.fault_zero hv).1
  have hl1' := (M.fault_zero hu).1
  have hl2 := (M.fault_zero hv).2.1
  have hl2' := (M.fault_zero hu).2.1
  obtain ⟨w0, hw0⟩ : ∃ w0, w0 = w.alloc (.cells #[.int .i64 0, .slice none 0 0] 28) := ⟨_, rfl⟩
  have HR0 : Own w0 w.heap.size 28 [.int .i64 0, .slice none 0 0] := by rw [hw0]; exact ⟨_, heap_alloc_new _ _, rfl⟩
  have B00 : Below w.heap.size w w0 := by rw [hw0]; exact (Below.refl _ _).alloc (Nat.le_refl _) _
  obtain ⟨f0, f1, _, _, _⟩ := (hrow.below B00 hb) 0 (by omega)
  obtain ⟨g0, g1, _, _, _⟩ := (hrow'.below B00 hb') 0 (by omega)
  simp only [Nat.zero_mul, Nat.add_zero] at f0 f1 g0 g1
  obtain ⟨_, _, x1, x2, _, _, _, _⟩ := code_bd (M.first_zero (M.fault_zero hv).2.2.1 _ (getD_mem v 0 (by omega)))
  obtain ⟨_, _, y1, y2, _, _, _, _⟩ := code_bd (M.first_zero (M.fault_zero hu).2.2.1 _ (getD_mem u 0 (by omega)))
  clear hv hu hok hok' hrow hrow' hcap hcap' hn hn'
  have HD := hide (divideFault_any _ _ _ b off v.length cap b' off' u.length cap' w0 (by omega) (by omega) f0 g0 g1)
  by_cases h : (v.getD 0 M.zero).kind = 3 ∧ (u.getD 0 M.zero).kind = 3
  · have fin0 := hide (timesIn_yes (op := 11) h)
    rw [h.1, h.2] at HD
    rw [h.1] at f0
    rw [h.2] at g0
    clear h
    generalize v.getD 0 M.zero = c at *
    generalize u.getD 0 M.zero = d at *
    generalize c.num = x at *
    generalize d.num = y at *
    by_cases hy : y = 0
    · subst hy
      have fin := hide ((unhide fin0).trans (times_zero (by omega)))
      rw [show divCode 3 3 0 = 3 from by decide] at HD
      have r0 := HR0.cell 0
      have r1 := HR0.cell 1
      have z0 := HR0.frozen 0
      have z1 := HR0.frozen 1
      simp only [List.getElem?_cons_zero, List.getElem?_cons_succ] at r0 r1
      clear f0 f1 g0 g1
      go_enter Tryz.func48, Tryz.ntmps48
      go_wp2_with fail
      rw [← hw0]
      clear hw0
      refine (unhide HD).mono ?_
      rintro e1 w1 ⟨rfl, hw1⟩
      have hw2 := hw1.symm
      clear hw1
      subst hw2
      go_wp2_with fail
      refine bodyPost_ret (v := .agg #[.int .i64 3, .slice none 0 0]) (by simp [results, Tryz.results48, go_sem, r0, r1]) rfl (ans_of (unhide fin) (resNil _ _) (store_below B00 _ _))
    · have fin := hide ((unhide fin0).trans (rem_out hy))
      obtain ⟨m0, m1⟩ := tmod_bd y x1 x2
      have HW := hide (show IntKind.i64.wrap (x.tmod y) = x.tmod y from IntWalk.i64_in _ ⟨by omega, by omega⟩)
      clear m0 m1 x1 x2 y1 y2
      rw [show divCode 3 3 y = 0 from by unfold divCode; rw [if_pos ⟨rfl, rfl⟩, if_neg hy]] at HD
      generalize hR2 : numOut (x.tmod y) = R at *
      obtain ⟨rc, rl⟩ := R
      have HR2 := hide hR2
      clear hR2
      go_enter Tryz.func48, Tryz.ntmps48
      go_wp2_with fail
      rw [← hw0]
      clear hw0
      refine (unhide HD).mono ?_
      rintro e1 w1 ⟨rfl, hw1⟩
      have hw2 := hw1.symm
      clear hw1
      subst hw2
      go_wp2_with fail
      go_region_with (go_at_call 9; refine (numberValue_any _ _).mono ?_; rintro e7 w7 ⟨s7, rfl, hr7, hb7⟩; rw [unhide HR2] at hr7 ⊢; have hR7 := HR0.drew.below hb7 HR0.drew.lt; have r0 := hR7.cell 0; have r1 := hR7.cell 1; have z0 := hR7.frozen 0; have z1 := hR7.frozen 1; simp only [List.getElem?_cons_zero, List.getElem?_cons_succ] at r0 r1; have HE := hide (Ans.storeC hr7 (show w.heap.size < _ from by exact HR0.lt) (B00.drew.trans (hb7.mono (by exact B00.size)))); obtain ⟨ac, mc, cc, rfl⟩ := hr7.shape)
      all_goals
        go_wp2_with fail
        refine bodyPost_ret (v := .agg #[.int .i64 rc, .slice ac mc cc]) (by simp [results, Tryz.results48, go_sem, r0, r1]) rfl (ans_of (unhide fin) ((unhide HE) _ _).1 ((unhide HE) _ _).2)
  · have fin := hide (timesIn_no (op := 11) h)
    rw [show ∀ y, divCode (v.getD 0 M.zero).kind (u.getD 0 M.zero).kind y = 6 from fun y => if_neg h] at HD
    have r0 := HR0.cell 0
    have r1 := HR0.cell 1
    have z0 := HR0.frozen 0
    have z1 := HR0.frozen 1
    simp only [List.getElem?_cons_zero, List.getElem?_cons_succ] at r0 r1
    clear f0 f1 g0 g1 h
    go_enter Tryz.func48, Tryz.ntmps48
    go_wp2_with fail
    rw [← hw0]
    clear hw0
    refine (unhide HD).mono ?_
    rintro e1 w1 ⟨rfl, hw1⟩
    have hw2 := hw1.symm
    clear hw1
    subst hw2
    go_wp2_with fail
    refine bodyPost_ret (v := .agg #[.int .i64 6, .slice none 0 0]) (by simp [results, Tryz.results48, go_sem, r0, r1]) rfl (ans_of (unhide fin) (resNil _ _) (store_below B00 _ _))

end Go.Proofs.YtemehbjlfiebdaaGreat
