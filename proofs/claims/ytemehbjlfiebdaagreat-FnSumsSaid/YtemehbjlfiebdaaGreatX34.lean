/-
  impl.compareAt, case by case, and by induction on the length of the part.
-/
import Derived.Test.YtemehbjlfiebdaaGreatX33
namespace Go.Proofs.YtemehbjlfiebdaaGreat
open Go.RowKit
set_option linter.unusedVariables false

set_option maxRecDepth 100000 in
set_option maxHeartbeats 8000000 in
theorem cat_kind (v u : List M.Cl) (b off cap b' off' cap' f i j : Nat) (IH : Hid (CatSays v u b off cap b' off' cap' f)) (w : World) (HV : Hid (M.valueFault v = 0)) (HU : Hid (M.valueFault u = 0)) (hi : i < v.length) (hj : j < u.length) (hpl : (part v i).length ≤ f + 1) (hr : Row w b off v) (hb : b < w.heap.size) (hr' : Row w b' off' u) (hb' : b' < w.heap.size) (hcap : v.length ≤ cap) (hcap' : u.length ≤ cap') (x y : M.Cl) (hx : x = v.getD i M.zero) (hy : y = u.getD j M.zero) (hor : orCells x y ≠ 0) (g1 : (x.kind == y.kind) = false) :
    Calls Tryz.prog 29 #[.slice (some ⟨b, off, none⟩) v.length cap, .int .i64 i, .slice (some ⟨b', off', none⟩) u.length cap', .int .i64 j] w fun e w' => e = .returned (.int .i64 (cmpL (f + 1) (part v i) (part u j))) ∧ Below w.heap.size w w' := by
  have hl := (M.fault_zero (unhide HV)).2.1
  have hl' := (M.fault_zero (unhide HU)).2.1
  obtain ⟨x0, x1, x2, x3, x4⟩ := hr i hi
  obtain ⟨y0, y1, y2, y3, y4⟩ := hr' j hj
  rw [← hx] at x0 x1 x2 x3 x4
  rw [← hy] at y0 y1 y2 y3 y4
  have HROW := hide hr
  have HROW' := hide hr'
  have fin := hide (cat_early f (unhide HV) (unhide HU) hi hj (by rw [← hx, ← hy]; exact hor))
  rw [← hx, ← hy] at fin
  have HNE := hide hor
  have a1 : (i : Int) < (v.length : Int) := by omega
  have a2 : (j : Int) < (u.length : Int) := by omega
  have n1 : b ≠ w.heap.size := by omega
  have n2 : b' ≠ w.heap.size := by omega
  clear hr hr' hx hy hpl hor
  go_enter Tryz.func29, Tryz.ntmps29
  go_wp2_with fail
  go_region
  · clear x0 x1 x2 x3 x4 y0 y1 y2 y3 y4
    go_wp2_with fail
    refine (compareCells_any x y _).mono ?_
    rintro e w0 ⟨rfl, hb0⟩
    have B : Below w.heap.size w w0 := ((((Below.refl _ _).alloc (Nat.le_refl _) _).alloc (by simp) _).drew).trans (hb0.mono (by simp <;> omega))
    clear hb0
    generalize orCells x y = q at *
    have hq0 : (q == 0) = false := by simp [unhide HNE]
    go_wp2_with fail
    go_ret
    exact ⟨ret_int (unhide fin).symm, B⟩
  · clear x0 x1 x2 x3 x4 y0 y1 y2 y3 y4
    go_wp2_with fail
    refine (compareCells_any x y _).mono ?_
    rintro e w0 ⟨rfl, hb0⟩
    have B : Below w.heap.size w w0 := ((((Below.refl _ _).alloc (Nat.le_refl _) _).alloc (by simp) _).drew).trans (hb0.mono (by simp <;> omega))
    clear hb0
    generalize orCells x y = q at *
    have hq0 : (q == 0) = false := by simp [unhide HNE]
    go_wp2_with fail
    go_ret
    exact ⟨ret_int (unhide fin).symm, B⟩

set_option maxRecDepth 100000 in
set_option maxHeartbeats 8000000 in
theorem cat_num (v u : List M.Cl) (b off cap b' off' cap' f i j : Nat) (IH : Hid (CatSays v u b off cap b' off' cap' f)) (w : World) (HV : Hid (M.valueFault v = 0)) (HU : Hid (M.valueFault u = 0)) (hi : i < v.length) (hj : j < u.length) (hpl : (part v i).length ≤ f + 1) (hr : Row w b off v) (hb : b < w.heap.size) (hr' : Row w b' off' u) (hb' : b' < w.heap.size) (hcap : v.length ≤ cap) (hcap' : u.length ≤ cap') (x y : M.Cl) (hx : x = v.getD i M.zero) (hy : y = u.getD j M.zero) (hor : orCells x y ≠ 0) (g1 : (x.kind == y.kind) = true) (g2 : (x.num == y.num) = false) :
    Calls Tryz.prog 29 #[.slice (some ⟨b, off, none⟩) v.length cap, .int .i64 i, .slice (some ⟨b', off', none⟩) u.length cap', .int .i64 j] w fun e w' => e = .returned (.int .i64 (cmpL (f + 1) (part v i) (part u j))) ∧ Below w.heap.size w w' := by
  have hl := (M.fault_zero (unhide HV)).2.1
  have hl' := (M.fault_zero (unhide HU)).2.1
  obtain ⟨x0, x1, x2, x3, x4⟩ := hr i hi
  obtain ⟨y0, y1, y2, y3, y4⟩ := hr' j hj
  rw [← hx] at x0 x1 x2 x3 x4
  rw [← hy] at y0 y1 y2 y3 y4
  have HROW := hide hr
  have HROW' := hide hr'
  have fin := hide (cat_early f (unhide HV) (unhide HU) hi hj (by rw [← hx, ← hy]; exact hor))
  rw [← hx, ← hy] at fin
  have HNE := hide hor
  have a1 : (i : Int) < (v.length : Int) := by omega
  have a2 : (j : Int) < (u.length : Int) := by omega
  have n1 : b ≠ w.heap.size := by omega
  have n2 : b' ≠ w.heap.size := by omega
  clear hr hr' hx hy hpl hor
  go_enter Tryz.func29, Tryz.ntmps29
  go_wp2_with fail
  go_region
  · clear x0 x1 x2 x3 x4 y0 y1 y2 y3 y4
    go_wp2_with fail
    refine (compareCells_any x y _).mono ?_
    rintro e w0 ⟨rfl, hb0⟩
    have B : Below w.heap.size w w0 := ((((Below.refl _ _).alloc (Nat.le_refl _) _).alloc (by simp) _).drew).trans (hb0.mono (by simp <;> omega))
    clear hb0
    generalize orCells x y = q at *
    have hq0 : (q == 0) = false := by simp [unhide HNE]
    go_wp2_with fail
    go_ret
    exact ⟨ret_int (unhide fin).symm, B⟩
  · clear x0 x1 x2 x3 x4 y0 y1 y2 y3 y4
    go_wp2_with fail
    refine (compareCells_any x y _).mono ?_
    rintro e w0 ⟨rfl, hb0⟩
    have B : Below w.heap.size w w0 := ((((Below.refl _ _).alloc (Nat.le_refl _) _).alloc (by simp) _).drew).trans (hb0.mono (by simp <;> omega))
    clear hb0
    generalize orCells x y = q at *
    have hq0 : (q == 0) = false := by simp [unhide HNE]
    go_wp2_with fail
    go_ret
    exact ⟨ret_int (unhide fin).symm, B⟩

set_option maxRecDepth 100000 in
set_option maxHeartbeats 8000000 in
theorem cat_text (v u : List M.Cl) (b off cap b' off' cap' f i j : Nat) (IH : Hid (CatSays v u b off cap b' off' cap' f)) (w : World) (HV : Hid (M.valueFault v = 0)) (HU : Hid (M.valueFault u = 0)) (hi : i < v.length) (hj : j < u.length) (hpl : (part v i).length ≤ f + 1) (hr : Row w b off v) (hb : b < w.heap.size) (hr' : Row w b' off' u) (hb' : b' < w.heap.size) (hcap : v.length ≤ cap) (hcap' : u.length ≤ cap') (x y : M.Cl) (hx : x = v.getD i M.zero) (hy : y = u.getD j M.zero) (hor : orCells x y ≠ 0) (g1 : (x.kind == y.kind) = true) (g2 : (x.num == y.num) = true) (g3 : (x.text.toList == y.text.toList) = false) :
    Calls Tryz.prog 29 #[.slice (some ⟨b, off, none⟩) v.length cap, .int .i64 i, .slice (some ⟨b', off', none⟩) u.length cap', .int .i64 j] w fun e w' => e = .returned (.int .i64 (cmpL (f + 1) (part v i) (part u j))) ∧ Below w.heap.size w w' := by
  have hl := (M.fault_zero (unhide HV)).2.1
  have hl' := (M.fault_zero (unhide HU)).2.1
  obtain ⟨x0, x1, x2, x3, x4⟩ := hr i hi
  obtain ⟨y0, y1, y2, y3, y4⟩ := hr' j hj
  rw [← hx] at x0 x1 x2 x3 x4
  rw [← hy] at y0 y1 y2 y3 y4
  have HROW := hide hr
  have HROW' := hide hr'
  have fin := hide (cat_early f (unhide HV) (unhide HU) hi hj (by rw [← hx, ← hy]; exact hor))
  rw [← hx, ← hy] at fin
  have HNE := hide hor
  have a1 : (i : Int) < (v.length : Int) := by omega
  have a2 : (j : Int) < (u.length : Int) := by omega
  have n1 : b ≠ w.heap.size := by omega
  have n2 : b' ≠ w.heap.size := by omega
  clear hr hr' hx hy hpl hor
  go_enter Tryz.func29, Tryz.ntmps29
  go_wp2_with fail
  go_region
  · clear x0 x1 x2 x3 x4 y0 y1 y2 y3 y4
    go_wp2_with fail
    refine (compareCells_any x y _).mono ?_
    rintro e w0 ⟨rfl, hb0⟩
    have B : Below w.heap.size w w0 := ((((Below.refl _ _).alloc (Nat.le_refl _) _).alloc (by simp) _).drew).trans (hb0.mono (by simp <;> omega))
    clear hb0
    generalize orCells x y = q at *
    have hq0 : (q == 0) = false := by simp [unhide HNE]
    go_wp2_with fail
    go_ret
    exact ⟨ret_int (unhide fin).symm, B⟩
  · clear x0 x1 x2 x3 x4 y0 y1 y2 y3 y4
    go_wp2_with fail
    refine (compareCells_any x y _).mono ?_
    rintro e w0 ⟨rfl, hb0⟩
    have B : Below w.heap.size w w0 := ((((Below.refl _ _).alloc (Nat.le_refl _) _).alloc (by simp) _).drew).trans (hb0.mono (by simp <;> omega))
    clear hb0
    generalize orCells x y = q at *
    have hq0 : (q == 0) = false := by simp [unhide HNE]
    go_wp2_with fail
    go_ret
    exact ⟨ret_int (unhide fin).symm, B⟩

end Go.Proofs.YtemehbjlfiebdaaGreat
