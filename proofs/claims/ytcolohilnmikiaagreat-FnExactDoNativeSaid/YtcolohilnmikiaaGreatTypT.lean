/-
  spec.LengthOf and impl.LengthOf.
  spec.TypeOf and impl.TypeOf.
-/
import Derived.Test.YtcolohilnmikiaaGreatBld
import Derived.Test.YtcolohilnmikiaaGreatBoth
namespace Go.Proofs.YtcolohilnmikiaaGreat
open Go.RowKit
set_option linter.unusedVariables false

/-- The size of a number. -/
def size (n : Int) : Int := if n < 0 then -n else n
def lenN (c : M.Cl) : Int := if c.kind = 0 then 0 else if c.kind = 3 then size c.num else if c.kind = 4 then c.text.size else c.n
def lenIn (c : M.Cl) : Int × List M.Cl := if c.kind = 1 ∨ c.kind = 2 then (6, []) else (0, [⟨3, lenN c, ByteArray.empty, ByteArray.empty, 0⟩])
def lenOut (v : List M.Cl) : Int × List M.Cl := if M.valueFault v ≠ 0 then (M.valueFault v, []) else lenIn (v.getD 0 M.zero)
theorem len_bad {v : List M.Cl} (h : M.valueFault v ≠ 0) : lenOut v = (M.valueFault v, []) := if_pos h
theorem len_ok {v : List M.Cl} (h : M.valueFault v = 0) : lenOut v = lenIn (v.getD 0 M.zero) := by unfold lenOut; rw [if_neg (by simp [h])]
/-- What is known of a cell that has no fault. -/
theorem code_bd {c : M.Cl} (h : M.cellCode c = 0) : 0 ≤ c.kind ∧ c.kind ≤ 6 ∧ -1000000000000000 ≤ c.num ∧ c.num ≤ 1000000000000000 ∧ 0 ≤ c.n ∧ c.n ≤ 200 ∧ M.textOk c.text = true ∧ M.textOk c.key = true := by
  unfold M.cellCode at h
  split at h
  · cases h
  split at h
  · cases h
  split at h
  · cases h
  split at h
  · rename_i h4; exact ⟨by omega, by omega, by omega, by omega, by omega, by omega, h4.1, h4.2⟩
  · cases h
theorem textOk_size {s : ByteArray} (h : M.textOk s = true) : s.size ≤ 60 := by
  unfold M.textOk at h
  rw [Bool.and_eq_true] at h
  exact of_decide_eq_true h.1

set_option maxHeartbeats 400000 in
theorem l3Size_any (n : Int) (w : World) (n0 : -1000000000000000 ≤ n) (n1 : n ≤ 1000000000000000) : Calls Tryz.prog 59 #[.int .i64 n] w fun e w' => e = .returned (.int .i64 (size n)) ∧ w' = w := by
  by_cases h : n < 0
  · have fin := hide (show size n = -n from if_pos h)
    go_enter Tryz.func59, Tryz.ntmps59
    go_wp2
    go_ret
    exact ⟨ret_int (unhide fin).symm, rfl⟩
  · have fin := hide (show size n = n from if_neg h)
    go_enter Tryz.func59, Tryz.ntmps59
    go_wp2
    go_ret
    exact ⟨ret_int (unhide fin).symm, rfl⟩
set_option maxHeartbeats 400000 in
theorem sizeOf_any (n : Int) (w : World) (n0 : -1000000000000000 ≤ n) (n1 : n ≤ 1000000000000000) : Calls Tryz.prog 42 #[.int .i64 n] w fun e w' => e = .returned (.int .i64 (size n)) ∧ w' = w := by
  by_cases h : n < 0
  · have fin := hide (show size n = -n from if_pos h)
    have h1 : ¬ -n ≤ n := by omega
    go_enter Tryz.func42, Tryz.ntmps42
    go_wp2
    go_ret
    exact ⟨ret_int (unhide fin).symm, rfl⟩
  · have fin := hide (show size n = n from if_neg h)
    have h1 : -n ≤ n := by omega
    go_enter Tryz.func42, Tryz.ntmps42
    go_wp2
    go_ret
    exact ⟨ret_int (unhide fin).symm, rfl⟩

theorem lenIn_0 {c : M.Cl} (h : c.kind = 0) : lenIn c = (0, [⟨3, 0, ByteArray.empty, ByteArray.empty, 0⟩]) := by unfold lenIn lenN; rw [if_neg (by omega), if_pos h]
theorem lenIn_3 {c : M.Cl} (h : c.kind = 3) : lenIn c = (0, [⟨3, size c.num, ByteArray.empty, ByteArray.empty, 0⟩]) := by unfold lenIn lenN; rw [if_neg (by omega), if_neg (by omega), if_pos h]
theorem lenIn_4 {c : M.Cl} (h : c.kind = 4) : lenIn c = (0, [⟨3, c.text.size, ByteArray.empty, ByteArray.empty, 0⟩]) := by unfold lenIn lenN; rw [if_neg (by omega), if_neg (by omega), if_neg (by omega), if_pos h]
theorem lenIn_n {c : M.Cl} (h : c.kind = 5 ∨ c.kind = 6) : lenIn c = (0, [⟨3, c.n, ByteArray.empty, ByteArray.empty, 0⟩]) := by unfold lenIn lenN; rw [if_neg (by omega), if_neg (by omega), if_neg (by omega), if_neg (by omega)]
theorem lenIn_b {c : M.Cl} (h : c.kind = 1 ∨ c.kind = 2) : lenIn c = (6, []) := if_pos h
theorem size_bd {n : Int} (n0 : -1000000000000000 ≤ n) (n1 : n ≤ 1000000000000000) : ¬ (size n < -1000000000000000 ∨ 1000000000000000 < size n) := by unfold size; split <;> omega

set_option maxHeartbeats 2000000 in
theorem l3Length_any (v : List M.Cl) (b off cap : Nat) (w : World) (hv : M.valueFault v = 0) (hrow : Row w b off v) (hb : b < w.heap.size) (hcap : v.length ≤ cap) (hok : ∀ c ∈ v, c.ok) :
    Calls Tryz.prog 32 #[.slice (some ⟨b, off, none⟩) v.length cap] w (Ans w (lenIn (v.getD 0 M.zero))) := by
  have hl1 := (M.fault_zero hv).1
  have hcd := M.first_zero (M.fault_zero hv).2.2.1 _ (getD_mem v 0 (by omega))
  obtain ⟨c0, c1, c2, c3, c4, c5, c6, _⟩ := code_bd hcd
  have c7 := textOk_size c6
  have B0 : ∀ o, Below w.heap.size w (w.alloc o) := fun o => (Below.refl _ _).alloc (Nat.le_refl _) o
  have HB0 := hide B0
  clear B0
  have hR0 : Own (w.alloc (.cells #[.int .i64 0, .slice none 0 0] 26)) w.heap.size 26 [.int .i64 0, .slice none 0 0] := ⟨_, heap_alloc_new _ _, rfl⟩
  have HR0 := hide hR0
  clear hR0
  obtain ⟨q0, q1, q2, _, q4⟩ := hrow 0 (by omega)
  simp only [Nat.zero_mul, Nat.add_zero] at q0 q1 q2 q4
  generalize v.getD 0 M.zero = c at *
  have f1 : ∀ o, (w.alloc o).cell? ⟨b, off + 1, none⟩ = some (.int .i64 c.num) := fun o => (((unhide HB0) o).cell hb).trans q1
  have f2 : ∀ o, (w.alloc o).cell? ⟨b, off + 2, none⟩ = some (.string c.text) := fun o => (((unhide HB0) o).cell hb).trans q2
  have f4 : ∀ o, (w.alloc o).cell? ⟨b, off + 4, none⟩ = some (.int .i64 c.n) := fun o => (((unhide HB0) o).cell hb).trans q4
  have f0 : ∀ o, (w.alloc o).cell? ⟨b, off, none⟩ = some (.int .i64 c.kind) := fun o => (((unhide HB0) o).cell hb).trans q0
  clear q0 q1 q2 q4 hv hok hrow hcd c6
  by_cases k0 : c.kind = 0
  · have fin := hide (lenIn_0 k0)
    rw [k0] at f0
    clear k0
    go_enter Tryz.func32, Tryz.ntmps32
    go_wp2_with fail
    refine (l1Number_any _ _).mono ?_
    rintro ec wc ⟨sc, rfl, hrc, hbc⟩
    have hRc := (unhide HR0).below hbc (unhide HR0).lt
    have r0 := hRc.cell 0
    have r1 := hRc.cell 1
    have z0 := hRc.frozen 0
    have z1 := hRc.frozen 1
    simp only [List.getElem?_cons_zero, List.getElem?_cons_succ] at r0 r1
    have HE := hide (Ans.store hrc ((unhide HB0) _) (unhide HR0).lt hbc)
    obtain ⟨ac, mc, cc, rfl⟩ := hrc.shape
    clear f0 f1 f2 f4 hrc hbc
    go_wp2_with fail
    refine bodyPost_ret (v := .agg #[.int .i64 0, .slice ac mc cc]) (by simp [results, Tryz.results32, go_sem, r0, r1]) rfl (ans_of (unhide fin) ((unhide HE) _ _).1 ((unhide HE) _ _).2)
  by_cases k3 : c.kind = 3
  · have fin := hide (lenIn_3 k3)
    rw [k3] at f0
    clear k3 k0
    go_enter Tryz.func32, Tryz.ntmps32
    go_wp2_with fail
    refine (l3Size_any _ _ c2 c3).mono ?_; rintro e w' ⟨rfl, rfl⟩
    generalize size c.num = sz at *
    go_wp2_with fail
    refine (l1Number_any _ _).mono ?_
    rintro ec wc ⟨sc, rfl, hrc, hbc⟩
    have hRc := (unhide HR0).below hbc (unhide HR0).lt
    have r0 := hRc.cell 0
    have r1 := hRc.cell 1
    have z0 := hRc.frozen 0
    have z1 := hRc.frozen 1
    simp only [List.getElem?_cons_zero, List.getElem?_cons_succ] at r0 r1
    have HE := hide (Ans.store hrc ((unhide HB0) _) (unhide HR0).lt hbc)
    obtain ⟨ac, mc, cc, rfl⟩ := hrc.shape
    clear f0 f1 f2 f4 hrc hbc
    go_wp2_with fail
    refine bodyPost_ret (v := .agg #[.int .i64 0, .slice ac mc cc]) (by simp [results, Tryz.results32, go_sem, r0, r1]) rfl (ans_of (unhide fin) ((unhide HE) _ _).1 ((unhide HE) _ _).2)
  by_cases k4 : c.kind = 4
  · have fin := hide (lenIn_4 k4)
    rw [k4] at f0
    clear k4 k0 k3
    go_enter Tryz.func32, Tryz.ntmps32
    go_wp2_with fail
    refine (l1Number_any _ _).mono ?_
    rintro ec wc ⟨sc, rfl, hrc, hbc⟩
    have hRc := (unhide HR0).below hbc (unhide HR0).lt
    have r0 := hRc.cell 0
    have r1 := hRc.cell 1
    have z0 := hRc.frozen 0
    have z1 := hRc.frozen 1
    simp only [List.getElem?_cons_zero, List.getElem?_cons_succ] at r0 r1
    have HE := hide (Ans.store hrc ((unhide HB0) _) (unhide HR0).lt hbc)
    obtain ⟨ac, mc, cc, rfl⟩ := hrc.shape
    clear f0 f1 f2 f4 hrc hbc
    go_wp2_with fail
    refine bodyPost_ret (v := .agg #[.int .i64 0, .slice ac mc cc]) (by simp [results, Tryz.results32, go_sem, r0, r1]) rfl (ans_of (unhide fin) ((unhide HE) _ _).1 ((unhide HE) _ _).2)
  by_cases k5 : c.kind = 5
  · have fin := hide (lenIn_n (.inl k5))
    rw [k5] at f0
    clear k5 k0 k3 k4
    go_enter Tryz.func32, Tryz.ntmps32
    go_wp2_with fail
    refine (l1Number_any _ _).mono ?_
    rintro ec wc ⟨sc, rfl, hrc, hbc⟩
    have hRc := (unhide HR0).below hbc (unhide HR0).lt
    have r0 := hRc.cell 0
    have r1 := hRc.cell 1
    have z0 := hRc.frozen 0
    have z1 := hRc.frozen 1
    simp only [List.getElem?_cons_zero, List.getElem?_cons_succ] at r0 r1
    have HE := hide (Ans.store hrc ((unhide HB0) _) (unhide HR0).lt hbc)
    obtain ⟨ac, mc, cc, rfl⟩ := hrc.shape
    clear f0 f1 f2 f4 hrc hbc
    go_wp2_with fail
    refine bodyPost_ret (v := .agg #[.int .i64 0, .slice ac mc cc]) (by simp [results, Tryz.results32, go_sem, r0, r1]) rfl (ans_of (unhide fin) ((unhide HE) _ _).1 ((unhide HE) _ _).2)
  by_cases k6 : c.kind = 6
  · have fin := hide (lenIn_n (.inr k6))
    rw [k6] at f0
    clear k6 k0 k3 k4 k5
    go_enter Tryz.func32, Tryz.ntmps32
    go_wp2_with fail
    refine (l1Number_any _ _).mono ?_
    rintro ec wc ⟨sc, rfl, hrc, hbc⟩
    have hRc := (unhide HR0).below hbc (unhide HR0).lt
    have r0 := hRc.cell 0
    have r1 := hRc.cell 1
    have z0 := hRc.frozen 0
    have z1 := hRc.frozen 1
    simp only [List.getElem?_cons_zero, List.getElem?_cons_succ] at r0 r1
    have HE := hide (Ans.store hrc ((unhide HB0) _) (unhide HR0).lt hbc)
    obtain ⟨ac, mc, cc, rfl⟩ := hrc.shape
    clear f0 f1 f2 f4 hrc hbc
    go_wp2_with fail
    refine bodyPost_ret (v := .agg #[.int .i64 0, .slice ac mc cc]) (by simp [results, Tryz.results32, go_sem, r0, r1]) rfl (ans_of (unhide fin) ((unhide HE) _ _).1 ((unhide HE) _ _).2)
  · have fin := hide (lenIn_b (c := c) (by omega))
    have e0 : (c.kind == 0) = false := by simp [k0]
    have e3 : (c.kind == 3) = false := by simp [k3]
    have e4 : (c.kind == 4) = false := by simp [k4]
    have e5 : (c.kind == 5) = false := by simp [k5]
    have e6 : (c.kind == 6) = false := by simp [k6]
    clear k0 k3 k4 k5 k6
    go_enter Tryz.func32, Tryz.ntmps32
    go_wp2_with fail
    refine (l3Bad_any _ _).mono ?_
    rintro ec wc ⟨sc, rfl, hrc, hbc⟩
    have hRc := (unhide HR0).below hbc (unhide HR0).lt
    have r0 := hRc.cell 0
    have r1 := hRc.cell 1
    have z0 := hRc.frozen 0
    have z1 := hRc.frozen 1
    simp only [List.getElem?_cons_zero, List.getElem?_cons_succ] at r0 r1
    have HE := hide (Ans.store hrc ((unhide HB0) _) (unhide HR0).lt hbc)
    obtain ⟨ac, mc, cc, rfl⟩ := hrc.shape
    clear f0 f1 f2 f4 e0 e3 e4 e5 e6 hrc hbc
    go_wp2_with fail
    refine bodyPost_ret (v := .agg #[.int .i64 6, .slice ac mc cc]) (by simp [results, Tryz.results32, go_sem, r0, r1]) rfl (ans_of (unhide fin) ((unhide HE) _ _).1 ((unhide HE) _ _).2)

set_option maxRecDepth 100000 in
set_option maxHeartbeats 2000000 in
theorem implLengthOf_any (v : List M.Cl) (b off cap : Nat) (w : World) (hrow : Row w b off v) (hb : b < w.heap.size) (hn : v.length ≤ 1048576) (hcap : v.length ≤ cap) (hok : ∀ c ∈ v, c.ok) :
    Calls Tryz.prog 20 #[.slice (some ⟨b, off, none⟩) v.length cap] w (Ans w (lenOut v)) := by
  have OK := hide hok
  have B0 : ∀ o, Below w.heap.size w (w.alloc o) := fun o => (Below.refl _ _).alloc (Nat.le_refl _) o
  have HB0 := hide B0
  clear B0
  clear hok
  go_enter Tryz.func20, Tryz.ntmps20
  go_wp2_with fail
  refine (implFault_any v b off cap _ (hrow.below ((unhide HB0) _) hb) (by simp; omega) hn hcap (unhide OK)).mono ?_
  rintro e1 w1 ⟨rfl, hb1⟩
  have hR : Own w1 w.heap.size 26 [.int .i64 0, .slice none 0 0] := Own.below ⟨_, heap_alloc_new _ _, rfl⟩ hb1 (by simp)
  have B1 : Below w.heap.size w w1 := ((unhide HB0) _).trans (hb1.mono (by simp))
  have hrow1 := hrow.below B1 hb
  have hb1' : b < w1.heap.size := Nat.lt_of_lt_of_le hb B1.size
  clear hb1
  by_cases hv : M.valueFault v = 0
  · rw [hv]
    have fin := hide (len_ok hv)
    have hl1 := (M.fault_zero hv).1
    have hcd := M.first_zero (M.fault_zero hv).2.2.1 _ (getD_mem v 0 (by omega))
    obtain ⟨c0, c1, c2, c3, c4, c5, c6, _⟩ := code_bd hcd
    have c7 := textOk_size c6
    obtain ⟨f0, f1, f2, _, f4⟩ := hrow1 0 (by omega)
    simp only [Nat.zero_mul, Nat.add_zero] at f0 f1 f2 f4
    generalize v.getD 0 M.zero = c at *
    clear hv hcd c6
    by_cases k0 : c.kind = 0
    · have fin2 := hide ((unhide fin).trans (lenIn_0 k0))
      have fin3 := hide (num_ok (n := 0) (by omega))
      rw [k0] at f0
      clear k0 fin
      go_wp2_with fail
      refine (numberValue_any _ _).mono ?_
      rintro ec wc ⟨sc, rfl, hrc, hbc⟩
      have hRc := hR.below hbc hR.lt
      have r0 := hRc.cell 0
      have r1 := hRc.cell 1
      have z0 := hRc.frozen 0
      have z1 := hRc.frozen 1
      simp only [List.getElem?_cons_zero, List.getElem?_cons_succ] at r0 r1
      rw [unhide fin3] at hrc ⊢
      have HE := hide (Ans.store hrc B1 hR.lt hbc)
      obtain ⟨ac, mc, cc, rfl⟩ := hrc.shape
      clear f0 f1 f2 f4 hrc hbc
      go_wp2_with fail
      refine bodyPost_ret (v := .agg #[.int .i64 0, .slice ac mc cc]) (by simp [results, Tryz.results20, go_sem, r0, r1]) rfl (ans_of (unhide fin2) ((unhide HE) _ _).1 ((unhide HE) _ _).2)
    by_cases k3 : c.kind = 3
    · have fin2 := hide ((unhide fin).trans (lenIn_3 k3))
      have fin3 := hide (num_ok (n := size c.num) (size_bd c2 c3))
      rw [k3] at f0
      clear k3 k0 fin
      go_wp2_with fail
      refine (sizeOf_any _ _ c2 c3).mono ?_; rintro e w' ⟨rfl, rfl⟩
      generalize size c.num = sz at *
      go_wp2_with fail
      refine (numberValue_any _ _).mono ?_
      rintro ec wc ⟨sc, rfl, hrc, hbc⟩
      have hRc := hR.below hbc hR.lt
      have r0 := hRc.cell 0
      have r1 := hRc.cell 1
      have z0 := hRc.frozen 0
      have z1 := hRc.frozen 1
      simp only [List.getElem?_cons_zero, List.getElem?_cons_succ] at r0 r1
      rw [unhide fin3] at hrc ⊢
      have HE := hide (Ans.store hrc B1 hR.lt hbc)
      obtain ⟨ac, mc, cc, rfl⟩ := hrc.shape
      clear f0 f1 f2 f4 hrc hbc
      go_wp2_with fail
      refine bodyPost_ret (v := .agg #[.int .i64 0, .slice ac mc cc]) (by simp [results, Tryz.results20, go_sem, r0, r1]) rfl (ans_of (unhide fin2) ((unhide HE) _ _).1 ((unhide HE) _ _).2)
    by_cases k4 : c.kind = 4
    · have fin2 := hide ((unhide fin).trans (lenIn_4 k4))
      have fin3 := hide (num_ok (n := c.text.size) (by omega))
      rw [k4] at f0
      clear k4 k0 k3 fin
      go_wp2_with fail
      refine (numberValue_any _ _).mono ?_
      rintro ec wc ⟨sc, rfl, hrc, hbc⟩
      have hRc := hR.below hbc hR.lt
      have r0 := hRc.cell 0
      have r1 := hRc.cell 1
      have z0 := hRc.frozen 0
      have z1 := hRc.frozen 1
      simp only [List.getElem?_cons_zero, List.getElem?_cons_succ] at r0 r1
      rw [unhide fin3] at hrc ⊢
      have HE := hide (Ans.store hrc B1 hR.lt hbc)
      obtain ⟨ac, mc, cc, rfl⟩ := hrc.shape
      clear f0 f1 f2 f4 hrc hbc
      go_wp2_with fail
      refine bodyPost_ret (v := .agg #[.int .i64 0, .slice ac mc cc]) (by simp [results, Tryz.results20, go_sem, r0, r1]) rfl (ans_of (unhide fin2) ((unhide HE) _ _).1 ((unhide HE) _ _).2)
    by_cases k5 : c.kind = 5
    · have fin2 := hide ((unhide fin).trans (lenIn_n (.inl k5)))
      have fin3 := hide (num_ok (n := c.n) (by omega))
      rw [k5] at f0
      clear k5 k0 k3 k4 fin
      go_wp2_with fail
      refine (numberValue_any _ _).mono ?_
      rintro ec wc ⟨sc, rfl, hrc, hbc⟩
      have hRc := hR.below hbc hR.lt
      have r0 := hRc.cell 0
      have r1 := hRc.cell 1
      have z0 := hRc.frozen 0
      have z1 := hRc.frozen 1
      simp only [List.getElem?_cons_zero, List.getElem?_cons_succ] at r0 r1
      rw [unhide fin3] at hrc ⊢
      have HE := hide (Ans.store hrc B1 hR.lt hbc)
      obtain ⟨ac, mc, cc, rfl⟩ := hrc.shape
      clear f0 f1 f2 f4 hrc hbc
      go_wp2_with fail
      refine bodyPost_ret (v := .agg #[.int .i64 0, .slice ac mc cc]) (by simp [results, Tryz.results20, go_sem, r0, r1]) rfl (ans_of (unhide fin2) ((unhide HE) _ _).1 ((unhide HE) _ _).2)
    by_cases k6 : c.kind = 6
    · have fin2 := hide ((unhide fin).trans (lenIn_n (.inr k6)))
      have fin3 := hide (num_ok (n := c.n) (by omega))
      rw [k6] at f0
      clear k6 k0 k3 k4 k5 fin
      go_wp2_with fail
      refine (numberValue_any _ _).mono ?_
      rintro ec wc ⟨sc, rfl, hrc, hbc⟩
      have hRc := hR.below hbc hR.lt
      have r0 := hRc.cell 0
      have r1 := hRc.cell 1
      have z0 := hRc.frozen 0
      have z1 := hRc.frozen 1
      simp only [List.getElem?_cons_zero, List.getElem?_cons_succ] at r0 r1
      rw [unhide fin3] at hrc ⊢
      have HE := hide (Ans.store hrc B1 hR.lt hbc)
      obtain ⟨ac, mc, cc, rfl⟩ := hrc.shape
      clear f0 f1 f2 f4 hrc hbc
      go_wp2_with fail
      refine bodyPost_ret (v := .agg #[.int .i64 0, .slice ac mc cc]) (by simp [results, Tryz.results20, go_sem, r0, r1]) rfl (ans_of (unhide fin2) ((unhide HE) _ _).1 ((unhide HE) _ _).2)
    · have fin2 := hide ((unhide fin).trans (lenIn_b (c := c) (by omega)))
      have e0 : (c.kind == 0) = false := by simp [k0]
      have e3 : (c.kind == 3) = false := by simp [k3]
      have e4 : (c.kind == 4) = false := by simp [k4]
      have e5 : (c.kind == 5) = false := by simp [k5]
      have e6 : (c.kind == 6) = false := by simp [k6]
      have r0 := hR.cell 0
      have r1 := hR.cell 1
      have z0 := hR.frozen 0
      have z1 := hR.frozen 1
      simp only [List.getElem?_cons_zero, List.getElem?_cons_succ] at r0 r1
      clear k0 k3 k4 k5 k6 fin
      go_wp2_with fail
      refine bodyPost_ret (v := .agg #[.int .i64 6, .slice none 0 0]) (by simp [results, Tryz.results20, go_sem, r0, r1]) rfl (ans_of (unhide fin2) (resNil _ _) (store_below B1 _ _))
  · have fin := hide (len_bad hv)
    generalize M.valueFault v = q at *
    have hz' : (q == 0) = false := by simp [hv]
    have r0 := hR.cell 0
    have r1 := hR.cell 1
    have z0 := hR.frozen 0
    have z1 := hR.frozen 1
    simp only [List.getElem?_cons_zero, List.getElem?_cons_succ] at r0 r1
    clear hv
    go_wp2_with fail
    refine bodyPost_ret (v := .agg #[.int .i64 q, .slice none 0 0]) (by simp [results, Tryz.results20, go_sem, r0, r1]) rfl (ans_of (unhide fin) (resNil _ _) (store_below B1 _ _))

end Go.Proofs.YtcolohilnmikiaaGreat

namespace Go.Proofs.YtcolohilnmikiaaGreat
open Go.RowKit
set_option linter.unusedVariables false

/-- The name of a kind. -/
def typN (k : Int) : ByteArray := if k = 0 then ⟨#[110, 117, 108, 108]⟩ else if k = 1 ∨ k = 2 then ⟨#[98, 111, 111, 108, 101, 97, 110]⟩ else if k = 3 then ⟨#[110, 117, 109, 98, 101, 114]⟩ else if k = 4 then ⟨#[115, 116, 114, 105, 110, 103]⟩ else if k = 5 then ⟨#[97, 114, 114, 97, 121]⟩ else ⟨#[111, 98, 106, 101, 99, 116]⟩
def typIn (c : M.Cl) : Int × List M.Cl := (0, [⟨4, 0, typN c.kind, ByteArray.empty, 0⟩])
def typOut (v : List M.Cl) : Int × List M.Cl := if M.valueFault v ≠ 0 then (M.valueFault v, []) else typIn (v.getD 0 M.zero)
theorem typ_bad {v : List M.Cl} (h : M.valueFault v ≠ 0) : typOut v = (M.valueFault v, []) := if_pos h
theorem typ_ok {v : List M.Cl} (h : M.valueFault v = 0) : typOut v = typIn (v.getD 0 M.zero) := by unfold typOut; rw [if_neg (by simp [h])]
theorem kind_bd {v : List M.Cl} (hv : M.valueFault v = 0) : 0 ≤ (v.getD 0 M.zero).kind ∧ (v.getD 0 M.zero).kind ≤ 6 := by
  have hl1 := (M.fault_zero hv).1
  have h := M.first_zero (M.fault_zero hv).2.2.1 _ (getD_mem v 0 (by omega))
  unfold M.cellCode at h
  split at h
  · cases h
  · omega

set_option maxHeartbeats 2000000 in
theorem l3Type_any (v : List M.Cl) (b off cap : Nat) (w : World) (hv : M.valueFault v = 0) (hrow : Row w b off v) (hb : b < w.heap.size) (hcap : v.length ≤ cap) (hok : ∀ c ∈ v, c.ok) :
    Calls Tryz.prog 34 #[.slice (some ⟨b, off, none⟩) v.length cap] w (Ans w (typIn (v.getD 0 M.zero))) := by
  have hl1 := (M.fault_zero hv).1
  obtain ⟨c0, c1⟩ := kind_bd hv
  have B0 : ∀ o, Below w.heap.size w (w.alloc o) := fun o => (Below.refl _ _).alloc (Nat.le_refl _) o
  have HB0 := hide B0
  clear B0
  have hR0 : Own (w.alloc (.cells #[.int .i64 0, .slice none 0 0] 26)) w.heap.size 26 [.int .i64 0, .slice none 0 0] := ⟨_, heap_alloc_new _ _, rfl⟩
  have HR0 := hide hR0
  clear hR0
  obtain ⟨q0, _, _, _, _⟩ := hrow 0 (by omega)
  simp only [Nat.zero_mul, Nat.add_zero] at q0
  generalize v.getD 0 M.zero = c at *
  have f0 : ∀ o o', ((w.alloc o).alloc o').cell? ⟨b, off, none⟩ = some (.int .i64 c.kind) := fun o o' => ((((unhide HB0) o).alloc (by simp) o').cell hb).trans q0
  clear q0 hv hok hrow
  by_cases k0 : c.kind = 0
  · have fin := hide (show typIn c = (0, [⟨4, 0, ⟨#[110, 117, 108, 108]⟩, ByteArray.empty, 0⟩]) by unfold typIn typN; rw [k0]; rfl)
    rw [k0] at f0
    clear k0
    go_enter Tryz.func34, Tryz.ntmps34
    go_wp2_with fail
    have hRA : ∀ o, Own ((w.alloc (.cells #[.int .i64 0, .slice none 0 0] 26)).alloc o) w.heap.size 26 [.int .i64 0, .slice none 0 0] := fun o => (unhide HR0).alloc o
    have hBA : ∀ o o', Below w.heap.size w ((w.alloc o).alloc o') := fun o o' => ((unhide HB0) o).alloc (by simp) o'
    refine (l1String_any _ _).mono ?_
    rintro ec wc ⟨sc, rfl, hrc, hbc⟩
    have hRc := (hRA _).below hbc (hRA _).lt
    have r0 := hRc.cell 0
    have r1 := hRc.cell 1
    have z0 := hRc.frozen 0
    have z1 := hRc.frozen 1
    simp only [List.getElem?_cons_zero, List.getElem?_cons_succ] at r0 r1
    have HE := hide (Ans.store hrc (hBA _ _) (hRA _).lt hbc)
    obtain ⟨ac, mc, cc, rfl⟩ := hrc.shape
    clear f0 hrc hbc
    go_wp2_with fail
    refine bodyPost_ret (v := .agg #[.int .i64 0, .slice ac mc cc]) (by simp [results, Tryz.results34, go_sem, r0, r1]) rfl (ans_of (unhide fin) ((unhide HE) _ _).1 ((unhide HE) _ _).2)
  by_cases k1 : c.kind = 1
  · have fin := hide (show typIn c = (0, [⟨4, 0, ⟨#[98, 111, 111, 108, 101, 97, 110]⟩, ByteArray.empty, 0⟩]) by unfold typIn typN; rw [k1]; rfl)
    rw [k1] at f0
    clear k0 k1
    go_enter Tryz.func34, Tryz.ntmps34
    go_wp2_with fail
    have hRA : ∀ o, Own ((w.alloc (.cells #[.int .i64 0, .slice none 0 0] 26)).alloc o) w.heap.size 26 [.int .i64 0, .slice none 0 0] := fun o => (unhide HR0).alloc o
    have hBA : ∀ o o', Below w.heap.size w ((w.alloc o).alloc o') := fun o o' => ((unhide HB0) o).alloc (by simp) o'
    refine (l1String_any _ _).mono ?_
    rintro ec wc ⟨sc, rfl, hrc, hbc⟩
    have hRc := (hRA _).below hbc (hRA _).lt
    have r0 := hRc.cell 0
    have r1 := hRc.cell 1
    have z0 := hRc.frozen 0
    have z1 := hRc.frozen 1
    simp only [List.getElem?_cons_zero, List.getElem?_cons_succ] at r0 r1
    have HE := hide (Ans.store hrc (hBA _ _) (hRA _).lt hbc)
    obtain ⟨ac, mc, cc, rfl⟩ := hrc.shape
    clear f0 hrc hbc
    go_wp2_with fail
    refine bodyPost_ret (v := .agg #[.int .i64 0, .slice ac mc cc]) (by simp [results, Tryz.results34, go_sem, r0, r1]) rfl (ans_of (unhide fin) ((unhide HE) _ _).1 ((unhide HE) _ _).2)
  by_cases k2 : c.kind = 2
  · have fin := hide (show typIn c = (0, [⟨4, 0, ⟨#[98, 111, 111, 108, 101, 97, 110]⟩, ByteArray.empty, 0⟩]) by unfold typIn typN; rw [k2]; rfl)
    rw [k2] at f0
    clear k0 k1 k2
    go_enter Tryz.func34, Tryz.ntmps34
    go_wp2_with fail
    have hRA : ∀ o, Own ((w.alloc (.cells #[.int .i64 0, .slice none 0 0] 26)).alloc o) w.heap.size 26 [.int .i64 0, .slice none 0 0] := fun o => (unhide HR0).alloc o
    have hBA : ∀ o o', Below w.heap.size w ((w.alloc o).alloc o') := fun o o' => ((unhide HB0) o).alloc (by simp) o'
    refine (l1String_any _ _).mono ?_
    rintro ec wc ⟨sc, rfl, hrc, hbc⟩
    have hRc := (hRA _).below hbc (hRA _).lt
    have r0 := hRc.cell 0
    have r1 := hRc.cell 1
    have z0 := hRc.frozen 0
    have z1 := hRc.frozen 1
    simp only [List.getElem?_cons_zero, List.getElem?_cons_succ] at r0 r1
    have HE := hide (Ans.store hrc (hBA _ _) (hRA _).lt hbc)
    obtain ⟨ac, mc, cc, rfl⟩ := hrc.shape
    clear f0 hrc hbc
    go_wp2_with fail
    refine bodyPost_ret (v := .agg #[.int .i64 0, .slice ac mc cc]) (by simp [results, Tryz.results34, go_sem, r0, r1]) rfl (ans_of (unhide fin) ((unhide HE) _ _).1 ((unhide HE) _ _).2)
  by_cases k3 : c.kind = 3
  · have fin := hide (show typIn c = (0, [⟨4, 0, ⟨#[110, 117, 109, 98, 101, 114]⟩, ByteArray.empty, 0⟩]) by unfold typIn typN; rw [k3]; rfl)
    rw [k3] at f0
    clear k0 k1 k2 k3
    go_enter Tryz.func34, Tryz.ntmps34
    go_wp2_with fail
    have hRA : ∀ o, Own ((w.alloc (.cells #[.int .i64 0, .slice none 0 0] 26)).alloc o) w.heap.size 26 [.int .i64 0, .slice none 0 0] := fun o => (unhide HR0).alloc o
    have hBA : ∀ o o', Below w.heap.size w ((w.alloc o).alloc o') := fun o o' => ((unhide HB0) o).alloc (by simp) o'
    refine (l1String_any _ _).mono ?_
    rintro ec wc ⟨sc, rfl, hrc, hbc⟩
    have hRc := (hRA _).below hbc (hRA _).lt
    have r0 := hRc.cell 0
    have r1 := hRc.cell 1
    have z0 := hRc.frozen 0
    have z1 := hRc.frozen 1
    simp only [List.getElem?_cons_zero, List.getElem?_cons_succ] at r0 r1
    have HE := hide (Ans.store hrc (hBA _ _) (hRA _).lt hbc)
    obtain ⟨ac, mc, cc, rfl⟩ := hrc.shape
    clear f0 hrc hbc
    go_wp2_with fail
    refine bodyPost_ret (v := .agg #[.int .i64 0, .slice ac mc cc]) (by simp [results, Tryz.results34, go_sem, r0, r1]) rfl (ans_of (unhide fin) ((unhide HE) _ _).1 ((unhide HE) _ _).2)
  by_cases k4 : c.kind = 4
  · have fin := hide (show typIn c = (0, [⟨4, 0, ⟨#[115, 116, 114, 105, 110, 103]⟩, ByteArray.empty, 0⟩]) by unfold typIn typN; rw [k4]; rfl)
    rw [k4] at f0
    clear k0 k1 k2 k3 k4
    go_enter Tryz.func34, Tryz.ntmps34
    go_wp2_with fail
    have hRA : ∀ o, Own ((w.alloc (.cells #[.int .i64 0, .slice none 0 0] 26)).alloc o) w.heap.size 26 [.int .i64 0, .slice none 0 0] := fun o => (unhide HR0).alloc o
    have hBA : ∀ o o', Below w.heap.size w ((w.alloc o).alloc o') := fun o o' => ((unhide HB0) o).alloc (by simp) o'
    refine (l1String_any _ _).mono ?_
    rintro ec wc ⟨sc, rfl, hrc, hbc⟩
    have hRc := (hRA _).below hbc (hRA _).lt
    have r0 := hRc.cell 0
    have r1 := hRc.cell 1
    have z0 := hRc.frozen 0
    have z1 := hRc.frozen 1
    simp only [List.getElem?_cons_zero, List.getElem?_cons_succ] at r0 r1
    have HE := hide (Ans.store hrc (hBA _ _) (hRA _).lt hbc)
    obtain ⟨ac, mc, cc, rfl⟩ := hrc.shape
    clear f0 hrc hbc
    go_wp2_with fail
    refine bodyPost_ret (v := .agg #[.int .i64 0, .slice ac mc cc]) (by simp [results, Tryz.results34, go_sem, r0, r1]) rfl (ans_of (unhide fin) ((unhide HE) _ _).1 ((unhide HE) _ _).2)
  by_cases k5 : c.kind = 5
  · have fin := hide (show typIn c = (0, [⟨4, 0, ⟨#[97, 114, 114, 97, 121]⟩, ByteArray.empty, 0⟩]) by unfold typIn typN; rw [k5]; rfl)
    rw [k5] at f0
    clear k0 k1 k2 k3 k4 k5
    go_enter Tryz.func34, Tryz.ntmps34
    go_wp2_with fail
    have hRA : ∀ o, Own ((w.alloc (.cells #[.int .i64 0, .slice none 0 0] 26)).alloc o) w.heap.size 26 [.int .i64 0, .slice none 0 0] := fun o => (unhide HR0).alloc o
    have hBA : ∀ o o', Below w.heap.size w ((w.alloc o).alloc o') := fun o o' => ((unhide HB0) o).alloc (by simp) o'
    refine (l1String_any _ _).mono ?_
    rintro ec wc ⟨sc, rfl, hrc, hbc⟩
    have hRc := (hRA _).below hbc (hRA _).lt
    have r0 := hRc.cell 0
    have r1 := hRc.cell 1
    have z0 := hRc.frozen 0
    have z1 := hRc.frozen 1
    simp only [List.getElem?_cons_zero, List.getElem?_cons_succ] at r0 r1
    have HE := hide (Ans.store hrc (hBA _ _) (hRA _).lt hbc)
    obtain ⟨ac, mc, cc, rfl⟩ := hrc.shape
    clear f0 hrc hbc
    go_wp2_with fail
    refine bodyPost_ret (v := .agg #[.int .i64 0, .slice ac mc cc]) (by simp [results, Tryz.results34, go_sem, r0, r1]) rfl (ans_of (unhide fin) ((unhide HE) _ _).1 ((unhide HE) _ _).2)
  obtain k6 : c.kind = 6 := by omega
  have fin := hide (show typIn c = (0, [⟨4, 0, ⟨#[111, 98, 106, 101, 99, 116]⟩, ByteArray.empty, 0⟩]) by unfold typIn typN; rw [k6]; rfl)
  rw [k6] at f0
  clear k0 k1 k2 k3 k4 k5 k6
  go_enter Tryz.func34, Tryz.ntmps34
  go_wp2_with fail
  have hRA : ∀ o, Own ((w.alloc (.cells #[.int .i64 0, .slice none 0 0] 26)).alloc o) w.heap.size 26 [.int .i64 0, .slice none 0 0] := fun o => (unhide HR0).alloc o
  have hBA : ∀ o o', Below w.heap.size w ((w.alloc o).alloc o') := fun o o' => ((unhide HB0) o).alloc (by simp) o'
  refine (l1String_any _ _).mono ?_
  rintro ec wc ⟨sc, rfl, hrc, hbc⟩
  have hRc := (hRA _).below hbc (hRA _).lt
  have r0 := hRc.cell 0
  have r1 := hRc.cell 1
  have z0 := hRc.frozen 0
  have z1 := hRc.frozen 1
  simp only [List.getElem?_cons_zero, List.getElem?_cons_succ] at r0 r1
  have HE := hide (Ans.store hrc (hBA _ _) (hRA _).lt hbc)
  obtain ⟨ac, mc, cc, rfl⟩ := hrc.shape
  clear f0 hrc hbc
  go_wp2_with fail
  refine bodyPost_ret (v := .agg #[.int .i64 0, .slice ac mc cc]) (by simp [results, Tryz.results34, go_sem, r0, r1]) rfl (ans_of (unhide fin) ((unhide HE) _ _).1 ((unhide HE) _ _).2)

set_option maxRecDepth 100000 in
set_option maxHeartbeats 4000000 in
theorem implTypeOf_any (v : List M.Cl) (b off cap : Nat) (w : World) (hrow : Row w b off v) (hb : b < w.heap.size) (hn : v.length ≤ 1048576) (hcap : v.length ≤ cap) (hok : ∀ c ∈ v, c.ok) :
    Calls Tryz.prog 22 #[.slice (some ⟨b, off, none⟩) v.length cap] w (Ans w (typOut v)) := by
  have OK := hide hok
  have B0 : ∀ o, Below w.heap.size w (w.alloc o) := fun o => (Below.refl _ _).alloc (Nat.le_refl _) o
  have HB0 := hide B0
  clear B0
  clear hok
  go_enter Tryz.func22, Tryz.ntmps22
  go_wp2_with fail
  refine (implFault_any v b off cap _ (hrow.below ((unhide HB0) _) hb) (by simp; omega) hn hcap (unhide OK)).mono ?_
  rintro e1 w1 ⟨rfl, hb1⟩
  have hR : Own w1 w.heap.size 26 [.int .i64 0, .slice none 0 0] := Own.below ⟨_, heap_alloc_new _ _, rfl⟩ hb1 (by simp)
  have B1 : Below w.heap.size w w1 := ((unhide HB0) _).trans (hb1.mono (by simp))
  have hrow1 := hrow.below B1 hb
  have hb1' : b < w1.heap.size := Nat.lt_of_lt_of_le hb B1.size
  clear hb1
  by_cases hv : M.valueFault v = 0
  · rw [hv]
    have fin := hide (typ_ok hv)
    have hl1 := (M.fault_zero hv).1
    obtain ⟨c0, c1⟩ := kind_bd hv
    obtain ⟨q0, _, _, _, _⟩ := hrow1 0 (by omega)
    simp only [Nat.zero_mul, Nat.add_zero] at q0
    generalize v.getD 0 M.zero = c at *
    have f0 : ∀ o, (w1.alloc o).cell? ⟨b, off, none⟩ = some (.int .i64 c.kind) := fun o => ((((Below.refl w1.heap.size w1)).alloc (Nat.le_refl _) o).cell hb1').trans q0
    have HRA := hide (fun o => hR.alloc o)
    have HBA := hide (fun o => B1.alloc B1.size o)
    clear hv q0
    by_cases k0 : c.kind = 0
    · have fin2 := hide ((unhide fin).trans (show typIn c = (0, [⟨4, 0, ⟨#[110, 117, 108, 108]⟩, ByteArray.empty, 0⟩]) by unfold typIn typN; rw [k0]; rfl))
      have fin3 := hide (str_ok (s := ⟨#[110, 117, 108, 108]⟩) (by decide))
      rw [k0] at f0
      clear k0 fin
      go_wp2_with fail
      refine (stringValue_any _ _ (by decide)).mono ?_
      rintro ec wc ⟨sc, rfl, hrc, hbc⟩
      have hRc := ((unhide HRA) _).below hbc ((unhide HRA) _).lt
      have r0 := hRc.cell 0
      have r1 := hRc.cell 1
      have z0 := hRc.frozen 0
      have z1 := hRc.frozen 1
      simp only [List.getElem?_cons_zero, List.getElem?_cons_succ] at r0 r1
      rw [unhide fin3] at hrc ⊢
      have HE := hide (Ans.store hrc ((unhide HBA) _) ((unhide HRA) _).lt hbc)
      obtain ⟨ac, mc, cc, rfl⟩ := hrc.shape
      clear f0 hrc hbc
      go_wp2_with fail
      refine bodyPost_ret (v := .agg #[.int .i64 0, .slice ac mc cc]) (by simp [results, Tryz.results22, go_sem, r0, r1]) rfl (ans_of (unhide fin2) ((unhide HE) _ _).1 ((unhide HE) _ _).2)
    by_cases k1 : c.kind = 1
    · have fin2 := hide ((unhide fin).trans (show typIn c = (0, [⟨4, 0, ⟨#[98, 111, 111, 108, 101, 97, 110]⟩, ByteArray.empty, 0⟩]) by unfold typIn typN; rw [k1]; rfl))
      have fin3 := hide (str_ok (s := ⟨#[98, 111, 111, 108, 101, 97, 110]⟩) (by decide))
      rw [k1] at f0
      clear k0 k1 fin
      go_wp2_with fail
      refine (stringValue_any _ _ (by decide)).mono ?_
      rintro ec wc ⟨sc, rfl, hrc, hbc⟩
      have hRc := ((unhide HRA) _).below hbc ((unhide HRA) _).lt
      have r0 := hRc.cell 0
      have r1 := hRc.cell 1
      have z0 := hRc.frozen 0
      have z1 := hRc.frozen 1
      simp only [List.getElem?_cons_zero, List.getElem?_cons_succ] at r0 r1
      rw [unhide fin3] at hrc ⊢
      have HE := hide (Ans.store hrc ((unhide HBA) _) ((unhide HRA) _).lt hbc)
      obtain ⟨ac, mc, cc, rfl⟩ := hrc.shape
      clear f0 hrc hbc
      go_wp2_with fail
      refine bodyPost_ret (v := .agg #[.int .i64 0, .slice ac mc cc]) (by simp [results, Tryz.results22, go_sem, r0, r1]) rfl (ans_of (unhide fin2) ((unhide HE) _ _).1 ((unhide HE) _ _).2)
    by_cases k2 : c.kind = 2
    · have fin2 := hide ((unhide fin).trans (show typIn c = (0, [⟨4, 0, ⟨#[98, 111, 111, 108, 101, 97, 110]⟩, ByteArray.empty, 0⟩]) by unfold typIn typN; rw [k2]; rfl))
      have fin3 := hide (str_ok (s := ⟨#[98, 111, 111, 108, 101, 97, 110]⟩) (by decide))
      rw [k2] at f0
      clear k0 k1 k2 fin
      go_wp2_with fail
      refine (stringValue_any _ _ (by decide)).mono ?_
      rintro ec wc ⟨sc, rfl, hrc, hbc⟩
      have hRc := ((unhide HRA) _).below hbc ((unhide HRA) _).lt
      have r0 := hRc.cell 0
      have r1 := hRc.cell 1
      have z0 := hRc.frozen 0
      have z1 := hRc.frozen 1
      simp only [List.getElem?_cons_zero, List.getElem?_cons_succ] at r0 r1
      rw [unhide fin3] at hrc ⊢
      have HE := hide (Ans.store hrc ((unhide HBA) _) ((unhide HRA) _).lt hbc)
      obtain ⟨ac, mc, cc, rfl⟩ := hrc.shape
      clear f0 hrc hbc
      go_wp2_with fail
      refine bodyPost_ret (v := .agg #[.int .i64 0, .slice ac mc cc]) (by simp [results, Tryz.results22, go_sem, r0, r1]) rfl (ans_of (unhide fin2) ((unhide HE) _ _).1 ((unhide HE) _ _).2)
    by_cases k3 : c.kind = 3
    · have fin2 := hide ((unhide fin).trans (show typIn c = (0, [⟨4, 0, ⟨#[110, 117, 109, 98, 101, 114]⟩, ByteArray.empty, 0⟩]) by unfold typIn typN; rw [k3]; rfl))
      have fin3 := hide (str_ok (s := ⟨#[110, 117, 109, 98, 101, 114]⟩) (by decide))
      rw [k3] at f0
      clear k0 k1 k2 k3 fin
      go_wp2_with fail
      refine (stringValue_any _ _ (by decide)).mono ?_
      rintro ec wc ⟨sc, rfl, hrc, hbc⟩
      have hRc := ((unhide HRA) _).below hbc ((unhide HRA) _).lt
      have r0 := hRc.cell 0
      have r1 := hRc.cell 1
      have z0 := hRc.frozen 0
      have z1 := hRc.frozen 1
      simp only [List.getElem?_cons_zero, List.getElem?_cons_succ] at r0 r1
      rw [unhide fin3] at hrc ⊢
      have HE := hide (Ans.store hrc ((unhide HBA) _) ((unhide HRA) _).lt hbc)
      obtain ⟨ac, mc, cc, rfl⟩ := hrc.shape
      clear f0 hrc hbc
      go_wp2_with fail
      refine bodyPost_ret (v := .agg #[.int .i64 0, .slice ac mc cc]) (by simp [results, Tryz.results22, go_sem, r0, r1]) rfl (ans_of (unhide fin2) ((unhide HE) _ _).1 ((unhide HE) _ _).2)
    by_cases k4 : c.kind = 4
    · have fin2 := hide ((unhide fin).trans (show typIn c = (0, [⟨4, 0, ⟨#[115, 116, 114, 105, 110, 103]⟩, ByteArray.empty, 0⟩]) by unfold typIn typN; rw [k4]; rfl))
      have fin3 := hide (str_ok (s := ⟨#[115, 116, 114, 105, 110, 103]⟩) (by decide))
      rw [k4] at f0
      clear k0 k1 k2 k3 k4 fin
      go_wp2_with fail
      refine (stringValue_any _ _ (by decide)).mono ?_
      rintro ec wc ⟨sc, rfl, hrc, hbc⟩
      have hRc := ((unhide HRA) _).below hbc ((unhide HRA) _).lt
      have r0 := hRc.cell 0
      have r1 := hRc.cell 1
      have z0 := hRc.frozen 0
      have z1 := hRc.frozen 1
      simp only [List.getElem?_cons_zero, List.getElem?_cons_succ] at r0 r1
      rw [unhide fin3] at hrc ⊢
      have HE := hide (Ans.store hrc ((unhide HBA) _) ((unhide HRA) _).lt hbc)
      obtain ⟨ac, mc, cc, rfl⟩ := hrc.shape
      clear f0 hrc hbc
      go_wp2_with fail
      refine bodyPost_ret (v := .agg #[.int .i64 0, .slice ac mc cc]) (by simp [results, Tryz.results22, go_sem, r0, r1]) rfl (ans_of (unhide fin2) ((unhide HE) _ _).1 ((unhide HE) _ _).2)
    by_cases k5 : c.kind = 5
    · have fin2 := hide ((unhide fin).trans (show typIn c = (0, [⟨4, 0, ⟨#[97, 114, 114, 97, 121]⟩, ByteArray.empty, 0⟩]) by unfold typIn typN; rw [k5]; rfl))
      have fin3 := hide (str_ok (s := ⟨#[97, 114, 114, 97, 121]⟩) (by decide))
      rw [k5] at f0
      clear k0 k1 k2 k3 k4 k5 fin
      go_wp2_with fail
      refine (stringValue_any _ _ (by decide)).mono ?_
      rintro ec wc ⟨sc, rfl, hrc, hbc⟩
      have hRc := ((unhide HRA) _).below hbc ((unhide HRA) _).lt
      have r0 := hRc.cell 0
      have r1 := hRc.cell 1
      have z0 := hRc.frozen 0
      have z1 := hRc.frozen 1
      simp only [List.getElem?_cons_zero, List.getElem?_cons_succ] at r0 r1
      rw [unhide fin3] at hrc ⊢
      have HE := hide (Ans.store hrc ((unhide HBA) _) ((unhide HRA) _).lt hbc)
      obtain ⟨ac, mc, cc, rfl⟩ := hrc.shape
      clear f0 hrc hbc
      go_wp2_with fail
      refine bodyPost_ret (v := .agg #[.int .i64 0, .slice ac mc cc]) (by simp [results, Tryz.results22, go_sem, r0, r1]) rfl (ans_of (unhide fin2) ((unhide HE) _ _).1 ((unhide HE) _ _).2)
    obtain k6 : c.kind = 6 := by omega
    have fin2 := hide ((unhide fin).trans (show typIn c = (0, [⟨4, 0, ⟨#[111, 98, 106, 101, 99, 116]⟩, ByteArray.empty, 0⟩]) by unfold typIn typN; rw [k6]; rfl))
    have fin3 := hide (str_ok (s := ⟨#[111, 98, 106, 101, 99, 116]⟩) (by decide))
    rw [k6] at f0
    clear k0 k1 k2 k3 k4 k5 k6 fin
    go_wp2_with fail
    refine (stringValue_any _ _ (by decide)).mono ?_
    rintro ec wc ⟨sc, rfl, hrc, hbc⟩
    have hRc := ((unhide HRA) _).below hbc ((unhide HRA) _).lt
    have r0 := hRc.cell 0
    have r1 := hRc.cell 1
    have z0 := hRc.frozen 0
    have z1 := hRc.frozen 1
    simp only [List.getElem?_cons_zero, List.getElem?_cons_succ] at r0 r1
    rw [unhide fin3] at hrc ⊢
    have HE := hide (Ans.store hrc ((unhide HBA) _) ((unhide HRA) _).lt hbc)
    obtain ⟨ac, mc, cc, rfl⟩ := hrc.shape
    clear f0 hrc hbc
    go_wp2_with fail
    refine bodyPost_ret (v := .agg #[.int .i64 0, .slice ac mc cc]) (by simp [results, Tryz.results22, go_sem, r0, r1]) rfl (ans_of (unhide fin2) ((unhide HE) _ _).1 ((unhide HE) _ _).2)
  · have fin := hide (typ_bad hv)
    generalize M.valueFault v = q at *
    have hz' : (q == 0) = false := by simp [hv]
    have r0 := hR.cell 0
    have r1 := hR.cell 1
    have z0 := hR.frozen 0
    have z1 := hR.frozen 1
    simp only [List.getElem?_cons_zero, List.getElem?_cons_succ] at r0 r1
    clear hv
    go_wp2_with fail
    refine bodyPost_ret (v := .agg #[.int .i64 q, .slice none 0 0]) (by simp [results, Tryz.results22, go_sem, r0, r1]) rfl (ans_of (unhide fin) (resNil _ _) (store_below B1 _ _))

end Go.Proofs.YtcolohilnmikiaaGreat
