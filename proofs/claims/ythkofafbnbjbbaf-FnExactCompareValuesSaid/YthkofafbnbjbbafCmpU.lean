/-
  spec.l1Compare returns the plain order of values.
-/
import Derived.Test.YthkofafbnbjbbafCmpT
namespace Go.Proofs.Ythkofafbnbjbbaf
open Go.RowKit
set_option linter.unusedVariables false

theorem sign_int (a b : Int) : signB (decide (a < b)) (decide (b < a)) = sgn a b := by unfold signB sgn; simp
theorem sign_text (a b : ByteArray) : signB (Op.bytesLess a.toList b.toList) (!Op.bytesLess a.toList b.toList && !(a.toList == b.toList)) = cmpK a b := by
  unfold signB cmpK
  cases h1 : Op.bytesLess a.toList b.toList <;> cases h2 : (a.toList == b.toList) <;> simp

section
variable (f : Nat) (A C : List M.Cl)
theorem cmp_kind (h : (A.getD 0 M.zero).kind ≠ (C.getD 0 M.zero).kind) : cmpL (f + 1) A C = signB (decide ((A.getD 0 M.zero).kind < (C.getD 0 M.zero).kind)) true := by
  rw [cmpL, if_pos h]; unfold signB; simp
theorem cmp_num (h : (A.getD 0 M.zero).kind = (C.getD 0 M.zero).kind) (h3 : (A.getD 0 M.zero).kind = 3) : cmpL (f + 1) A C = sgn (A.getD 0 M.zero).num (C.getD 0 M.zero).num := by
  rw [cmpL, if_neg (fun g => g h), if_pos h3]
theorem cmp_text (h : (A.getD 0 M.zero).kind = (C.getD 0 M.zero).kind) (h3 : (A.getD 0 M.zero).kind = 4) : cmpL (f + 1) A C = cmpK (A.getD 0 M.zero).text (C.getD 0 M.zero).text := by
  rw [cmpL, if_neg (fun g => g h), if_neg (by omega), if_pos h3]
theorem cmp_arr (h : (A.getD 0 M.zero).kind = (C.getD 0 M.zero).kind) (h3 : (A.getD 0 M.zero).kind = 5) : cmpL (f + 1) A C = lex (cmpL f) (subs A 0) (subs C 0) := by
  rw [cmpL, if_neg (fun g => g h), if_neg (by omega), if_neg (by omega), if_pos h3]
theorem cmp_obj (h : (A.getD 0 M.zero).kind = (C.getD 0 M.zero).kind) (h3 : (A.getD 0 M.zero).kind = 6) : cmpL (f + 1) A C = if lex cmpK (keysAt A 0) (keysAt C 0) ≠ 0 then lex cmpK (keysAt A 0) (keysAt C 0) else lex (cmpL f) (subs A 0) (subs C 0) := by
  rw [cmpL, if_neg (fun g => g h), if_neg (by omega), if_neg (by omega), if_neg (by omega), if_pos h3]
theorem cmp_else (h : (A.getD 0 M.zero).kind = (C.getD 0 M.zero).kind) (h3 : (A.getD 0 M.zero).kind ≠ 3 ∧ (A.getD 0 M.zero).kind ≠ 4 ∧ (A.getD 0 M.zero).kind ≠ 5 ∧ (A.getD 0 M.zero).kind ≠ 6) : cmpL (f + 1) A C = 0 := by
  rw [cmpL, if_neg (fun g => g h), if_neg h3.1, if_neg h3.2.1, if_neg h3.2.2.1, if_neg h3.2.2.2]
end

theorem allOk_subs {v : List M.Cl} (hv : M.valueFault v = 0) (hok : ∀ c ∈ v, c.ok) (f : Nat) (hf : v.length ≤ f + 1) : AllOk f (subs v 0) := by
  intro i hi
  have hl := (M.fault_zero hv).1
  have hm : (subs v 0).getD i [] ∈ subs v 0 := by rw [List.getD_eq_getElem?_getD, List.getElem?_eq_getElem hi]; exact List.getElem_mem hi
  have := subs_ok hv hok (a := 0) (by omega) _ hm
  exact ⟨this.1, by omega, this.2.2⟩

set_option maxRecDepth 100000 in
set_option maxHeartbeats 4000000 in
theorem l1Compare_step (f : Nat) (IH : Hid (CmpSays f)) : CmpSays (f + 1) := by
  intro A C b off cap b' off' cap' w hA hC hAf hr hb hcap hok hr' hb' hcap' hok'
  have l1 := (M.fault_zero hA).1
  have l2 := (M.fault_zero hA).2.1
  have m1 := (M.fault_zero hC).1
  have m2 := (M.fault_zero hC).2.1
  have hA0 := hr 0 (by omega)
  have hC0 := hr' 0 (by omega)
  simp only [Nat.zero_mul, Nat.add_zero] at hA0 hC0
  obtain ⟨x0, x1, x2, x3, x4⟩ := hA0
  obtain ⟨y0, y1, y2, y3, y4⟩ := hC0
  have BB : ∀ o o', Below w.heap.size w ((w.alloc o).alloc o') := fun o o' => ((Below.refl _ _).alloc (Nat.le_refl _) _).alloc (by simp) _
  have HBB := hide BB
  have HPA := hide (fun w' (hbl : Below w.heap.size w w') => l1Parts_any A b off cap w' hA (hr.below hbl hb) (Nat.lt_of_lt_of_le hb hbl.size) hcap hok)
  have HPC := hide (fun w' (hbl : Below w.heap.size w w') => l1Parts_any C b' off' cap' w' hC (hr'.below hbl hb') (Nat.lt_of_lt_of_le hb' hbl.size) hcap' hok')
  have HKA := hide (fun w' (hbl : Below w.heap.size w w') => l1Keys_any A b off cap w' hA (hr.below hbl hb) (Nat.lt_of_lt_of_le hb hbl.size) hcap hok)
  have HKC := hide (fun w' (hbl : Below w.heap.size w w') => l1Keys_any C b' off' cap' w' hC (hr'.below hbl hb') (Nat.lt_of_lt_of_le hb' hbl.size) hcap' hok')
  have hAA := (M.places_in hA 0 (by omega)).2.2.2
  have hCC := (M.places_in hC 0 (by omega)).2.2.2
  have HLL := hide (fun s s' B B' w' (h : SS w' B s (subs A 0)) (h' : SS w' B' s' (subs C 0)) => l1Lists_any f IH s s' B B' _ _ w' h h' (by rw [subs_length]; exact hAA) (by rw [subs_length]; exact hCC) (allOk_subs hA hok f hAf) (allOk_subs hC hok' 200 (by omega)))
  have HKL := hide (fun s s' B B' w' (h : KS w' B s (keysAt A 0)) (h' : KS w' B' s' (keysAt C 0)) => l1KeyLists_any s s' B B' _ _ w' h h' (by rw [keysAt_length]; exact hAA) (by rw [keysAt_length]; exact hCC))
  have c1 := hide (cmp_kind f A C)
  have c2 := hide (cmp_num f A C)
  have c3 := hide (cmp_text f A C)
  have c4 := hide (cmp_arr f A C)
  have c5 := hide (cmp_obj f A C)
  have c6 := hide (cmp_else f A C)
  clear BB hA hC hok hok' hr hr' hAA hCC hAf
  generalize A.getD 0 M.zero = x at *
  generalize C.getD 0 M.zero = y at *
  by_cases hk : x.kind = y.kind
  · have ek : (x.kind == y.kind) = true := by simp [hk]
    by_cases k3 : x.kind = 3
    · have fin := hide ((unhide c2) hk k3)
      have e3 : (x.kind == 3) = true := by simp [k3]
      clear c1 c2 c3 c4 c5 c6 hk k3
      go_enter Try.func47, Try.ntmps47
      go_wp2_with fail
      refine (l1Sign_any _ _ _).mono ?_
      rintro e w1 ⟨rfl, hw1⟩
      subst hw1
      go_wp2_with fail
      go_ret
      exact ⟨ret_int ((sign_int _ _).trans (unhide fin).symm), (unhide HBB) _ _⟩
    have e3 : (x.kind == 3) = false := by simp [k3]
    by_cases k4 : x.kind = 4
    · have fin := hide ((unhide c3) hk k4)
      have e4 : (x.kind == 4) = true := by simp [k4]
      clear c1 c2 c3 c4 c5 c6 hk k3 k4
      go_enter Try.func47, Try.ntmps47
      go_wp2_with fail
      refine (l1Sign_any _ _ _).mono ?_
      rintro e w1 ⟨rfl, hw1⟩
      subst hw1
      go_wp2_with fail
      go_ret
      exact ⟨ret_int ((sign_text _ _).trans (unhide fin).symm), (unhide HBB) _ _⟩
    have e4 : (x.kind == 4) = false := by simp [k4]
    by_cases k5 : x.kind = 5
    · have fin := hide ((unhide c4) hk k5)
      have e5 : (x.kind == 5) = true := by simp [k5]
      clear c1 c2 c3 c4 c5 c6 hk k3 k4 k5
      go_enter Try.func47, Try.ntmps47
      go_wp2_with fail
      refine ((unhide HPA) _ ((unhide HBB) _ _)).mono ?_
      rintro e w1 ⟨s, rfl, hs1, hb1⟩
      have B1 : Below w.heap.size w w1 := ((unhide HBB) _ _).trans (hb1.mono (by simp <;> omega))
      obtain ⟨a1, n1, q1, rfl⟩ : ∃ a n c, s = Value.slice a n c := by obtain ⟨_, _, h, _⟩ := hs1; obtain ⟨a, c, h⟩ := shape_len h; exact ⟨_, _, _, h⟩
      clear hb1 x0 x1 x2 x3 x4 y0 y1 y2 y3 y4
      go_wp2_with fail
      refine ((unhide HPC) _ B1).mono ?_
      rintro e w2 ⟨s2, rfl, hs2, hb2⟩
      have B2 : Below w.heap.size w w2 := B1.trans (hb2.mono B1.size)
      have hs1' := hs1.below hb2
      obtain ⟨a2, n2, q2, rfl⟩ : ∃ a n c, s2 = Value.slice a n c := by obtain ⟨_, _, h, _⟩ := hs2; obtain ⟨a, c, h⟩ := shape_len h; exact ⟨_, _, _, h⟩
      clear hb2 hs1
      go_wp2_with fail
      refine ((unhide HLL) _ _ _ _ _ hs1' hs2).mono ?_
      rintro e w3 ⟨rfl, hb3⟩
      have B3 : Below w.heap.size w w3 := B2.trans (hb3.mono B2.size)
      clear hb3 hs1' hs2
      go_wp2_with fail
      go_ret
      exact ⟨ret_int (unhide fin).symm, B3⟩
    have e5 : (x.kind == 5) = false := by simp [k5]
    by_cases k6 : x.kind = 6
    · have fin := hide ((unhide c5) hk k6)
      have e6 : (x.kind == 6) = true := by simp [k6]
      clear c1 c2 c3 c4 c5 c6 hk k3 k4 k5 k6
      go_enter Try.func47, Try.ntmps47
      go_wp2_with fail
      refine ((unhide HKA) _ ((unhide HBB) _ _)).mono ?_
      rintro e w1 ⟨s, rfl, hs1, hb1⟩
      have B1 : Below w.heap.size w w1 := ((unhide HBB) _ _).trans (hb1.mono (by simp <;> omega))
      obtain ⟨a1, q1, hh⟩ := shape_len hs1
      subst hh
      clear hb1 x0 x1 x2 x3 x4 y0 y1 y2 y3 y4
      go_wp2_with fail
      refine ((unhide HKC) _ B1).mono ?_
      rintro e w2 ⟨s2, rfl, hs2, hb2⟩
      have B2 : Below w.heap.size w w2 := B1.trans (hb2.mono B1.size)
      have hs1' := hs1.below hb2
      obtain ⟨a2, q2, hh⟩ := shape_len hs2
      subst hh
      clear hb2 hs1
      go_wp2_with fail
      refine ((unhide HKL) _ _ _ _ _ hs1' hs2).mono ?_
      rintro e w3 ⟨rfl, hb3⟩
      have B3 : Below w.heap.size w w3 := B2.trans (hb3.mono B2.size)
      clear hb3 hs1' hs2
      generalize hq : lex cmpK (keysAt A 0) (keysAt C 0) = q at *
      by_cases hz : q = 0
      · subst hz
        have fin2 := unhide fin
        rw [if_neg (by simp)] at fin2
        have FIN := hide fin2
        clear fin fin2 hq
        go_wp2_with fail
        refine ((unhide HPA) _ B3).mono ?_
        rintro e w4 ⟨s4, rfl, hs4, hb4⟩
        have B4 : Below w.heap.size w w4 := B3.trans (hb4.mono B3.size)
        obtain ⟨a4, n4, q4, rfl⟩ : ∃ a n c, s4 = Value.slice a n c := by obtain ⟨_, _, h, _⟩ := hs4; obtain ⟨a, c, h⟩ := shape_len h; exact ⟨_, _, _, h⟩
        clear hb4
        go_wp2_with fail
        refine ((unhide HPC) _ B4).mono ?_
        rintro e w5 ⟨s5, rfl, hs5, hb5⟩
        have B5 : Below w.heap.size w w5 := B4.trans (hb5.mono B4.size)
        have hs4' := hs4.below hb5
        obtain ⟨a5, n5, q5, rfl⟩ : ∃ a n c, s5 = Value.slice a n c := by obtain ⟨_, _, h, _⟩ := hs5; obtain ⟨a, c, h⟩ := shape_len h; exact ⟨_, _, _, h⟩
        clear hb5 hs4
        go_wp2_with fail
        refine ((unhide HLL) _ _ _ _ _ hs4' hs5).mono ?_
        rintro e w6 ⟨rfl, hb6⟩
        have B6 : Below w.heap.size w w6 := B5.trans (hb6.mono B5.size)
        clear hb6 hs4' hs5
        go_wp2_with fail
        go_ret
        exact ⟨ret_int (unhide FIN).symm, B6⟩
      · have fin2 := unhide fin
        rw [if_pos hz] at fin2
        have FIN := hide fin2
        have hz' : (q == 0) = false := by simp [hz]
        clear fin fin2 hq
        go_wp2_with fail
        go_ret
        exact ⟨ret_int (unhide FIN).symm, B3⟩
    · have fin := hide ((unhide c6) hk ⟨k3, k4, k5, k6⟩)
      have e6 : (x.kind == 6) = false := by simp [k6]
      clear c1 c2 c3 c4 c5 c6 hk k3 k4 k5 k6
      go_enter Try.func47, Try.ntmps47
      go_wp2_with fail
      go_ret
      exact ⟨ret_int (unhide fin).symm, (unhide HBB) _ _⟩
  · have fin := hide ((unhide c1) hk)
    have ek : (x.kind == y.kind) = false := by simp [hk]
    clear c1 c2 c3 c4 c5 c6 hk
    go_enter Try.func47, Try.ntmps47
    go_wp2_with fail
    refine (l1Sign_any _ _ _).mono ?_
    rintro e w1 ⟨rfl, hw1⟩
    subst hw1
    go_wp2_with fail
    go_ret
    exact ⟨ret_int (unhide fin).symm, (unhide HBB) _ _⟩

theorem l1Compare_any (f : Nat) : CmpSays f := by
  induction f with
  | zero => intro A C b off cap b' off' cap' w hA _ hAf; have := (M.fault_zero hA).1; omega
  | succ f ih => exact l1Compare_step f ih

end Go.Proofs.Ythkofafbnbjbbaf
