/-
  spec.l2Whole, spec.l2Member: a number, a key of a text.
-/
import Derived.Test.YtepfdlbnnkojbaaGreatDoorDecM
import Derived.Test.YtepfdlbnnkojbaaGreatDoorStrT
import Derived.Test.YtepfdlbnnkojbaaGreatDoorBld
namespace Go.Proofs.YtepfdlbnnkojbaaGreatDoor
open Go.RowKit
set_option linter.unusedVariables false
set_option linter.unusedSimpArgs false


/-- What a reader of spec answers: what was read, in memory of its own, or a code and its place. -/
def RvSaid (R : J.Rv) (B : Nat) (e : Ending) (w' : World) : Prop :=
  (∃ l m sv tx, R = .inr (l, m) ∧ e = .returned (.agg #[sv, .string tx, .int .i64 (m : Int), .int .i64 0, .int .i64 0]) ∧ Res w' B sv l) ∨ (∃ (c : Int) (m : Nat), R = .inl (c, m) ∧ e = .returned (.agg #[.slice none 0 0, .string ByteArray.empty, .int .i64 0, .int .i64 c, .int .i64 (m : Int)]))
theorem Res.sets5 {w : World} {C b : Nat} {s : Value} {l : List M.Cl} (h : Res w C s l) (hb : b < C) (x0 x1 x2 x3 x4 : Value) : Res (((((w.setCell ⟨b, 0, none⟩ x0).setCell ⟨b, 1, none⟩ x1).setCell ⟨b, 2, none⟩ x2).setCell ⟨b, 3, none⟩ x3).setCell ⟨b, 4, none⟩ x4) C s l := by
  have hp : ∀ p : Addr, p.block = b → ∀ c, s.ownBlock = some c → c ≠ p.block := fun p hp c hc e => by have := h.base c hc; omega
  exact ((((h.setOther _ x0 (hp _ rfl)).setOther _ x1 (hp _ rfl)).setOther _ x2 (hp _ rfl)).setOther _ x3 (hp _ rfl)).setOther _ x4 (hp _ rfl)

set_option maxRecDepth 100000 in
set_option maxHeartbeats 8000000 in
theorem l2Whole_any (s : ByteArray) (k : Nat) (w : World) (hk : k ≤ s.size) (hs : s.size ≤ 1048576) :
    Calls Tryz.prog 32 #[.string s, .int .i64 k] w fun e w' => RvSaid (J.numV s k) w.heap.size e w' ∧ Below w.heap.size w w' := by
  obtain ⟨w0, hw0⟩ : ∃ w0, w0 = w.alloc (.cells #[.slice none 0 0, .string ByteArray.empty, .int .i64 0, .int .i64 0, .int .i64 0] 36) := ⟨_, rfl⟩
  have B0 : Below w.heap.size w w0 := by rw [hw0]; exact (Below.refl _ _).alloc (Nat.le_refl _) _
  have O0 : Own w0 w.heap.size 36 [.slice none 0 0, .string ByteArray.empty, .int .i64 0, .int .i64 0, .int .i64 0] := by rw [hw0]; exact ⟨_, heap_alloc_new _ _, rfl⟩
  have HNUM := hide (l2Number_any s k w0 hk hs)
  rcases J.num_fit s k hk with ⟨m, hm, hms⟩ | ⟨m, hm, hm1, hm2⟩
  · have fin := hide (show J.numV s k = .inl (5, m) by unfold J.numV J.numR; rw [J.wholeR_no hm])
    rw [hm] at HNUM
    generalize J.numV s k = RR at *
    clear hm
    go_enter Tryz.func32, Tryz.ntmps32
    go_wp2_with fail
    try (rw [show (w.alloc (.cells #[.slice none 0 0, .string { data := #[] }, .int .i64 0, .int .i64 0, .int .i64 0] 36)) = w0 from hw0.symm])
    clear hw0
    refine (unhide HNUM).mono ?_
    rintro e wk ⟨rfl, hwk⟩
    rw [hwk]
    clear hwk
    go_wp2_with fail
    refine (l2Bad_any 5 (m : Int) _).mono ?_
    rintro e wB ⟨rfl, hbB⟩
    have BB : Below w.heap.size w wB := B0.trans (hbB.mono B0.size)
    have OB := O0.below hbB O0.lt
    have hleB := BB.size
    have c0 := OB.cell 0
    have c1 := OB.cell 1
    have c2 := OB.cell 2
    have c3 := OB.cell 3
    have c4 := OB.cell 4
    simp only [List.getElem?_cons_zero, List.getElem?_cons_succ] at c0 c1 c2 c3 c4
    have z0 := OB.frozen 0
    have z1 := OB.frozen 1
    have z2 := OB.frozen 2
    have z3 := OB.frozen 3
    have z4 := OB.frozen 4
    go_wp2_with fail
    refine bodyPost_ret (v := .agg #[.slice none 0 0, .string ByteArray.empty, .int .i64 0, .int .i64 5, .int .i64 (m : Int)]) (by simp [results, Tryz.results32, go_sem, c0, c1, c2, c3, c4]; try rfl) rfl ⟨.inr ⟨5, _, unhide fin, rfl⟩, ?_⟩
    repeat (first | exact BB | refine Below.setCell ?_ (by simp <;> omega) _ | refine Below.alloc ?_ (by first | exact hleB | (simp <;> omega)) _)
  · have hext := J.isNum_ext hm hm2
    have hes : (s.extract k m).size ≤ 1048576 := by rw [J.ext_size hm2]; omega
    have HV := hide (fun w => l2Value_any (s.extract k m) w hes hext.1)
    have hkI : (k : Int) ≤ (m : Int) := by omega
    have hmI : (m : Int) ≤ (s.size : Int) := by omega
    have hm0 : ¬ (m : Int) < 0 := by omega
    have hd0 : decide ((m : Int) < 0) = false := decide_eq_false hm0
    rw [hm] at HNUM
    have HW := J.wholeR_yes hm
    have hx1 := hext.1
    clear hext hm hes
    cases hok : (J.numVal (J.negOf (s.extract k m)) (J.digitsOf (s.extract k m))).2 with
    | false =>
      have fin := hide (show J.numV s k = .inl (3, k) by unfold J.numV J.numR; rw [HW, J.numOut_big hx1 hok]; rfl)
      generalize J.numVal (J.negOf (s.extract k m)) (J.digitsOf (s.extract k m)) = R at *
      obtain ⟨v, ok⟩ := R
      simp only at hok
      subst hok
      clear HW hx1
      generalize J.numV s k = RR at *
      go_enter Tryz.func32, Tryz.ntmps32
      go_wp2_with fail
      try (rw [show (w.alloc (.cells #[.slice none 0 0, .string { data := #[] }, .int .i64 0, .int .i64 0, .int .i64 0] 36)) = w0 from hw0.symm])
      clear hw0
      refine (unhide HNUM).mono ?_
      rintro e wk ⟨rfl, hwk⟩
      rw [hwk]
      clear hwk
      go_wp2_with fail
      refine ((unhide HV) _).mono ?_
      rintro e wk ⟨rfl, hwk⟩
      rw [hwk]
      clear hwk
      go_wp2_with fail
      refine (l2Bad_any 3 (k : Int) _).mono ?_
      rintro e wB ⟨rfl, hbB⟩
      have BB : Below w.heap.size w wB := B0.trans (hbB.mono B0.size)
      have OB := O0.below hbB O0.lt
      have hleB := BB.size
      have c0 := OB.cell 0
      have c1 := OB.cell 1
      have c2 := OB.cell 2
      have c3 := OB.cell 3
      have c4 := OB.cell 4
      simp only [List.getElem?_cons_zero, List.getElem?_cons_succ] at c0 c1 c2 c3 c4
      have z0 := OB.frozen 0
      have z1 := OB.frozen 1
      have z2 := OB.frozen 2
      have z3 := OB.frozen 3
      have z4 := OB.frozen 4
      go_wp2_with fail
      refine bodyPost_ret (v := .agg #[.slice none 0 0, .string ByteArray.empty, .int .i64 0, .int .i64 3, .int .i64 (k : Int)]) (by simp [results, Tryz.results32, go_sem, c0, c1, c2, c3, c4]; try rfl) rfl ⟨.inr ⟨3, _, unhide fin, rfl⟩, ?_⟩
      repeat (first | exact BB | refine Below.setCell ?_ (by simp <;> omega) _ | refine Below.alloc ?_ (by first | exact hleB | (simp <;> omega)) _)
    | true =>
      have HW2 : J.wholeR s k = .inr ((J.numVal (J.negOf (s.extract k m)) (J.digitsOf (s.extract k m))).1, m) := by rw [HW, J.numOut_ok hx1 hok]; simp
      generalize J.numVal (J.negOf (s.extract k m)) (J.digitsOf (s.extract k m)) = R at *
      obtain ⟨v, ok⟩ := R
      simp only at hok HW2
      subst hok
      clear HW hx1
      by_cases hf : J.peek s m = 46 ∨ J.peek s m = 101 ∨ J.peek s m = 69
      · have fin := hide (show J.numV s k = .inl (3, m) by unfold J.numV J.numR; rw [HW2]; simp only; rw [if_pos hf])
        have hlt : m < s.size := by rcases hf with h | h | h <;> exact J.peek_lt s m _ (by decide) h
        have hltz : (m : Int) < (s.size : Int) := by omega
        rw [J.peek_in s m hlt] at hf
        generalize J.numV s k = RR at *
        clear HW2
        rcases hf with h | h | h
        · have e1 : ((s[m].toNat : Int) == 46) = true := by rw [h]; rfl
          go_enter Tryz.func32, Tryz.ntmps32
          go_wp2_with fail
          try (rw [show (w.alloc (.cells #[.slice none 0 0, .string { data := #[] }, .int .i64 0, .int .i64 0, .int .i64 0] 36)) = w0 from hw0.symm])
          clear hw0
          refine (unhide HNUM).mono ?_
          rintro e wk ⟨rfl, hwk⟩
          rw [hwk]
          clear hwk
          go_wp2_with fail
          refine ((unhide HV) _).mono ?_
          rintro e wk ⟨rfl, hwk⟩
          rw [hwk]
          clear hwk
          go_wp2_with fail
          refine (l2Bad_any 3 (m : Int) _).mono ?_
          rintro e wB ⟨rfl, hbB⟩
          have BB : Below w.heap.size w wB := B0.trans (hbB.mono B0.size)
          have OB := O0.below hbB O0.lt
          have hleB := BB.size
          have c0 := OB.cell 0
          have c1 := OB.cell 1
          have c2 := OB.cell 2
          have c3 := OB.cell 3
          have c4 := OB.cell 4
          simp only [List.getElem?_cons_zero, List.getElem?_cons_succ] at c0 c1 c2 c3 c4
          have z0 := OB.frozen 0
          have z1 := OB.frozen 1
          have z2 := OB.frozen 2
          have z3 := OB.frozen 3
          have z4 := OB.frozen 4
          go_wp2_with fail
          refine bodyPost_ret (v := .agg #[.slice none 0 0, .string ByteArray.empty, .int .i64 0, .int .i64 3, .int .i64 (m : Int)]) (by simp [results, Tryz.results32, go_sem, c0, c1, c2, c3, c4]; try rfl) rfl ⟨.inr ⟨3, _, unhide fin, rfl⟩, ?_⟩
          repeat (first | exact BB | refine Below.setCell ?_ (by simp <;> omega) _ | refine Below.alloc ?_ (by first | exact hleB | (simp <;> omega)) _)
        · have e1 : ((s[m].toNat : Int) == 46) = false := by rw [h]; rfl
          have e2 : ((s[m].toNat : Int) == 101) = true := by rw [h]; rfl
          go_enter Tryz.func32, Tryz.ntmps32
          go_wp2_with fail
          try (rw [show (w.alloc (.cells #[.slice none 0 0, .string { data := #[] }, .int .i64 0, .int .i64 0, .int .i64 0] 36)) = w0 from hw0.symm])
          clear hw0
          refine (unhide HNUM).mono ?_
          rintro e wk ⟨rfl, hwk⟩
          rw [hwk]
          clear hwk
          go_wp2_with fail
          refine ((unhide HV) _).mono ?_
          rintro e wk ⟨rfl, hwk⟩
          rw [hwk]
          clear hwk
          go_wp2_with fail
          refine (l2Bad_any 3 (m : Int) _).mono ?_
          rintro e wB ⟨rfl, hbB⟩
          have BB : Below w.heap.size w wB := B0.trans (hbB.mono B0.size)
          have OB := O0.below hbB O0.lt
          have hleB := BB.size
          have c0 := OB.cell 0
          have c1 := OB.cell 1
          have c2 := OB.cell 2
          have c3 := OB.cell 3
          have c4 := OB.cell 4
          simp only [List.getElem?_cons_zero, List.getElem?_cons_succ] at c0 c1 c2 c3 c4
          have z0 := OB.frozen 0
          have z1 := OB.frozen 1
          have z2 := OB.frozen 2
          have z3 := OB.frozen 3
          have z4 := OB.frozen 4
          go_wp2_with fail
          refine bodyPost_ret (v := .agg #[.slice none 0 0, .string ByteArray.empty, .int .i64 0, .int .i64 3, .int .i64 (m : Int)]) (by simp [results, Tryz.results32, go_sem, c0, c1, c2, c3, c4]; try rfl) rfl ⟨.inr ⟨3, _, unhide fin, rfl⟩, ?_⟩
          repeat (first | exact BB | refine Below.setCell ?_ (by simp <;> omega) _ | refine Below.alloc ?_ (by first | exact hleB | (simp <;> omega)) _)
        · have e1 : ((s[m].toNat : Int) == 46) = false := by rw [h]; rfl
          have e2 : ((s[m].toNat : Int) == 101) = false := by rw [h]; rfl
          have e3 : ((s[m].toNat : Int) == 69) = true := by rw [h]; rfl
          go_enter Tryz.func32, Tryz.ntmps32
          go_wp2_with fail
          try (rw [show (w.alloc (.cells #[.slice none 0 0, .string { data := #[] }, .int .i64 0, .int .i64 0, .int .i64 0] 36)) = w0 from hw0.symm])
          clear hw0
          refine (unhide HNUM).mono ?_
          rintro e wk ⟨rfl, hwk⟩
          rw [hwk]
          clear hwk
          go_wp2_with fail
          refine ((unhide HV) _).mono ?_
          rintro e wk ⟨rfl, hwk⟩
          rw [hwk]
          clear hwk
          go_wp2_with fail
          refine (l2Bad_any 3 (m : Int) _).mono ?_
          rintro e wB ⟨rfl, hbB⟩
          have BB : Below w.heap.size w wB := B0.trans (hbB.mono B0.size)
          have OB := O0.below hbB O0.lt
          have hleB := BB.size
          have c0 := OB.cell 0
          have c1 := OB.cell 1
          have c2 := OB.cell 2
          have c3 := OB.cell 3
          have c4 := OB.cell 4
          simp only [List.getElem?_cons_zero, List.getElem?_cons_succ] at c0 c1 c2 c3 c4
          have z0 := OB.frozen 0
          have z1 := OB.frozen 1
          have z2 := OB.frozen 2
          have z3 := OB.frozen 3
          have z4 := OB.frozen 4
          go_wp2_with fail
          refine bodyPost_ret (v := .agg #[.slice none 0 0, .string ByteArray.empty, .int .i64 0, .int .i64 3, .int .i64 (m : Int)]) (by simp [results, Tryz.results32, go_sem, c0, c1, c2, c3, c4]; try rfl) rfl ⟨.inr ⟨3, _, unhide fin, rfl⟩, ?_⟩
          repeat (first | exact BB | refine Below.setCell ?_ (by simp <;> omega) _ | refine Below.alloc ?_ (by first | exact hleB | (simp <;> omega)) _)
      · have fin := hide (show J.numV s k = .inr ([⟨3, v, ByteArray.empty, ByteArray.empty, 0⟩], m) by unfold J.numV J.numR; rw [HW2]; simp only; rw [if_neg hf])
        generalize J.numV s k = RR at *
        clear HW2
        by_cases hlt : m < s.size
        · have hltz : (m : Int) < (s.size : Int) := by omega
          rw [J.peek_in s m hlt] at hf
          have e1 : ((s[m].toNat : Int) == 46) = false := beq_eq_false_iff_ne.2 (fun h => hf (.inl h))
          have e2 : ((s[m].toNat : Int) == 101) = false := beq_eq_false_iff_ne.2 (fun h => hf (.inr (.inl h)))
          have e3 : ((s[m].toNat : Int) == 69) = false := beq_eq_false_iff_ne.2 (fun h => hf (.inr (.inr h)))
          clear hf
          go_enter Tryz.func32, Tryz.ntmps32
          go_wp2_with fail
          try (rw [show (w.alloc (.cells #[.slice none 0 0, .string { data := #[] }, .int .i64 0, .int .i64 0, .int .i64 0] 36)) = w0 from hw0.symm])
          clear hw0
          refine (unhide HNUM).mono ?_
          rintro e wk ⟨rfl, hwk⟩
          rw [hwk]
          clear hwk
          go_wp2_with fail
          refine ((unhide HV) _).mono ?_
          rintro e wk ⟨rfl, hwk⟩
          rw [hwk]
          clear hwk
          go_wp2_with fail
          refine (l1Number_any _ _).mono ?_
          rintro e wB ⟨sv, rfl, hr, hbB⟩
          have BB : Below w.heap.size w wB := B0.trans (hbB.mono B0.size)
          have OB := O0.below hbB O0.lt
          have hleB := BB.size
          have FR := hide (fun x0 x1 x2 x3 x4 => (hr.sets5 O0.lt x0 x1 x2 x3 x4).mono (Nat.le_of_lt O0.lt))
          obtain ⟨a, n, cp, rfl⟩ := hr.shape
          clear hr
          have c0 := OB.cell 0
          have c1 := OB.cell 1
          have c2 := OB.cell 2
          have c3 := OB.cell 3
          have c4 := OB.cell 4
          simp only [List.getElem?_cons_zero, List.getElem?_cons_succ] at c0 c1 c2 c3 c4
          have z0 := OB.frozen 0
          have z1 := OB.frozen 1
          have z2 := OB.frozen 2
          have z3 := OB.frozen 3
          have z4 := OB.frozen 4
          go_wp2_with fail
          refine bodyPost_ret (v := .agg #[.slice a n cp, .string ByteArray.empty, .int .i64 (m : Int), .int .i64 0, .int .i64 0]) (by simp [results, Tryz.results32, go_sem, c0, c1, c2, c3, c4]; try rfl) rfl ⟨.inl ⟨_, _, _, _, unhide fin, rfl, (unhide FR) _ _ _ _ _⟩, ?_⟩
          repeat (first | exact BB | refine Below.setCell ?_ (by simp <;> omega) _ | refine Below.alloc ?_ (by first | exact hleB | (simp <;> omega)) _)
        · have hltz : ¬ (m : Int) < (s.size : Int) := by omega
          clear hf
          go_enter Tryz.func32, Tryz.ntmps32
          go_wp2_with fail
          try (rw [show (w.alloc (.cells #[.slice none 0 0, .string { data := #[] }, .int .i64 0, .int .i64 0, .int .i64 0] 36)) = w0 from hw0.symm])
          clear hw0
          refine (unhide HNUM).mono ?_
          rintro e wk ⟨rfl, hwk⟩
          rw [hwk]
          clear hwk
          go_wp2_with fail
          refine ((unhide HV) _).mono ?_
          rintro e wk ⟨rfl, hwk⟩
          rw [hwk]
          clear hwk
          go_wp2_with fail
          refine (l1Number_any _ _).mono ?_
          rintro e wB ⟨sv, rfl, hr, hbB⟩
          have BB : Below w.heap.size w wB := B0.trans (hbB.mono B0.size)
          have OB := O0.below hbB O0.lt
          have hleB := BB.size
          have FR := hide (fun x0 x1 x2 x3 x4 => (hr.sets5 O0.lt x0 x1 x2 x3 x4).mono (Nat.le_of_lt O0.lt))
          obtain ⟨a, n, cp, rfl⟩ := hr.shape
          clear hr
          have c0 := OB.cell 0
          have c1 := OB.cell 1
          have c2 := OB.cell 2
          have c3 := OB.cell 3
          have c4 := OB.cell 4
          simp only [List.getElem?_cons_zero, List.getElem?_cons_succ] at c0 c1 c2 c3 c4
          have z0 := OB.frozen 0
          have z1 := OB.frozen 1
          have z2 := OB.frozen 2
          have z3 := OB.frozen 3
          have z4 := OB.frozen 4
          go_wp2_with fail
          refine bodyPost_ret (v := .agg #[.slice a n cp, .string ByteArray.empty, .int .i64 (m : Int), .int .i64 0, .int .i64 0]) (by simp [results, Tryz.results32, go_sem, c0, c1, c2, c3, c4]; try rfl) rfl ⟨.inl ⟨_, _, _, _, unhide fin, rfl, (unhide FR) _ _ _ _ _⟩, ?_⟩
          repeat (first | exact BB | refine Below.setCell ?_ (by simp <;> omega) _ | refine Below.alloc ?_ (by first | exact hleB | (simp <;> omega)) _)

end Go.Proofs.YtepfdlbnnkojbaaGreatDoor
