/-
  spec.l2Member: a key of a text and its colon.
-/
import Derived.Test.YtepfdlbnnkojbaaGreatDoorDecS
namespace Go.Proofs.YtepfdlbnnkojbaaGreatDoor
open Go.RowKit
set_option linter.unusedVariables false
set_option linter.unusedSimpArgs false


/-- What spec.l2Member answers. -/
def KeySaid (R : (Int × Nat) ⊕ (ByteArray × Nat)) (e : Ending) : Prop :=
  (∃ key m, R = .inr (key, m) ∧ e = .returned (.agg #[.slice none 0 0, .string key, .int .i64 (m : Int), .int .i64 0, .int .i64 0])) ∨ (∃ (c : Int) (m : Nat), R = .inl (c, m) ∧ e = .returned (.agg #[.slice none 0 0, .string ByteArray.empty, .int .i64 0, .int .i64 c, .int .i64 (m : Int)]))

set_option maxRecDepth 100000 in
set_option maxHeartbeats 4000000 in
theorem l2Member_any (s : ByteArray) (k : Nat) (w : World) (hk : k ≤ s.size) (hs : s.size ≤ 1048576) :
    Calls Tryz.prog 44 #[.string s, .int .i64 k] w fun e w' => KeySaid (J.keyR s k) e ∧ Below w.heap.size w w' := by
  obtain ⟨w0, hw0⟩ : ∃ w0, w0 = w.alloc (.cells #[.slice none 0 0, .string ByteArray.empty, .int .i64 0, .int .i64 0, .int .i64 0] 36) := ⟨_, rfl⟩
  have B0 : Below w.heap.size w w0 := by rw [hw0]; exact (Below.refl _ _).alloc (Nat.le_refl _) _
  have O0 : Own w0 w.heap.size 36 [.slice none 0 0, .string ByteArray.empty, .int .i64 0, .int .i64 0, .int .i64 0] := by rw [hw0]; exact ⟨_, heap_alloc_new _ _, rfl⟩
  by_cases hp : J.peek s k = 34
  · have hlt := J.peek_lt s k 34 (by decide) hp
    have hge : ¬ (s.size : Int) ≤ (k : Int) := by omega
    have hltz : (k : Int) < (s.size : Int) := by omega
    have hc : ((s[k].toNat : Int) != 34) = false := by rw [← J.peek_in s k hlt, hp]; rfl
    have HS := hide (fun w => l2String_any s k w hs hp)
    have HF := J.quotR_fit s k hk
    have HK : J.keyR s k = (match J.quotR s k with | .inl p => .inl p | .inr (l, e) => if J.peek s (J.skip s e) = 58 then .inr (⟨l.toArray⟩, J.skip s e + 1) else .inl (5, J.skip s e)) := rfl
    generalize J.keyR s k = RR at *
    generalize J.quotR s k = Q at *
    clear hp
    go_enter Tryz.func44, Tryz.ntmps44
    go_wp2_with fail
    try (rw [show (w.alloc (.cells #[.slice none 0 0, .string { data := #[] }, .int .i64 0, .int .i64 0, .int .i64 0] 36)) = w0 from hw0.symm])
    clear hw0
    refine ((unhide HS) _).mono ?_
    rintro e wS ⟨hS, hbS⟩
    have BS : Below w.heap.size w wS := B0.trans (hbS.mono B0.size)
    have OS := O0.below hbS O0.lt
    clear HS O0 B0 hbS
    rcases hS with ⟨l, m, hq, rfl⟩ | ⟨c, m, hq, rfl⟩
    · rw [hq] at HF HK
      simp only at HF HK
      obtain ⟨hf1, hf2, hf3⟩ := HF
      have HSK := hide (fun w => l2Skip_any s m w hf2 hs)
      have hsk := J.skip_le s m hf2
      generalize J.skip s m = q at *
      have OA := OS.below ((Below.refl _ _).alloc (Nat.le_refl _) (.cells #[.slice none 0 0, .string (J.bytes l), .int .i64 (m : Int), .int .i64 0, .int .i64 0] 36)) OS.lt
      have BA : Below w.heap.size w (wS.alloc (.cells #[.slice none 0 0, .string (J.bytes l), .int .i64 (m : Int), .int .i64 0, .int .i64 0] 36)) := BS.alloc BS.size _
      by_cases hcol : J.peek s q = 58
      · rw [if_pos hcol] at HK
        have hq1 := J.peek_lt s q 58 (by decide) hcol
        have hqz : ¬ (s.size : Int) ≤ (q : Int) := by omega
        have hqz2 : (q : Int) < (s.size : Int) := by omega
        have hqc : ((s[q].toNat : Int) != 58) = false := by rw [← J.peek_in s q hq1, hcol]; rfl
        clear hcol
        go_wp2_with fail
        refine ((unhide HSK) _).mono ?_
        rintro e wk ⟨rfl, hwk⟩
        rw [hwk]
        clear hwk HSK
        have OA2 := OS.below ((Below.refl _ _).alloc (Nat.le_refl _) (.cells #[.slice none 0 0, .string (J.bytes l), .int .i64 ((q : Int) + 1), .int .i64 0, .int .i64 0] 36)) OS.lt
        have hleB := BS.size
        have c0 := OA2.cell 0
        have c1 := OA2.cell 1
        have c2 := OA2.cell 2
        have c3 := OA2.cell 3
        have c4 := OA2.cell 4
        simp only [List.getElem?_cons_zero, List.getElem?_cons_succ] at c0 c1 c2 c3 c4
        have z0 := OA2.frozen 0
        have z1 := OA2.frozen 1
        have z2 := OA2.frozen 2
        have z3 := OA2.frozen 3
        have z4 := OA2.frozen 4
        go_wp2_with fail
        refine bodyPost_ret (v := .agg #[.slice none 0 0, .string (J.bytes l), .int .i64 ((q : Int) + 1), .int .i64 0, .int .i64 0]) (by simp [results, Tryz.results44, go_sem, c0, c1, c2, c3, c4]; try rfl) rfl ⟨.inl ⟨_, q + 1, HK, rfl⟩, ?_⟩
        repeat (first | exact BS | refine Below.setCell ?_ (by simp <;> omega) _ | refine Below.alloc ?_ (by first | exact hleB | (simp <;> omega)) _)
      · rw [if_neg hcol] at HK
        by_cases hq1 : q < s.size
        · have hqz : ¬ (s.size : Int) ≤ (q : Int) := by omega
          have hqz2 : (q : Int) < (s.size : Int) := by omega
          have hqc : ((s[q].toNat : Int) != 58) = true := by rw [← J.peek_in s q hq1]; simpa using hcol
          clear hcol
          go_wp2_with fail
          refine ((unhide HSK) _).mono ?_
          rintro e wk ⟨rfl, hwk⟩
          rw [hwk]
          clear hwk HSK
          go_wp2_with fail
          refine (l2Bad_any 5 (q : Int) _).mono ?_
          rintro e wB ⟨rfl, hbB⟩
          have BB : Below w.heap.size w wB := BA.trans (hbB.mono BA.size)
          have OB := OA.below hbB OA.lt
          have hleB := BB.size
          have c0 := OB.cell 0
          have c1 := OB.cell 1
          have c2 := OB.cell 2
          have c3 := OB.cell 3
          have c4 := OB.cell 4
          simp only [List.getElem?_cons_zero, List.getElem?_cons_succ] at c0 c1 c2 c3 c4
          have z0 := OB.frozen 0
          have z1 := OB.frozen 1
          have z2 := OB.frozen 2
          have z3 := OB.frozen 3
          have z4 := OB.frozen 4
          go_wp2_with fail
          refine bodyPost_ret (v := .agg #[.slice none 0 0, .string ByteArray.empty, .int .i64 0, .int .i64 5, .int .i64 (q : Int)]) (by simp [results, Tryz.results44, go_sem, c0, c1, c2, c3, c4]; try rfl) rfl ⟨.inr ⟨5, _, HK, rfl⟩, ?_⟩
          repeat (first | exact BB | refine Below.setCell ?_ (by simp <;> omega) _ | refine Below.alloc ?_ (by first | exact hleB | (simp <;> omega)) _)
        · have hqz : (s.size : Int) ≤ (q : Int) := by omega
          clear hcol
          go_wp2_with fail
          refine ((unhide HSK) _).mono ?_
          rintro e wk ⟨rfl, hwk⟩
          rw [hwk]
          clear hwk HSK
          go_wp2_with fail
          refine (l2Bad_any 5 (q : Int) _).mono ?_
          rintro e wB ⟨rfl, hbB⟩
          have BB : Below w.heap.size w wB := BA.trans (hbB.mono BA.size)
          have OB := OA.below hbB OA.lt
          have hleB := BB.size
          have c0 := OB.cell 0
          have c1 := OB.cell 1
          have c2 := OB.cell 2
          have c3 := OB.cell 3
          have c4 := OB.cell 4
          simp only [List.getElem?_cons_zero, List.getElem?_cons_succ] at c0 c1 c2 c3 c4
          have z0 := OB.frozen 0
          have z1 := OB.frozen 1
          have z2 := OB.frozen 2
          have z3 := OB.frozen 3
          have z4 := OB.frozen 4
          go_wp2_with fail
          refine bodyPost_ret (v := .agg #[.slice none 0 0, .string ByteArray.empty, .int .i64 0, .int .i64 5, .int .i64 (q : Int)]) (by simp [results, Tryz.results44, go_sem, c0, c1, c2, c3, c4]; try rfl) rfl ⟨.inr ⟨5, _, HK, rfl⟩, ?_⟩
          repeat (first | exact BB | refine Below.setCell ?_ (by simp <;> omega) _ | refine Below.alloc ?_ (by first | exact hleB | (simp <;> omega)) _)
    · rw [hq] at HF HK
      have hc0 : (c != 0) = true := by simpa using HF.1
      have OA := OS.below ((Below.refl _ _).alloc (Nat.le_refl _) (.cells #[.slice none 0 0, .string ByteArray.empty, .int .i64 0, .int .i64 c, .int .i64 (m : Int)] 36)) OS.lt
      have BA : Below w.heap.size w (wS.alloc (.cells #[.slice none 0 0, .string ByteArray.empty, .int .i64 0, .int .i64 c, .int .i64 (m : Int)] 36)) := BS.alloc BS.size _
      have hleB := BS.size
      have c0 := OA.cell 0
      have c1 := OA.cell 1
      have c2 := OA.cell 2
      have c3 := OA.cell 3
      have c4 := OA.cell 4
      simp only [List.getElem?_cons_zero, List.getElem?_cons_succ] at c0 c1 c2 c3 c4
      have z0 := OA.frozen 0
      have z1 := OA.frozen 1
      have z2 := OA.frozen 2
      have z3 := OA.frozen 3
      have z4 := OA.frozen 4
      go_wp2_with fail
      refine bodyPost_ret (v := .agg #[.slice none 0 0, .string ByteArray.empty, .int .i64 0, .int .i64 c, .int .i64 (m : Int)]) (by simp [results, Tryz.results44, go_sem, c0, c1, c2, c3, c4]; try rfl) rfl ⟨.inr ⟨c, m, HK, rfl⟩, ?_⟩
      repeat (first | exact BS | refine Below.setCell ?_ (by simp <;> omega) _ | refine Below.alloc ?_ (by first | exact hleB | (simp <;> omega)) _)
  · have fin := hide (show J.keyR s k = .inl (5, k) by unfold J.keyR; rw [J.quotR_no hp])
    generalize J.keyR s k = RR at *
    by_cases hlt : k < s.size
    · have hge : ¬ (s.size : Int) ≤ (k : Int) := by omega
      have hltz : (k : Int) < (s.size : Int) := by omega
      have hc : ((s[k].toNat : Int) != 34) = true := by rw [← J.peek_in s k hlt]; simpa using hp
      clear hp
      go_enter Tryz.func44, Tryz.ntmps44
      go_wp2_with fail
      try (rw [show (w.alloc (.cells #[.slice none 0 0, .string { data := #[] }, .int .i64 0, .int .i64 0, .int .i64 0] 36)) = w0 from hw0.symm])
      clear hw0
      go_wp2_with fail
      refine (l2Bad_any 5 (k : Int) _).mono ?_
      rintro e wB ⟨rfl, hbB⟩
      have BB : Below w.heap.size w wB := B0.trans (hbB.mono B0.size)
      have OB := O0.below hbB O0.lt
      have hleB := BB.size
      have c0 := OB.cell 0
      have c1 := OB.cell 1
      have c2 := OB.cell 2
      have c3 := OB.cell 3
      have c4 := OB.cell 4
      simp only [List.getElem?_cons_zero, List.getElem?_cons_succ] at c0 c1 c2 c3 c4
      have z0 := OB.frozen 0
      have z1 := OB.frozen 1
      have z2 := OB.frozen 2
      have z3 := OB.frozen 3
      have z4 := OB.frozen 4
      go_wp2_with fail
      refine bodyPost_ret (v := .agg #[.slice none 0 0, .string ByteArray.empty, .int .i64 0, .int .i64 5, .int .i64 (k : Int)]) (by simp [results, Tryz.results44, go_sem, c0, c1, c2, c3, c4]; try rfl) rfl ⟨.inr ⟨5, _, unhide fin, rfl⟩, ?_⟩
      repeat (first | exact BB | refine Below.setCell ?_ (by simp <;> omega) _ | refine Below.alloc ?_ (by first | exact hleB | (simp <;> omega)) _)
    · have hge : (s.size : Int) ≤ (k : Int) := by omega
      clear hp
      go_enter Tryz.func44, Tryz.ntmps44
      go_wp2_with fail
      try (rw [show (w.alloc (.cells #[.slice none 0 0, .string { data := #[] }, .int .i64 0, .int .i64 0, .int .i64 0] 36)) = w0 from hw0.symm])
      clear hw0
      go_wp2_with fail
      refine (l2Bad_any 5 (k : Int) _).mono ?_
      rintro e wB ⟨rfl, hbB⟩
      have BB : Below w.heap.size w wB := B0.trans (hbB.mono B0.size)
      have OB := O0.below hbB O0.lt
      have hleB := BB.size
      have c0 := OB.cell 0
      have c1 := OB.cell 1
      have c2 := OB.cell 2
      have c3 := OB.cell 3
      have c4 := OB.cell 4
      simp only [List.getElem?_cons_zero, List.getElem?_cons_succ] at c0 c1 c2 c3 c4
      have z0 := OB.frozen 0
      have z1 := OB.frozen 1
      have z2 := OB.frozen 2
      have z3 := OB.frozen 3
      have z4 := OB.frozen 4
      go_wp2_with fail
      refine bodyPost_ret (v := .agg #[.slice none 0 0, .string ByteArray.empty, .int .i64 0, .int .i64 5, .int .i64 (k : Int)]) (by simp [results, Tryz.results44, go_sem, c0, c1, c2, c3, c4]; try rfl) rfl ⟨.inr ⟨5, _, unhide fin, rfl⟩, ?_⟩
      repeat (first | exact BB | refine Below.setCell ?_ (by simp <;> omega) _ | refine Below.alloc ?_ (by first | exact hleB | (simp <;> omega)) _)

end Go.Proofs.YtepfdlbnnkojbaaGreatDoor
