/-
  impl: a whole text; what the library's two variables hold.
  impl.DecodeValue: what it answers.
-/
import Derived.Test.YtikeffckhklhbaaGreatDoorX21
import Derived.Test.YtikeffckhklhbaaGreatDoorX35
import Derived.Test.YtikeffckhklhbaaGreatDoorX36
namespace Go.Proofs.YtikeffckhklhbaaGreatDoor
open Go.RowKit
set_option linter.unusedVariables false
set_option linter.unusedSimpArgs false

/-- A whole text: a value and blanks alone. -/
def J.textR (s : ByteArray) : J.Rv :=
  match J.oneR 21 0 s (J.skip s 0) with
  | .inl p => .inl p
  | .inr (v, e) => if s.size ≤ J.skip s e then .inr (v, J.skip s e) else .inl (5, J.skip s e)
def WLeft (R : J.Rv) (w : World) (b : Nat) (e : Ending) (w' : World) : Prop :=
  (∃ v m sv, R = .inr (v, m) ∧ e = .returned (.tuple #[sv, .nilIface]) ∧ Res w' w.heap.size sv v ∧ Tch w.heap.size b w w') ∨ (∃ (c : Int) (m : Nat), R = .inl (c, m) ∧ e = .returned (.tuple #[.slice none 0 0, .iface 55 (.agg #[.int .i64 c, .int .i64 (m : Int)])]) ∧ Tch w.heap.size b w w')
set_option maxRecDepth 100000 in
set_option maxHeartbeats 2000000 in
theorem wholeText_any (b : Nat) (s : ByteArray) (w : World) (h : Rd w b 49 s 0 [.int .i64 ((0 : Nat) : Int)]) (her : ErrCell w b) (hs : s.size ≤ 4000) :
    Calls Tryz.prog 19 #[.pointer (some ⟨b, 0, none⟩)] w (WLeft (J.textR s) w b) := by
  have hs' : s.size ≤ 1048576 := by omega
  have HV := hide (value_says s hs 21 0 rfl (by decide) b 0 w (Nat.zero_le _) h her)
  have HFIT := hide (J.oneR_fit s 21 0 (J.skip s 0) (J.skip_le s 0 (Nat.zero_le _)))
  have HR := hide (show J.textR s = (match J.oneR 21 0 s (J.skip s 0) with | .inl p => .inl p | .inr (v, e) => if s.size ≤ J.skip s e then .inr (v, J.skip s e) else .inl (5, J.skip s e)) from rfl)
  generalize J.textR s = RR at *
  generalize J.oneR 21 0 s (J.skip s 0) = R1 at *
  clear h her
  go_enter Tryz.func19, Tryz.ntmps19
  go_wp2_with fail
  refine (unhide HV).mono ?_
  rintro e w1 hS
  rcases hS with ⟨v, m, sv, hq, rfl, hr, V1⟩ | ⟨c, m, q, a5, n5, c5, hq, rfl, hqs, V1⟩
  · rw [hq] at HR HFIT
    have hms := (unhide HFIT).2.1
    have hsk := J.skip_le s m hms
    obtain ⟨a5, n5, c5, rfl⟩ := hr.shape
    have HR := hide (show RR = (if s.size ≤ J.skip s m then .inr (v, J.skip s m) else .inl (5, J.skip s m)) from unhide HR)
    generalize J.skip s m = P at *
    clear hq HFIT HV
    go_wp2_with fail
    refine (ended_any b 49 s P _ _ V1.rd hs').mono ?_
    rintro e w2 ⟨rfl, q2, hw2⟩
    have V2 : Vs w w2 b s P 0 := by rw [hw2]; exact V1.drewN q2
    have hr2 : Res w2 w.heap.size (.slice a5 n5 c5) v := by rw [hw2]; exact hr
    clear hw2 V1 hr
    by_cases hend : s.size ≤ P
    · have fin := hide ((unhide HR).trans (if_pos hend))
      rw [decide_eq_true hend]
      clear hend
      go_wp2_with fail
      go_ret2
      exact .inl ⟨_, _, _, unhide fin, rfl, hr2, V2.tch⟩
    · have fin := hide ((unhide HR).trans (if_neg hend))
      rw [decide_eq_false hend]
      clear hend
      go_wp2_with fail
      refine (stuck_any b 49 s P _ _ V2.rd).mono ?_
      rintro e w3 ⟨rfl, hr3, ht3⟩
      have V3 := V2.go hr3 ht3
      clear V2 hr3 ht3 hr2
      go_wp2_with fail
      go_ret2
      exact .inr ⟨5, _, unhide fin, rfl, V3.tch⟩
  · rw [hq] at HR
    have fin := hide (unhide HR)
    clear hq HR HFIT HV
    go_wp2_with fail
    go_ret2
    exact .inr ⟨c, m, unhide fin, rfl, V1.tch⟩
/-- What the library's variables hold. -/
structure Gs (w : World) : Prop where
  r : ∃ ev : Value, (ev = .nilIface ∨ ∃ te pe, ev = .iface te pe) ∧ 6 < w.heap.size ∧ w.cell? ⟨6, 0, none⟩ = some ev
  tl : 0 < w.heap.size
  t : w.cell? ⟨0, 0, none⟩ = some (.iface 113 (.agg #[.pointer (some ⟨7, 51, none⟩)]))
theorem Gs.below {w w' : World} (h : Gs w) (hb : Below w.heap.size w w') : Gs w' := by
  obtain ⟨ev, h1, h2, h3⟩ := h.r
  exact ⟨⟨ev, h1, Nat.lt_of_lt_of_le h2 hb.size, (hb.cell (p := ⟨6, 0, none⟩) h2).trans h3⟩, Nat.lt_of_lt_of_le h.tl hb.size, (hb.cell (p := ⟨0, 0, none⟩) h.tl).trans h.t⟩
theorem Gs.err {w w' : World} {b : Nat} (h : Gs w) (hb : Below w.heap.size w w') (hw : w.heap.size ≤ b) : ErrCell w' b := by
  obtain ⟨ev, h1, h2, h3⟩ := (h.below hb).r
  obtain ⟨_, _, h4, _⟩ := h.r
  exact ⟨ev, h1, h2, by omega, h3⟩

end Go.Proofs.YtikeffckhklhbaaGreatDoor

namespace Go.Proofs.YtikeffckhklhbaaGreatDoor
open Go.RowKit
set_option linter.unusedVariables false
set_option linter.unusedSimpArgs false

theorem textR_out {s : ByteArray} (hb : ¬ 4000 < s.size) : J.decOut s = (match J.textR s with | .inl (c, p) => (c, (p : Int), []) | .inr (v, e) => if 200 < v.length then (2, 0, []) else (0, 0, v)) := by
  unfold J.decOut J.textR
  rw [if_neg hb]
  cases J.oneR 21 0 s (J.skip s 0) with
  | inl p => rfl
  | inr p =>
    obtain ⟨v, e⟩ := p
    simp only
    by_cases h : s.size ≤ J.skip s e
    · rw [if_pos h, if_neg (by omega)]
    · rw [if_neg h, if_pos (by omega)]
set_option maxRecDepth 100000 in
set_option maxHeartbeats 4000000 in
theorem impl_DecodeValue (s : ByteArray) (w : World) (hs : s.size ≤ 1048576) (hG : Gs w) : Calls Tryz.prog 9 #[.string s] w (AnsR w (J.decOut s)) := by
  by_cases hbig : 4000 < s.size
  · have fin := hide (show J.decOut s = (2, 0, []) by unfold J.decOut; rw [if_pos hbig])
    have hbz : (4000 : Int) < (s.size : Int) := by omega
    clear hbig
    go_enter Tryz.func9, Tryz.ntmps9
    go_wp2_with fail
    refine bodyPost_ret (v := .agg #[.int .i64 2, .int .i64 0, .slice none 0 0]) (by simp [results, Tryz.results9, go_sem]; try rfl) rfl (ansr_of (unhide fin) (resNil _ _) ((Below.refl _ _).alloc (Nat.le_refl _) _))
  have hbz : ¬ (4000 : Int) < (s.size : Int) := by omega
  have HOUT := hide (textR_out hbig)
  have HW := hide (fun W (hR : Rd W (w.heap.size + 1) 49 s 0 [.int .i64 ((0 : Nat) : Int)]) (hB : Below w.heap.size w W) => wholeText_any (w.heap.size + 1) s W hR (hG.err hB (by omega)) (by omega))
  have HGS := hide hG
  generalize J.textR s = R1 at *
  generalize J.decOut s = OUT at *
  clear hbig hG
  obtain ⟨w1, hw1⟩ : ∃ w1, w1 = (w.alloc (.cells #[.int .i64 0, .int .i64 0, .slice none 0 0] 31)).alloc (.cells #[.string s, .int .i64 0, .int .i64 0] 49) := ⟨_, rfl⟩
  have B1 : Below w.heap.size w w1 := by rw [hw1]; exact ((Below.refl _ _).alloc (Nat.le_refl _) _).alloc (by rw [World.size_alloc]; omega) _
  have O1 : Own w1 w.heap.size 31 [.int .i64 0, .int .i64 0, .slice none 0 0] := by rw [hw1]; exact Own.alloc ⟨_, heap_alloc_new _ _, rfl⟩ _
  have R1' : Rd w1 (w.heap.size + 1) 49 s 0 [.int .i64 ((0 : Nat) : Int)] := by
    have h := heap_alloc_new (w.alloc (.cells #[.int .i64 0, .int .i64 0, .slice none 0 0] 31)) (.cells #[.string s, .int .i64 0, .int .i64 0] 49)
    rw [World.size_alloc] at h
    rw [hw1]; exact ⟨_, h, rfl⟩
  have hs1 : w1.heap.size = w.heap.size + 1 + 1 := by rw [hw1]; simp
  have HS1 := hide hs1
  clear hs1
  go_enter Tryz.func9, Tryz.ntmps9
  go_wp2_with fail
  rw [show ((w.alloc (.cells #[.int .i64 0, .int .i64 0, .slice none 0 0] 31)).alloc (.cells #[.string s, .int .i64 0, .int .i64 0] 49)) = w1 from hw1.symm]
  clear hw1
  refine ((unhide HW) _ R1' B1).mono ?_
  rintro e w2 hS
  have hT : ∃ T : Tch w1.heap.size (w.heap.size + 1) w1 w2, True := by
    rcases hS with ⟨v, m, sv, hq, he, hr, ht⟩ | ⟨c, m, hq, he, ht⟩ <;> exact ⟨ht, trivial⟩
  obtain ⟨ht, -⟩ := hT
  have hs1 := unhide HS1
  have B2 : Below w.heap.size w w2 := B1.trans (ht.below (by omega) (by omega))
  have O2 : Own w2 w.heap.size 31 [.int .i64 0, .int .i64 0, .slice none 0 0] := by
    obtain ⟨xs, h1, h2⟩ := O1
    exact ⟨xs, (ht.block _ (by omega) (by omega)).trans h1, h2⟩
  have hlt2 : w.heap.size + 1 < w2.heap.size := by have := ht.size; omega
  have G2 := hide ((unhide HGS).below B2)
  clear B1 O1 R1' HW ht hs1
  rcases hS with ⟨v, m, sv, hq, rfl, hr, ht⟩ | ⟨c, m, hq, rfl, ht⟩
  · rw [hq] at HOUT
    have hr2 : Res w2 (w.heap.size + 1) sv v := hr.mono (by have := unhide HS1; omega)
    obtain ⟨a, n, cp, rfl, hn⟩ : ∃ a n cp, sv = .slice a n cp ∧ n = v.length := by
      obtain ⟨_, ⟨rfl, rfl⟩ | ⟨b, cap, rfl, _⟩⟩ := hr
      · exact ⟨_, _, _, rfl, rfl⟩
      · exact ⟨_, _, _, rfl, rfl⟩
    have hlen : n ≤ 1048576 := by have := hr2.1; omega
    have B3 := hide (fun o => B2.alloc B2.size o)
    have FR := hide (fun o x0 x1 x2 => ((hr2.alloc o).sets3 (Nat.lt_succ_self _) x0 x1 x2).mono (Nat.le_succ _))
    have c0 : ∀ o, (w2.alloc o).cell? ⟨w.heap.size, 0, none⟩ = some (.int .i64 0) := fun o => (O2.alloc o).cell 0
    have z0 : ∀ o, (w2.alloc o).frozen? ⟨w.heap.size, 0, none⟩ = false := fun o => (O2.alloc o).frozen 0
    have c1 : ∀ o, (w2.alloc o).cell? ⟨w.heap.size, 1, none⟩ = some (.int .i64 0) := fun o => (O2.alloc o).cell 1
    have z1 : ∀ o, (w2.alloc o).frozen? ⟨w.heap.size, 1, none⟩ = false := fun o => (O2.alloc o).frozen 1
    have c2 : ∀ o, (w2.alloc o).cell? ⟨w.heap.size, 2, none⟩ = some (.slice none 0 0) := fun o => (O2.alloc o).cell 2
    have z2 : ∀ o, (w2.alloc o).frozen? ⟨w.heap.size, 2, none⟩ = false := fun o => (O2.alloc o).frozen 2
    clear hr hr2 hq ht B2 O2
    by_cases hmany : 200 < v.length
    · have fin := hide ((unhide HOUT).trans (if_pos hmany))
      have hmz : (200 : Int) < (n : Int) := by omega
      clear hn hmany
      go_wp2_with fail
      refine (as_nil _ _).mono ?_
      rintro e wk ⟨rfl, hwk⟩
      rw [hwk]
      clear hwk
      go_wp2_with fail
      refine bodyPost_ret (v := .agg #[.int .i64 2, .int .i64 0, .slice none 0 0]) (by simp [results, Tryz.results9, go_sem, c0, c1, c2]; try rfl) rfl (ansr_of (unhide fin) (resNil _ _) (sets3 ((unhide B3) _) _ _ _))
    · have fin := hide ((unhide HOUT).trans (if_neg hmany))
      have hmz : ¬ (200 : Int) < (n : Int) := by omega
      clear hn hmany
      go_wp2_with fail
      refine (as_nil _ _).mono ?_
      rintro e wk ⟨rfl, hwk⟩
      rw [hwk]
      clear hwk
      go_wp2_with fail
      refine bodyPost_ret (v := .agg #[.int .i64 0, .int .i64 0, .slice a n cp]) (by simp [results, Tryz.results9, go_sem, c0, c1, c2]; try rfl) rfl (ansr_of (unhide fin) ((unhide FR) _ _ _ _) (sets3 ((unhide B3) _) _ _ _))
  · rw [hq] at HOUT
    have fin := hide (unhide HOUT)
    have HAS := hide (fun o (hT : Own (w2.alloc o) w2.heap.size 55 [.int .i64 0, .int .i64 0]) => as_hits w2.heap.size c (m : Int) (.int .i64 0) (.int .i64 0) (w2.alloc o) ((unhide G2).below ((Below.refl _ _).alloc (Nat.le_refl _) o)).t ((unhide G2).below ((Below.refl _ _).alloc (Nat.le_refl _) o)).tl hT)
    have O3 := hide (fun o => O2.alloc o)
    have B3 := hide (fun o => B2.alloc B2.size o)
    clear hq ht B2 O2
    go_wp2_with fail
    refine ((unhide HAS) _ ⟨_, heap_alloc_new _ _, rfl⟩).mono ?_
    rintro e w4 ⟨rfl, OT, hb4⟩
    have O4 := ((unhide O3) _).below hb4 (by omega)
    have B4 := ((unhide B3) _).trans (hb4.mono (by omega))
    have r0 := OT.cell 0
    have r1 := OT.cell 1
    have c0 := O4.cell 0
    have z0 := O4.frozen 0
    have c1 := O4.cell 1
    have z1 := O4.frozen 1
    have c2 := O4.cell 2
    have z2 := O4.frozen 2
    simp only [List.getElem?_cons_zero, List.getElem?_cons_succ] at r0 r1 c0 c1 c2
    clear hb4 OT O4
    go_wp2_with fail
    refine bodyPost_ret (v := .agg #[.int .i64 c, .int .i64 (m : Int), .slice none 0 0]) (by simp [results, Tryz.results9, go_sem, c0, c1, c2]; try rfl) rfl (ansr_of (unhide fin) (resNil _ _) (sets3 B4 _ _ _))

end Go.Proofs.YtikeffckhklhbaaGreatDoor
