/-
  spec.l2One: a value, however deep.
  Answers that tell a code, a place and cells.
  spec.DecodeValue: what it answers.
-/
import Derived.Test.YtepfdlbnnkojbaaGreatDoorDecE
import Derived.Test.YtepfdlbnnkojbaaGreatDoorDecF
import Derived.Test.YtepfdlbnnkojbaaGreatDoorDecG
import Derived.Test.YtepfdlbnnkojbaaGreatDoorDecM
import Derived.Test.YtepfdlbnnkojbaaGreatDoorAns
namespace Go.Proofs.YtepfdlbnnkojbaaGreatDoor
open Go.RowKit
set_option linter.unusedVariables false
set_option linter.unusedSimpArgs false


theorem l2One_step (f d : Nat) (s : ByteArray) (k : Nat) (w : World) (hk : k ≤ s.size) (hs : s.size ≤ 4000) (hd : d ≤ 20)
    (hrec : d < 20 → ∀ j w, j ≤ s.size → Calls Tryz.prog 15 #[.string s, .int .i64 (j : Int), .int .i64 ((d : Int) + 1)] w fun e w' => RvSaid (J.oneR f (d + 1) s j) w.heap.size e w' ∧ Below w.heap.size w w') :
    Calls Tryz.prog 15 #[.string s, .int .i64 k, .int .i64 d] w fun e w' => RvSaid (J.oneR (f + 1) d s k) w.heap.size e w' ∧ Below w.heap.size w w' := by
  by_cases hend : s.size ≤ k
  · exact l2One_end f d s k w hk hs hd hend
  by_cases hdeep : d = 20
  · exact l2One_deep f d s k w hk hs hd (by omega) hdeep
  by_cases x1 : J.peek s k = 110
  · exact l2One_null f d s k w hk hs hd (by omega) (by omega) x1
  by_cases x2 : J.peek s k = 102
  · exact l2One_false f d s k w hk hs hd (by omega) (by omega) x2
  by_cases x3 : J.peek s k = 116
  · exact l2One_true f d s k w hk hs hd (by omega) (by omega) x3
  by_cases x4 : J.peek s k = 91
  · exact l2One_arr f d s k w hk hs hd (by omega) (by omega) x4 (hrec (by omega))
  by_cases x5 : J.peek s k = 123
  · exact l2One_obj f d s k w hk hs hd (by omega) (by omega) x5 (hrec (by omega))
  by_cases x6 : J.peek s k = 34
  · exact l2One_str f d s k w hk hs hd (by omega) (by omega) x6
  exact l2One_num f d s k w hk hs hd (by omega) (by omega) x1 x2 x3 x4 x5 x6
/-- A value, however deep. -/
theorem l2One_says (s : ByteArray) (hs : s.size ≤ 4000) (f : Nat) : ∀ d, f + d = 21 → d ≤ 20 → ∀ (k : Nat) (w : World), k ≤ s.size →
    Calls Tryz.prog 15 #[.string s, .int .i64 (k : Int), .int .i64 (d : Int)] w fun e w' => RvSaid (J.oneR f d s k) w.heap.size e w' ∧ Below w.heap.size w w' := by
  induction f with
  | zero => intro d h1 h2; omega
  | succ f ih =>
    intro d h1 h2 k w hk
    exact l2One_step f d s k w hk hs h2 fun hd j w hj => ih (d + 1) (by omega) (by omega) j w hj

end Go.Proofs.YtepfdlbnnkojbaaGreatDoor

namespace Go.Proofs.YtepfdlbnnkojbaaGreatDoor
open Go.RowKit
set_option linter.unusedVariables false
set_option linter.unusedSimpArgs false


/-- The call told the code, the place and the cells of out, these in memory of their own. -/
def AnsR (w : World) (out : Int × Int × List M.Cl) (e : Ending) (w' : World) : Prop := ∃ sv, e = .returned (.agg #[.int .i64 out.1, .int .i64 out.2.1, sv]) ∧ Res w' w.heap.size sv out.2.2 ∧ Below w.heap.size w w'
theorem ansr_of {w w' : World} {out : Int × Int × List M.Cl} {c p : Int} {sv : Value} {l : List M.Cl} (fin : out = (c, p, l)) (hr : Res w' w.heap.size sv l) (hb : Below w.heap.size w w') : AnsR w out (.returned (.agg #[.int .i64 c, .int .i64 p, sv])) w' := by
  subst fin; exact ⟨sv, rfl, hr, hb⟩
theorem sets3 {w w2 : World} (h : Below w.heap.size w w2) (x y z : Value) : Below w.heap.size w (((w2.setCell ⟨w.heap.size, 0, none⟩ x).setCell ⟨w.heap.size, 1, none⟩ y).setCell ⟨w.heap.size, 2, none⟩ z) := ((h.setCell (Nat.le_refl _) _).setCell (Nat.le_refl _) _).setCell (Nat.le_refl _) _
theorem Res.sets3 {w : World} {C b : Nat} {s : Value} {l : List M.Cl} (h : Res w C s l) (hb : b < C) (x0 x1 x2 : Value) : Res (((w.setCell ⟨b, 0, none⟩ x0).setCell ⟨b, 1, none⟩ x1).setCell ⟨b, 2, none⟩ x2) C s l := by
  have hp : ∀ p : Addr, p.block = b → ∀ c, s.ownBlock = some c → c ≠ p.block := fun p hp c hc e => by have := h.base c hc; omega
  exact ((h.setOther _ x0 (hp _ rfl)).setOther _ x1 (hp _ rfl)).setOther _ x2 (hp _ rfl)


end Go.Proofs.YtepfdlbnnkojbaaGreatDoor

namespace Go.Proofs.YtepfdlbnnkojbaaGreatDoor
open Go.RowKit
set_option linter.unusedVariables false
set_option linter.unusedSimpArgs false


set_option maxRecDepth 100000 in
set_option maxHeartbeats 4000000 in
theorem spec_DecodeValue (s : ByteArray) (w : World) (hs : s.size ≤ 1048576) : Calls Tryz.prog 5 #[.string s] w (AnsR w (J.decOut s)) := by
  obtain ⟨w0, hw0⟩ : ∃ w0, w0 = w.alloc (.cells #[.int .i64 0, .int .i64 0, .slice none 0 0] 24) := ⟨_, rfl⟩
  have B0 : Below w.heap.size w w0 := by rw [hw0]; exact (Below.refl _ _).alloc (Nat.le_refl _) _
  have O0 : Own w0 w.heap.size 24 [.int .i64 0, .int .i64 0, .slice none 0 0] := by rw [hw0]; exact ⟨_, heap_alloc_new _ _, rfl⟩
  by_cases hbig : 4000 < s.size
  · have fin := hide (show J.decOut s = (2, 0, []) by unfold J.decOut; rw [if_pos hbig])
    have hbz : (4000 : Int) < (s.size : Int) := by omega
    clear hbig hw0 B0 O0
    go_enter Tryz.func5, Tryz.ntmps5
    go_wp2_with fail
    refine bodyPost_ret (v := .agg #[.int .i64 2, .int .i64 0, .slice none 0 0]) (by simp [results, Tryz.results5, go_sem]; try rfl) rfl (ansr_of (unhide fin) (resNil _ _) ((Below.refl _ _).alloc (Nat.le_refl _) _))
  have hbz : ¬ (4000 : Int) < (s.size : Int) := by omega
  have hsk := J.skip_le s 0 (Nat.zero_le _)
  have HSK := hide (fun w => l2Skip_any s 0 w (Nat.zero_le _) hs)
  have HONE := hide (fun w => l2One_says s (by omega) 21 0 rfl (by decide) (J.skip s 0) w hsk)
  have HFIT := hide (J.oneR_fit s 21 0 (J.skip s 0) hsk)
  have HOUT := hide (show J.decOut s = (match J.oneR 21 0 s (J.skip s 0) with | .inl (c, p) => (c, (p : Int), []) | .inr (v, e) => if J.skip s e < s.size then (5, (J.skip s e : Int), []) else if 200 < v.length then (2, 0, []) else (0, 0, v)) by unfold J.decOut; rw [if_neg hbig]; rfl)
  generalize J.oneR 21 0 s (J.skip s 0) = R1 at *
  generalize J.decOut s = OUT at *
  generalize J.skip s 0 = K0 at *
  clear hbig
  go_enter Tryz.func5, Tryz.ntmps5
  go_wp2_with fail
  try (rw [show (w.alloc (.cells #[.int .i64 0, .int .i64 0, .slice none 0 0] 24)) = w0 from hw0.symm])
  clear hw0
  refine ((unhide HSK) _).mono ?_
  rintro e wk ⟨rfl, hwk⟩
  rw [hwk]
  clear hwk
  go_wp2_with fail
  refine ((unhide HONE) _).mono ?_
  rintro e w1 ⟨hS, hb1⟩
  have B1 : Below w.heap.size w w1 := B0.trans (hb1.mono B0.size)
  have O1 := O0.below hb1 O0.lt
  rcases hS with ⟨l, m, sv, tx, hq, rfl, hr⟩ | ⟨c, m, hq, rfl⟩
  · rw [hq] at HOUT HFIT
    obtain ⟨f1, f2, f3, f4⟩ := unhide HFIT
    have HSK2 := hide (fun w => l2Skip_any s m w f2 hs)
    have hskm := J.skip_le s m f2
    have hr1 : Res w1 w0.heap.size sv l := hr
    have hs0 := O0.lt
    obtain ⟨a, n, cp, rfl, hn⟩ : ∃ a n cp, sv = .slice a n cp ∧ n = l.length := by
      obtain ⟨_, ⟨rfl, rfl⟩ | ⟨b, cap, rfl, _⟩⟩ := hr
      · exact ⟨_, _, _, rfl, rfl⟩
      · exact ⟨_, _, _, rfl, rfl⟩
    have O2 := hide (fun o => O1.alloc o)
    have B2 := hide (fun o => B1.alloc B1.size o)
    have FR := hide (fun o x0 x1 x2 => ((hr1.alloc o).sets3 hs0 x0 x1 x2).mono (Nat.le_of_lt hs0))
    have hlen : n ≤ 4000 := by omega
    have HOUT := hide (show OUT = (if J.skip s m < s.size then (5, (J.skip s m : Int), []) else if 200 < l.length then (2, 0, []) else (0, 0, l)) from unhide HOUT)
    generalize J.skip s m = q at *
    clear hr hr1 hq hb1 O0 B0 HSK HONE
    by_cases hend : q < s.size
    · have fin := hide ((unhide HOUT).trans (if_pos hend))
      have hez : (q : Int) < (s.size : Int) := by omega
      have c0 : ∀ o, (w1.alloc o).cell? ⟨w.heap.size, 0, none⟩ = some (.int .i64 0) := fun o => ((unhide O2) o).cell 0
      have c1 : ∀ o, (w1.alloc o).cell? ⟨w.heap.size, 1, none⟩ = some (.int .i64 0) := fun o => ((unhide O2) o).cell 1
      have c2 : ∀ o, (w1.alloc o).cell? ⟨w.heap.size, 2, none⟩ = some (.slice none 0 0) := fun o => ((unhide O2) o).cell 2
      have z0 : ∀ o, (w1.alloc o).frozen? ⟨w.heap.size, 0, none⟩ = false := fun o => ((unhide O2) o).frozen 0
      have z1 : ∀ o, (w1.alloc o).frozen? ⟨w.heap.size, 1, none⟩ = false := fun o => ((unhide O2) o).frozen 1
      have z2 : ∀ o, (w1.alloc o).frozen? ⟨w.heap.size, 2, none⟩ = false := fun o => ((unhide O2) o).frozen 2
      go_wp2_with fail
      refine ((unhide HSK2) _).mono ?_
      rintro e wk ⟨rfl, hwk⟩
      rw [hwk]
      clear hwk
      go_wp2_with fail
      refine bodyPost_ret (v := .agg #[.int .i64 5, .int .i64 (q : Int), .slice none 0 0]) (by simp [results, Tryz.results5, go_sem, c0, c1, c2]; try rfl) rfl (ansr_of (unhide fin) (resNil _ _) (sets3 ((unhide B2) _) _ _ _))
    · have hez : ¬ (q : Int) < (s.size : Int) := by omega
      have c0 : ∀ o, (w1.alloc o).cell? ⟨w.heap.size, 0, none⟩ = some (.int .i64 0) := fun o => ((unhide O2) o).cell 0
      have c1 : ∀ o, (w1.alloc o).cell? ⟨w.heap.size, 1, none⟩ = some (.int .i64 0) := fun o => ((unhide O2) o).cell 1
      have c2 : ∀ o, (w1.alloc o).cell? ⟨w.heap.size, 2, none⟩ = some (.slice none 0 0) := fun o => ((unhide O2) o).cell 2
      have z0 : ∀ o, (w1.alloc o).frozen? ⟨w.heap.size, 0, none⟩ = false := fun o => ((unhide O2) o).frozen 0
      have z1 : ∀ o, (w1.alloc o).frozen? ⟨w.heap.size, 1, none⟩ = false := fun o => ((unhide O2) o).frozen 1
      have z2 : ∀ o, (w1.alloc o).frozen? ⟨w.heap.size, 2, none⟩ = false := fun o => ((unhide O2) o).frozen 2
      by_cases hmany : 200 < l.length
      · have fin := hide (((unhide HOUT).trans (if_neg hend)).trans (if_pos hmany))
        have hmz : (200 : Int) < (n : Int) := by omega
        clear hn hmany hend
        go_wp2_with fail
        refine ((unhide HSK2) _).mono ?_
        rintro e wk ⟨rfl, hwk⟩
        rw [hwk]
        clear hwk
        go_wp2_with fail
        refine bodyPost_ret (v := .agg #[.int .i64 2, .int .i64 0, .slice none 0 0]) (by simp [results, Tryz.results5, go_sem, c0, c1, c2]; try rfl) rfl (ansr_of (unhide fin) (resNil _ _) (sets3 ((unhide B2) _) _ _ _))
      · have fin := hide (((unhide HOUT).trans (if_neg hend)).trans (if_neg hmany))
        have hmz : ¬ (200 : Int) < (n : Int) := by omega
        clear hn hmany hend
        go_wp2_with fail
        refine ((unhide HSK2) _).mono ?_
        rintro e wk ⟨rfl, hwk⟩
        rw [hwk]
        clear hwk
        go_wp2_with fail
        refine bodyPost_ret (v := .agg #[.int .i64 0, .int .i64 0, .slice a n cp]) (by simp [results, Tryz.results5, go_sem, c0, c1, c2]; try rfl) rfl (ansr_of (unhide fin) ((unhide FR) _ _ _ _) (sets3 ((unhide B2) _) _ _ _))
  · rw [hq] at HOUT HFIT
    have fin := hide (unhide HOUT)
    have hc0 : (c != 0) = true := by have := (unhide HFIT).1; simpa using this
    have O2 := hide (fun o => O1.alloc o)
    have B2 := hide (fun o => B1.alloc B1.size o)
    have c0 : ∀ o, (w1.alloc o).cell? ⟨w.heap.size, 0, none⟩ = some (.int .i64 0) := fun o => ((unhide O2) o).cell 0
    have c1 : ∀ o, (w1.alloc o).cell? ⟨w.heap.size, 1, none⟩ = some (.int .i64 0) := fun o => ((unhide O2) o).cell 1
    have c2 : ∀ o, (w1.alloc o).cell? ⟨w.heap.size, 2, none⟩ = some (.slice none 0 0) := fun o => ((unhide O2) o).cell 2
    have z0 : ∀ o, (w1.alloc o).frozen? ⟨w.heap.size, 0, none⟩ = false := fun o => ((unhide O2) o).frozen 0
    have z1 : ∀ o, (w1.alloc o).frozen? ⟨w.heap.size, 1, none⟩ = false := fun o => ((unhide O2) o).frozen 1
    have z2 : ∀ o, (w1.alloc o).frozen? ⟨w.heap.size, 2, none⟩ = false := fun o => ((unhide O2) o).frozen 2
    clear hq hb1 O0 B0 HSK HONE
    go_wp2_with fail
    refine bodyPost_ret (v := .agg #[.int .i64 c, .int .i64 (m : Int), .slice none 0 0]) (by simp [results, Tryz.results5, go_sem, c0, c1, c2]; try rfl) rfl (ansr_of (unhide fin) (resNil _ _) (sets3 ((unhide B2) _) _ _ _))

end Go.Proofs.YtepfdlbnnkojbaaGreatDoor
