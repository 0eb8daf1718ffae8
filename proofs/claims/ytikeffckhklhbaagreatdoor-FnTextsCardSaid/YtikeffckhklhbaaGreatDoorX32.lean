/-
  (*scalarReader).number.
  The reader of values: what a call leaves of it, and of rows that are built beside it.
  impl: the key of a member and its colon.
-/
import Derived.Test.YtikeffckhklhbaaGreatDoorX02
import Derived.Test.YtikeffckhklhbaaGreatDoorX28
import Derived.Test.YtikeffckhklhbaaGreatDoorX29
import Derived.Test.YtikeffckhklhbaaGreatDoorX31
namespace Go.Proofs.YtikeffckhklhbaaGreatDoor
open Go.RowKit
set_option linter.unusedVariables false
set_option linter.unusedSimpArgs false

/-- A number behind which no part of a fraction stands. -/
def J.numberR (s : ByteArray) (k : Nat) : (Int × Nat) ⊕ (Int × Nat) :=
  match J.wholeR s k with
  | .inl e => .inl e
  | .inr (v, m) => if J.peek s m = 46 ∨ J.peek s m = 101 ∨ J.peek s m = 69 then .inl (3, m) else .inr (v, m)
theorem J.numberR_no {s : ByteArray} {k : Nat} {p : Int × Nat} (h : J.wholeR s k = .inl p) : J.numberR s k = .inl p := by unfold J.numberR; rw [h]
theorem J.numberR_frac {s : ByteArray} {k m : Nat} {v : Int} (h : J.wholeR s k = .inr (v, m)) (hp : J.peek s m = 46 ∨ J.peek s m = 101 ∨ J.peek s m = 69) : J.numberR s k = .inl (3, m) := by unfold J.numberR; rw [h]; simp only; rw [if_pos hp]
theorem J.numberR_yes {s : ByteArray} {k m : Nat} {v : Int} (h : J.wholeR s k = .inr (v, m)) (hp : ¬ (J.peek s m = 46 ∨ J.peek s m = 101 ∨ J.peek s m = 69)) : J.numberR s k = .inr (v, m) := by unfold J.numberR; rw [h]; simp only; rw [if_neg hp]

set_option maxRecDepth 100000 in
set_option maxHeartbeats 1000000 in
theorem number_any (b : Nat) (t : TypeId) (s : ByteArray) (k : Nat) (rest : List Value) (w : World) (h : Rd w b t s k rest) (hk : k ≤ s.size) (hs : s.size ≤ 1048576) (ev : Value) (hev : ev = .nilIface ∨ ∃ te pe, ev = .iface te pe) (hG : 6 < w.heap.size) (hGb : 6 ≠ b) (hv : w.cell? ⟨6, 0, none⟩ = some ev) : Calls Tryz.prog 91 #[.pointer (some ⟨b, 0, none⟩)] w fun e w' => NumbLeft b t s rest (J.numberR s k) e w' ∧ Tch w.heap.size b w w' := by
  go_enter Tryz.func91, Tryz.ntmps91
  go_wp2_with fail
  refine (wholeNumber_any b t s k rest _ h hk hs ev hev hG hGb hv).mono ?_
  rintro e w1 ⟨hleft, ht1⟩
  clear h hv hG
  rcases hleft with ⟨c, m, hm, rfl, hms, hr1⟩ | ⟨c, m, q, hm, rfl, hq, hr1⟩
  · have HF := hide (J.numberR_frac (v := c) hm)
    have HY := hide (J.numberR_yes (v := c) hm)
    clear hm
    go_wp2_with fail
    refine (peek_any b t s m rest _ hr1 hms hs).mono ?_
    rintro e w2 ⟨rfl, q2, hw2⟩
    have hr2 : Rd w2 b t s m rest := by rw [hw2]; exact hr1.drewN q2
    have ht2 : Tch w.heap.size b w w2 := by rw [hw2]; exact ht1.drewN q2
    clear hw2 hr1 ht1
    have g1 := fun q => show (w2.drewN q).cell? ⟨b, 1, none⟩ = some (.int .i64 m) from hr2.cell 1
    generalize J.peek s m = x at *
    by_cases h1 : x = 46
    · have HR := hide ((unhide HF) (.inl h1))
      subst h1
      clear HF HY
      go_wp2_with fail
      go_quiet (fail)
      go_wp2_with fail
      go_ret2
      exact ⟨.inr ⟨3, m, m, unhide HR, rfl, hms, hr2.drewN _⟩, ht2.drewN _⟩
    by_cases h2 : x = 101
    · have HR := hide ((unhide HF) (.inr (.inl h2)))
      subst h2
      clear HF HY
      go_wp2_with fail
      go_quiet (fail)
      go_wp2_with fail
      go_ret2
      exact ⟨.inr ⟨3, m, m, unhide HR, rfl, hms, hr2.drewN _⟩, ht2.drewN _⟩
    by_cases h3 : x = 69
    · have HR := hide ((unhide HF) (.inr (.inr h3)))
      subst h3
      clear HF HY
      go_wp2_with fail
      go_quiet (fail)
      go_wp2_with fail
      go_ret2
      exact ⟨.inr ⟨3, m, m, unhide HR, rfl, hms, hr2.drewN _⟩, ht2.drewN _⟩
    · have HR := hide ((unhide HY) (by omega))
      have e1 : (x == 46) = false := by simpa using h1
      have e2 : (x == 101) = false := by simpa using h2
      have e3 : (x == 69) = false := by simpa using h3
      clear HF HY h1 h2 h3
      go_wp2_with fail
      go_ret2
      exact ⟨.inl ⟨c, m, unhide HR, rfl, hms, hr2⟩, ht2⟩
  · have HR := hide (J.numberR_no hm)
    clear hm
    go_wp2_with fail
    go_ret2
    exact ⟨.inr ⟨c, m, q, unhide HR, rfl, hq, hr1⟩, ht1⟩

end Go.Proofs.YtikeffckhklhbaaGreatDoor

namespace Go.Proofs.YtikeffckhklhbaaGreatDoor
open Go.RowKit
set_option linter.unusedVariables false
set_option linter.unusedSimpArgs false

/-- The library's variable that strconv.ParseInt reads. -/
def ErrCell (w : World) (b : Nat) : Prop := ∃ ev : Value, (ev = .nilIface ∨ ∃ te pe, ev = .iface te pe) ∧ 6 < w.heap.size ∧ 6 ≠ b ∧ w.cell? ⟨6, 0, none⟩ = some ev
theorem ErrCell.tch {w w' : World} {b B : Nat} (h : ErrCell w b) (ht : Tch B b w w') (hB : w.heap.size ≤ B) : ErrCell w' b := by
  obtain ⟨ev, h1, h2, h3, h4⟩ := h
  exact ⟨ev, h1, Nat.lt_of_lt_of_le h2 ht.size, h3, (ht.cell 6 0 (by omega) h3).trans h4⟩
/-- The reader stands at place k, d deep; of what was there ahead of the call only its own block turned. -/
structure Vs (w wr : World) (b : Nat) (s : ByteArray) (k d : Nat) : Prop where
  rd : Rd wr b 49 s k [.int .i64 (d : Int)]
  tch : Tch w.heap.size b w wr
theorem Vs.start {w : World} {b : Nat} {s : ByteArray} {k d : Nat} (h : Rd w b 49 s k [.int .i64 (d : Int)]) : Vs w w b s k d := ⟨h, Tch.refl _ _ _⟩
theorem Vs.go {w wr w2 : World} {b : Nat} {s : ByteArray} {k k2 d : Nat} (h : Vs w wr b s k d) (hr : Rd w2 b 49 s k2 [.int .i64 (d : Int)]) (ht : Tch wr.heap.size b wr w2) : Vs w w2 b s k2 d := ⟨hr, h.tch.trans (ht.mono h.tch.size)⟩
theorem Vs.drewN {w wr : World} {b : Nat} {s : ByteArray} {k d : Nat} (h : Vs w wr b s k d) (q : Nat) : Vs w (wr.drewN q) b s k d := ⟨h.rd.drewN q, h.tch.drewN q⟩
theorem Vs.step {w wr : World} {b : Nat} {s : ByteArray} {k d : Nat} (h : Vs w wr b s k d) : Vs w (wr.setCell ⟨b, 1, none⟩ (.int .i64 ((k : Int) + 1))) b s (k + 1) d := ⟨h.rd.step, h.tch.trans (Tch.set _ _ _ _ _)⟩
theorem Vs.below {w wr w2 : World} {b : Nat} {s : ByteArray} {k d : Nat} (h : Vs w wr b s k d) (hb : Below wr.heap.size wr w2) : Vs w w2 b s k d := ⟨h.rd.below hb h.rd.lt, h.tch.trans (Tch.of_below (hb.mono h.tch.size))⟩
theorem Vs.alloc {w wr : World} {b : Nat} {s : ByteArray} {k d : Nat} (h : Vs w wr b s k d) (o : Obj) : Vs w (wr.alloc o) b s k d := h.below ((Below.refl _ _).alloc (Nat.le_refl _) o)
theorem Vs.grown {w wr w2 : World} {b : Nat} {s : ByteArray} {k d : Nat} {row : Option Nat} (h : Vs w wr b s k d) (hb : b < w.heap.size) (hg : wr.grownBy w2 row) (hr : ∀ k, row = some k → w.heap.size ≤ k) : Vs w w2 b s k d := ⟨h.rd.grown hg (fun e => by have := hr b e; omega), h.tch.grown hg h.tch.size hr⟩
theorem Vs.err {w wr : World} {b : Nat} {s : ByteArray} {k d : Nat} (h : Vs w wr b s k d) (he : ErrCell w b) : ErrCell wr b := he.tch h.tch (Nat.le_refl _)
theorem Vs.trans {w wr w2 : World} {b : Nat} {s : ByteArray} {k k2 d : Nat} (h : Vs w wr b s k d) (h2 : Vs wr w2 b s k2 d) : Vs w w2 b s k2 d := h.go h2.rd h2.tch
theorem res_tch {w w' : World} {b B C : Nat} {s : Value} {l : List M.Cl} (h : Res w C s l) (ht : Tch B b w w') (hB : w.heap.size ≤ B) (hb : b < C) : Res w' C s l := by
  obtain ⟨hn, h | ⟨g, cap, h1, h2, h3, ⟨ys, ⟨c, hc, e⟩, h5⟩⟩⟩ := h
  · exact ⟨hn, .inl h⟩
  · exact ⟨hn, .inr ⟨g, cap, h1, h2, h3, ⟨ys, ⟨c, (ht.block g (Nat.lt_of_lt_of_le (Array.getElem?_eq_some_iff.1 hc).1 hB) (by omega)).trans hc, e⟩, h5⟩⟩⟩
theorem Dc.Rw.tch {wr w2 : World} {b B C : Nat} {sk sl : Value} {ks : List ByteArray} {ps : List (List M.Cl)} (h : Dc.Rw wr C sk sl ks ps) (ht : Tch B b wr w2) (hB : wr.heap.size ≤ B) (hb : b < C) : Dc.Rw w2 C sk sl ks ps := by
  obtain ⟨hk, ⟨ss, hl, ho, hr⟩⟩ := h
  exact ⟨ht.owns hk hB hb, ⟨ss, hl, ht.owns ho hB hb, fun i hi => res_tch (hr i hi) ht hB hb⟩⟩
/-- What a reader of a value leaves: 'at_' tells where it stands behind one that ends at m. -/
def VLeft (at_ : Nat → Nat) (R : J.Rv) (w : World) (b : Nat) (s : ByteArray) (d : Nat) (e : Ending) (w' : World) : Prop :=
  (∃ v m sv, R = .inr (v, m) ∧ e = .returned (.tuple #[sv, .nilIface]) ∧ Res w' w.heap.size sv v ∧ Vs w w' b s (at_ m) d) ∨ (∃ (c : Int) (m q : Nat) (a : Option Addr) (n cp : Nat), R = .inl (c, m) ∧ e = .returned (.tuple #[.slice a n cp, .iface 55 (.agg #[.int .i64 c, .int .i64 (m : Int)])]) ∧ q ≤ s.size ∧ Vs w w' b s q d)

end Go.Proofs.YtikeffckhklhbaaGreatDoor

namespace Go.Proofs.YtikeffckhklhbaaGreatDoor
open Go.RowKit
set_option linter.unusedVariables false
set_option linter.unusedSimpArgs false

def KLeft (R : (Int × Nat) ⊕ (ByteArray × Nat)) (w : World) (b : Nat) (s : ByteArray) (d : Nat) (e : Ending) (w' : World) : Prop :=
  (∃ key m, R = .inr (key, m) ∧ e = .returned (.tuple #[.string key, .nilIface]) ∧ Vs w w' b s m d) ∨ (∃ (c : Int) (m q : Nat), R = .inl (c, m) ∧ e = .returned (.tuple #[.string ByteArray.empty, .iface 55 (.agg #[.int .i64 c, .int .i64 (m : Int)])]) ∧ q ≤ s.size ∧ Vs w w' b s q d)
set_option maxRecDepth 100000 in
set_option maxHeartbeats 2000000 in
theorem key_any (b d : Nat) (s : ByteArray) (k : Nat) (w : World) (h : Rd w b 49 s k [.int .i64 (d : Int)]) (hk : k ≤ s.size) (hs : s.size ≤ 4000) :
    Calls Tryz.prog 106 #[.pointer (some ⟨b, 0, none⟩)] w (KLeft (J.keyR s (J.skip s k)) w b s d) := by
  have hs' : s.size ≤ 1048576 := by omega
  have V0 := Vs.start h
  have hsk := J.skip_le s k hk
  have HKR := hide (show J.keyR s (J.skip s k) = (match J.quotR s (J.skip s k) with | .inl p => .inl p | .inr (l, e) => if J.peek s (J.skip s e) = 58 then .inr (⟨l.toArray⟩, J.skip s e + 1) else .inl (5, J.skip s e)) from rfl)
  generalize J.keyR s (J.skip s k) = RR at *
  go_enter Tryz.func106, Tryz.ntmps106
  go_wp2_with fail
  refine (skipBlanks_any b 49 s k _ _ h hk hs').mono ?_
  rintro e w1 ⟨rfl, hr1, ht1⟩
  have V1 := V0.go hr1 ht1
  clear h V0 hr1 ht1
  go_wp2_with fail
  refine (quoted_any b 49 s (J.skip s k) _ _ V1.rd hsk hs').mono ?_
  rintro e w2 ⟨hleft, ht2⟩
  rcases hleft with ⟨l, m, hm, rfl, hms, hr2⟩ | ⟨c, m, q, hm, rfl, hq, hr2⟩
  · have V2 := V1.go hr2 ht2
    rw [hm] at HKR
    have hsm := J.skip_le s m hms
    clear V1 hr2 ht2 hm
    go_wp2_with fail
    refine (skipBlanks_any b 49 s m _ _ V2.rd hms hs').mono ?_
    rintro e w3 ⟨rfl, hr3, ht3⟩
    have V3 := V2.go hr3 ht3
    clear V2 hr3 ht3
    by_cases hc : J.peek s (J.skip s m) = 58
    · have fin := hide ((unhide HKR).trans (if_pos hc))
      go_wp2_with fail
      refine (take_yes b 49 s (J.skip s m) 58 _ _ V3.rd hs' (by decide) hc).mono ?_
      rintro e w4 ⟨rfl, hr4, ht4⟩
      have V4 := V3.go hr4 ht4
      clear V3 hr4 ht4
      go_wp2_with fail
      go_ret2
      exact .inl ⟨_, _, unhide fin, rfl, V4⟩
    · have fin := hide ((unhide HKR).trans (if_neg hc))
      go_wp2_with fail
      refine (take_no b 49 s (J.skip s m) 58 _ _ V3.rd hsm hs' hc).mono ?_
      rintro e w4 ⟨rfl, q4, hw4⟩
      have V4 : Vs w w4 b s (J.skip s m) d := by rw [hw4]; exact V3.drewN q4
      clear V3 hw4
      go_wp2_with fail
      refine (stuck_any b 49 s (J.skip s m) _ _ V4.rd).mono ?_
      rintro e w5 ⟨rfl, hr5, ht5⟩
      have V5 := V4.go hr5 ht5
      clear V4 hr5 ht5
      go_wp2_with fail
      go_ret2
      exact .inr ⟨5, _, _, unhide fin, rfl, hsm, V5⟩
  · have V2 := V1.go hr2 ht2
    rw [hm] at HKR
    have fin := hide (unhide HKR)
    clear V1 hr2 ht2 hm HKR
    go_wp2_with fail
    go_ret2
    exact .inr ⟨c, m, q, unhide fin, rfl, hq, V2⟩

end Go.Proofs.YtikeffckhklhbaaGreatDoor
