/-
  What the law of all parts calls.
-/
import Derived.Test.YthbiclpifeobkaaQ43
import Derived.Test.YthbiclpifeobkaaQ49
import Derived.Test.YthbiclpifeobkaaQ51
namespace Go.Proofs.Ythbiclpifeobkaa
open Go.RowKit Go.ChangeShapes Go.WideShapes
set_option linter.unusedVariables false
set_option linter.unusedSimpArgs false

theorem fldVR (x : Int) (a : Option Addr) (n c : Nat) (w : World) : (Instr.field 41 (.agg #[.int .i64 x, .slice a n c]) 0).run Try.prog w = .ok (.int .i64 x) w := by kernel_rfl
set_option maxRecDepth 100000 in
set_option maxHeartbeats 4000000 in
theorem drawDeep_any (a : Option Addr) (len cap : Nat) (w : World) (hB : Byts w a len cap) (hl : len ≤ 1048600) : Calls Try.prog 31 #[.slice a len cap] w fun e w' => ∃ s l, e = .returned s ∧ Dv.Got w' w.heap.size s l ∧ Below w.heap.size w w' := by
  have HS := hide (l1Source_any a len cap w hB.2 hB.1 hl)
  clear hB
  go_enter Try.func31, Try.ntmps31
  go_wp2_with fail
  refine (unhide HS).mono ?_
  rintro e w1 ⟨rfl, S1, B1⟩
  go_wp2_with fail
  refine (l1Bent_any w.heap.size len cap 0 a w1 S1 (by omega)).mono ?_
  rintro e w2 ⟨s, l, at2, rfl, hr, hl3, hok, S2, _, T2, g, gc, rfl⟩
  have BF : Below w.heap.size w w2 := B1.trans (T2.below B1.size (Nat.le_refl _))
  have HG := hide (show Dv.Got w2 w.heap.size (.slice (some ⟨g, 0, none⟩) l.length gc) l from ⟨⟨g, gc, rfl⟩, hr.mono B1.size, hl3, hok⟩)
  clear hr hok S1 S2 T2
  go_wp2_with fail
  go_ret
  exact ⟨_, l, rfl, unhide HG, BF⟩
set_option maxRecDepth 100000 in
set_option maxHeartbeats 4000000 in
theorem doDeep_any (v : List M.Cl) (b off cap : Nat) (w : World) (hrow : Row w b off v) (hb : b < w.heap.size) (hn : v.length ≤ 1048576) (hcap : v.length ≤ cap) (hok : ∀ c ∈ v, c.ok) (hv : M.valueFault v = 0) :
    Calls Try.prog 34 #[.int .i64 7, .slice (some ⟨b, off, none⟩) v.length cap] w (Ans w (deepOut v)) := by
  have OK := hide hok
  have B0 : ∀ o, Below w.heap.size w (w.alloc o) := fun o => (Below.refl _ _).alloc (Nat.le_refl _) o
  have HB0 := hide B0
  clear B0 hok
  go_enter Try.func34, Try.ntmps34
  go_wp2_with fail
  refine (implFault_any v b off cap _ (hrow.below ((unhide HB0) _) hb) (by simp; omega) hn hcap (unhide OK)).mono ?_
  rintro e1 w1 ⟨rfl, hb1⟩
  have hR : Own w1 w.heap.size 41 [.int .i64 0, .slice none 0 0] := Own.below ⟨_, heap_alloc_new _ _, rfl⟩ hb1 (by simp)
  have B1 : Below w.heap.size w w1 := ((unhide HB0) _).trans (hb1.mono (by simp))
  have hrow1 := hrow.below B1 hb
  have hb1' : b < w1.heap.size := Nat.lt_of_lt_of_le hb B1.size
  clear hb1
  rw [hv]
  have HG := hide (implDeepOf_any v b off cap w1 hrow1 hb1' hn hcap (unhide OK))
  clear hv OK hrow1 hrow
  generalize deepOut v = R at *
  obtain ⟨rc, rl⟩ := R
  go_wp2_with fail
  refine (unhide HG).mono ?_
  rintro ec wc ⟨sc, rfl, hrc, hbc⟩
  have hRc := hR.below hbc hR.lt
  have r0 := hRc.cell 0
  have r1 := hRc.cell 1
  have z0 := hRc.frozen 0
  have z1 := hRc.frozen 1
  simp only [List.getElem?_cons_zero, List.getElem?_cons_succ] at r0 r1
  have HE := hide (Ans.store hrc B1 hR.lt hbc)
  obtain ⟨ac, mc, cc, rfl⟩ := hrc.shape
  clear hrc hbc
  go_wp2_with fail
  refine bodyPost_ret (v := .agg #[.int .i64 rc, .slice ac mc cc]) (by simp [results, Try.results34, go_sem, r0, r1]) rfl (ans_of rfl ((unhide HE) _ _).1 ((unhide HE) _ _).2)
namespace Dv
section
variable {W V : World} {B : Nat} {s : Value} {l : List M.Cl}
theorem dpi (G : Got W B s l) (hV : Below W.heap.size W V) {q : Int} {r : List M.Cl} (hq : deepOut l = (q, r)) : Calls Try.prog 32 #[s] V fun e V' => ∃ s', e = .returned (.agg #[.int .i64 q, s']) ∧ Res V' V.heap.size s' r ∧ Below V.heap.size V V' := by
  obtain ⟨g, gc, rfl, hg, hc, hr⟩ := G.at
  refine (implDeepOf_any l g 0 gc V (hr.below hV hg) (Nat.lt_of_lt_of_le hg hV.size) (by have := G.2.2.1; omega) hc G.2.2.2).mono fun e V' h => ?_
  rw [hq] at h
  exact h
theorem dps (G : Got W B s l) (hV : Below W.heap.size W V) {q : Int} {r : List M.Cl} (hq : deepOut l = (q, r)) : Calls Try.prog 33 #[s] V fun e V' => ∃ s', e = .returned (.agg #[.int .i64 q, s']) ∧ Res V' V.heap.size s' r ∧ Below V.heap.size V V' := by
  obtain ⟨g, gc, rfl, hg, hc, hr⟩ := G.at
  refine (specDeepOf_any l g 0 gc V (hr.below hV hg) (Nat.lt_of_lt_of_le hg hV.size) (by have := G.2.2.1; omega) hc G.2.2.2).mono fun e V' h => ?_
  rw [hq] at h
  exact h
theorem dpd (G : Got W B s l) (hV : Below W.heap.size W V) (hv : M.valueFault l = 0) {q : Int} {r : List M.Cl} (hq : deepOut l = (q, r)) : Calls Try.prog 34 #[.int .i64 7, s] V fun e V' => ∃ s', e = .returned (.agg #[.int .i64 q, s']) ∧ Res V' V.heap.size s' r ∧ Below V.heap.size V V' := by
  obtain ⟨g, gc, rfl, hg, hc, hr⟩ := G.at
  refine (doDeep_any l g 0 gc V (hr.below hV hg) (Nat.lt_of_lt_of_le hg hV.size) (by have := G.2.2.1; omega) hc G.2.2.2 hv).mono fun e V' h => ?_
  rw [hq] at h
  exact h
theorem pti (G : Got W B s l) (hV : Below W.heap.size W V) {k : Nat} {q : Int} {r : List M.Cl} (hq : partOut l k = (q, r)) : Calls Try.prog 19 #[s, .int .i64 k] V fun e V' => ∃ s', e = .returned (.agg #[.int .i64 q, s']) ∧ Res V' V.heap.size s' r ∧ Below V.heap.size V V' := by
  obtain ⟨g, gc, rfl, hg, hc, hr⟩ := G.at
  refine (implPartAt_any l g 0 gc k V (hr.below hV hg) (Nat.lt_of_lt_of_le hg hV.size) (by have := G.2.2.1; omega) hc G.2.2.2).mono fun e V' h => ?_
  rw [hq] at h
  exact h
end
/-- The parts as the law holds them. -/
structure Ld (w : World) (g r c : Nat) (xs : List Value) (β γ : Nat → Nat) (l : List M.Cl) : Prop where
  res : Own w r 33 [.int .i64 0, .slice (some ⟨g, 0, none⟩) l.length c]
  row : Own w g 24 xs
  at_ : ∀ i, i < l.length → xs[i]? = some (.slice (some ⟨β i, 0, none⟩) (part l i).length (γ i)) ∧ (part l i).length ≤ γ i ∧ β i < w.heap.size ∧ Row w (β i) 0 (part l i)
theorem Ld.below {w w' : World} {g r c : Nat} {xs : List Value} {β γ : Nat → Nat} {l : List M.Cl} (h : Ld w g r c xs β γ l) (hb : Below w.heap.size w w') : Ld w' g r c xs β γ l :=
  ⟨h.res.below hb h.res.lt, h.row.below hb h.row.lt, fun i hi => ⟨(h.at_ i hi).1, (h.at_ i hi).2.1, Nat.lt_of_lt_of_le (h.at_ i hi).2.2.1 hb.size, (h.at_ i hi).2.2.2.below hb (h.at_ i hi).2.2.1⟩⟩
theorem Ld.cell {w : World} {g r c : Nat} {xs : List Value} {β γ : Nat → Nat} {l : List M.Cl} (h : Ld w g r c xs β γ l) {i : Nat} (hi : i < l.length) : w.cell? ⟨g, i, none⟩ = some (.slice (some ⟨β i, 0, none⟩) (part l i).length (γ i)) := (h.row.cell i).trans (h.at_ i hi).1
end Dv

end Go.Proofs.Ythbiclpifeobkaa
