/-
  What the law of sorting calls.
-/
import Derived.Test.YtmeofjefhkdbgaaQ43
import Derived.Test.YtmeofjefhkdbgaaQ44
import Derived.Test.YtmeofjefhkdbgaaQ50
import Derived.Test.YtmeofjefhkdbgaaQ51
namespace Go.Proofs.Ytmeofjefhkdbgaa
open Go.RowKit Go.ChangeShapes Go.WideShapes
set_option linter.unusedVariables false
set_option linter.unusedSimpArgs false

theorem fldVR (x : Int) (a : Option Addr) (n c : Nat) (w : World) : (Instr.field 27 (.agg #[.int .i64 x, .slice a n c]) 0).run Try.prog w = .ok (.int .i64 x) w := by kernel_rfl
theorem fldPR1 (x : Int) (a : Option Addr) (n c : Nat) (w : World) : (Instr.field 31 (.agg #[.int .i64 x, .slice a n c]) 1).run Try.prog w = .ok (.slice a n c) w := by kernel_rfl
set_option maxRecDepth 100000 in
set_option maxHeartbeats 4000000 in
theorem drawSort_any (a : Option Addr) (len cap : Nat) (w : World) (hB : Byts w a len cap) (hl : len ≤ 1048600) : Calls Try.prog 6 #[.slice a len cap] w fun e w' => ∃ s l, e = .returned s ∧ Dv.Got w' w.heap.size s l ∧ Below w.heap.size w w' := by
  have HS := hide (l1Source_any a len cap w hB.2 hB.1 hl)
  clear hB
  go_enter Try.func6, Try.ntmps6
  go_wp2_with fail
  refine (unhide HS).mono ?_
  rintro e w1 ⟨rfl, S1, B1⟩
  go_wp2_with fail
  refine (l1Bent_any w.heap.size len cap 0 a w1 S1 (by omega)).mono ?_
  rintro e w2 ⟨s, l, at2, rfl, hr, hl3, hok, S2, _, T2, g, gc, rfl⟩
  have BF : Below w.heap.size w w2 := B1.trans (T2.below B1.size (Nat.le_refl _))
  have HG := hide (show Dv.Got w2 w.heap.size (.slice (some ⟨g, 0, none⟩) l.length gc) l from ⟨⟨g, gc, rfl⟩, hr.mono B1.size, hl3, hok⟩)
  clear hr hok S1 S2 T2
  go_wp2_with fail
  go_ret
  exact ⟨_, l, rfl, unhide HG, BF⟩
theorem So.prlv {w : World} {lo hi : Nat} {s : Value} {ps : List (List M.Cl)} (h : PR w lo hi s ps) : ∃ a c, s = .slice a ps.length c ∧ ps.length ≤ c ∧ LV w a ps := by
  rcases h with ⟨rfl, rfl⟩ | ⟨g, cap, xs, β, γ, h1, h2, h3, h4, h5, h6, _⟩
  · exact ⟨none, 0, rfl, Nat.le_refl _, fun i hi => absurd hi (by simp)⟩
  · refine ⟨_, cap, h1, h2, fun i hi => ?_⟩
    obtain ⟨k1, k2, k3, k4, k5, k6⟩ := h6 i hi
    exact ⟨g, β i, 0, γ i, rfl, h5.lt, (h5.cell i).trans k1, k2, k6.lt, k6.row⟩
/-- EachOf of a value that lies anywhere. -/
theorem So.each (v : List M.Cl) (b off cap : Nat) (w : World) (hrow : Row w b off v) (hb : b < w.heap.size) (hn : v.length ≤ 1048576) (hcap : v.length ≤ cap) (hok : ∀ c ∈ v, c.ok) {q : Int} {ps : List (List M.Cl)} (hq : eachOut v = (q, ps)) : Calls Try.prog 9 #[.slice (some ⟨b, off, none⟩) v.length cap] w fun e w' => ∃ a c, e = .returned (.agg #[.int .i64 q, .slice a ps.length c]) ∧ ps.length ≤ c ∧ LV w' a ps ∧ Below w.heap.size w w' := by
  refine (implEachOf_any v b off cap w hrow hb hn hcap hok).mono fun e w' h => ?_
  rw [hq] at h
  obtain ⟨s', rfl, hp, hb⟩ := h
  obtain ⟨a, c, rfl, h1, h2⟩ := So.prlv hp
  exact ⟨a, c, rfl, h1, h2, hb⟩
theorem Res.rowedD {w : World} {B : Nat} {s : Value} {l : List M.Cl} (h : Res w B s l) (hne : l ≠ []) : ∃ b cap, s = .slice (some ⟨b, 0, none⟩) l.length cap ∧ l.length ≤ cap ∧ b < w.heap.size ∧ Row w b 0 l := by
  obtain ⟨_, ⟨_, h2⟩ | ⟨c, cc, h3, h4, h5, h6⟩⟩ := h
  · exact absurd h2 hne
  · exact ⟨c, cc, h3, h5, h6.lt, h6.row⟩
theorem So.okOf {c : M.Cl} (h : M.cellCode c = 0) : c.ok := by
  unfold M.cellCode at h
  split at h
  · cases h
  split at h
  · cases h
  split at h
  · cases h
  split at h
  · rename_i h1 h2 h3 h4
    have t1 : c.text.size ≤ 60 := by have := h4.1; unfold M.textOk at this; rw [Bool.and_eq_true, decide_eq_true_eq] at this; exact this.1
    have t2 : c.key.size ≤ 60 := by have := h4.2; unfold M.textOk at this; rw [Bool.and_eq_true, decide_eq_true_eq] at this; exact this.1
    unfold M.Cl.ok
    omega
  · cases h
theorem So.oks {v : List M.Cl} (h : M.valueFault v = 0) : ∀ c ∈ v, c.ok := fun c hc => So.okOf (M.first_zero (M.fault_zero h).2.2.1 c hc)
/-- Two parts at places of lists that were told: their cells, and what SameValues and CompareValues tell of them. -/
theorem So.two {w : World} {a a' : Option Addr} {ps qs : List (List M.Cl)} (h : LV w a ps) (h' : LV w a' qs) {i k : Nat} (hi : i < ps.length) (hk : k < qs.length) (hp : So.Pt (ps.getD i [])) (hq : So.Pt (qs.getD k [])) :
    ∃ g b off c g' b' off' c', a = some ⟨g, 0, none⟩ ∧ a' = some ⟨g', 0, none⟩ ∧ g < w.heap.size ∧ g' < w.heap.size ∧ w.cell? ⟨g, i, none⟩ = some (.slice (some ⟨b, off, none⟩) (ps.getD i []).length c) ∧ w.cell? ⟨g', k, none⟩ = some (.slice (some ⟨b', off', none⟩) (qs.getD k []).length c') ∧
      (∀ V, Below w.heap.size w V → Calls Try.prog 12 #[.slice (some ⟨b, off, none⟩) (ps.getD i []).length c, .slice (some ⟨b', off', none⟩) (qs.getD k []).length c'] V fun e V' => e = .returned (.bool (sameOut (ps.getD i []) (qs.getD k []))) ∧ Below V.heap.size V V') ∧
      (∀ V, Below w.heap.size w V → Calls Try.prog 11 #[.slice (some ⟨b, off, none⟩) (ps.getD i []).length c, .slice (some ⟨b', off', none⟩) (qs.getD k []).length c'] V fun e V' => e = .returned (.int .i64 (cmpOut (ps.getD i []) (qs.getD k []))) ∧ Below V.heap.size V V') := by
  obtain ⟨g, b, off, c, e, h1, h2, h3, h4, h5⟩ := h i hi
  obtain ⟨g', b', off', c', e', h1', h2', h3', h4', h5'⟩ := h' k hk
  refine ⟨g, b, off, c, g', b', off', c', e, e', h1, h1', h2, h2', fun V hV => ?_, fun V hV => ?_⟩
  · exact implSame_any _ _ b off c b' off' c' V (h5.below hV h4) (Nat.lt_of_lt_of_le h4 hV.size) (by have := hp.len; omega) h3 hp.ok (h5'.below hV h4') (Nat.lt_of_lt_of_le h4' hV.size) (by have := hq.len; omega) h3' hq.ok
  · exact implCompare_any _ _ b off c b' off' c' V (h5.below hV h4) (Nat.lt_of_lt_of_le h4 hV.size) (by have := hp.len; omega) h3 hp.ok (h5'.below hV h4') (Nat.lt_of_lt_of_le h4' hV.size) (by have := hq.len; omega) h3' hq.ok
namespace Dv
section
variable {W V : World} {B : Nat} {s : Value} {l : List M.Cl}
theorem eci (G : Got W B s l) (hV : Below W.heap.size W V) {q : Int} {ps : List (List M.Cl)} (hq : eachOut l = (q, ps)) : Calls Try.prog 9 #[s] V fun e V' => ∃ a c, e = .returned (.agg #[.int .i64 q, .slice a ps.length c]) ∧ ps.length ≤ c ∧ LV V' a ps ∧ Below V.heap.size V V' := by
  obtain ⟨g, gc, rfl, hg, hc, hr⟩ := G.at
  refine (implEachOf_any l g 0 gc V (hr.below hV hg) (Nat.lt_of_lt_of_le hg hV.size) (by have := G.2.2.1; omega) hc G.2.2.2).mono fun e V' h => ?_
  rw [hq] at h
  obtain ⟨s', rfl, hp, hb⟩ := h
  obtain ⟨a, c, rfl, h1, h2⟩ := So.prlv hp
  exact ⟨a, c, rfl, h1, h2, hb⟩
theorem soi (G : Got W B s l) (hV : Below W.heap.size W V) {q : Int} {r : List M.Cl} (hq : sortOut l = (q, r)) : Calls Try.prog 7 #[s] V fun e V' => ∃ s', e = .returned (.agg #[.int .i64 q, s']) ∧ Res V' V.heap.size s' r ∧ Below V.heap.size V V' := by
  obtain ⟨g, gc, rfl, hg, hc, hr⟩ := G.at
  refine (implSortOf_any l g 0 gc V (hr.below hV hg) (Nat.lt_of_lt_of_le hg hV.size) (by have := G.2.2.1; omega) hc G.2.2.2).mono fun e V' h => ?_
  rw [hq] at h
  exact h
theorem sos (G : Got W B s l) (hV : Below W.heap.size W V) {q : Int} {r : List M.Cl} (hq : sortOut l = (q, r)) : Calls Try.prog 8 #[s] V fun e V' => ∃ s', e = .returned (.agg #[.int .i64 q, s']) ∧ Res V' V.heap.size s' r ∧ Below V.heap.size V V' := by
  obtain ⟨g, gc, rfl, hg, hc, hr⟩ := G.at
  refine (specSortOf_any l g 0 gc V (hr.below hV hg) (Nat.lt_of_lt_of_le hg hV.size) (by have := G.2.2.1; omega) hc G.2.2.2).mono fun e V' h => ?_
  rw [hq] at h
  exact h
end
end Dv
end Go.Proofs.Ytmeofjefhkdbgaa
