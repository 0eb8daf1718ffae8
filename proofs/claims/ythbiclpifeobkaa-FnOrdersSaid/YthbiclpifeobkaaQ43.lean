/-
  Values that are drawn for a law.
-/
import Derived.Test.YthbiclpifeobkaaQ41
import Derived.Test.YthbiclpifeobkaaQ42
namespace Go.Proofs.Ythbiclpifeobkaa
open Go.RowKit
set_option linter.unusedVariables false
set_option linter.unusedSimpArgs false

namespace Dv
/-- A value that was drawn, as the law holds it. -/
def Got (V : World) (B : Nat) (s : Value) (l : List M.Cl) : Prop := (∃ g gc, s = .slice (some ⟨g, 0, none⟩) l.length gc) ∧ Rs V B s l ∧ l.length ≤ 300 ∧ ∀ c ∈ l, c.ok
theorem rs_below {w w' : World} {B : Nat} {s : Value} {l : List M.Cl} (h : Rs w B s l) (hb : Below w.heap.size w w') : Rs w' B s l := rs_kept h fun b _ h2 => hb.block b h2
theorem Got.below {w w' : World} {B : Nat} {s : Value} {l : List M.Cl} (h : Got w B s l) (hb : Below w.heap.size w w') : Got w' B s l := ⟨h.1, rs_below h.2.1 hb, h.2.2.1, h.2.2.2⟩
theorem Got.at {w : World} {B : Nat} {s : Value} {l : List M.Cl} (h : Got w B s l) : ∃ g gc, s = .slice (some ⟨g, 0, none⟩) l.length gc ∧ g < w.heap.size ∧ l.length ≤ gc ∧ Row w g 0 l := by
  obtain ⟨⟨g, gc, rfl⟩, hr, _, _⟩ := h
  obtain ⟨_, ⟨h1, _⟩ | ⟨b, cap, h1, h2, h3, h4⟩⟩ := hr.res
  · cases h1
  · cases h1
    exact ⟨g, gc, rfl, h4.lt, h3, h4.row⟩
end Dv
set_option maxRecDepth 100000 in
set_option maxHeartbeats 4000000 in
theorem drawTruthy_any (a : Option Addr) (len cap : Nat) (w : World) (hB : Byts w a len cap) (hl : len ≤ 1048600) : Calls Try.prog 10 #[.slice a len cap] w fun e w' => ∃ s l, e = .returned s ∧ Dv.Got w' w.heap.size s l ∧ Below w.heap.size w w' := by
  have HS := hide (l1Source_any a len cap w hB.2 hB.1 hl)
  clear hB
  go_enter Try.func10, Try.ntmps10
  go_wp2_with fail
  refine (unhide HS).mono ?_
  rintro e w1 ⟨rfl, S1, B1⟩
  go_wp2_with fail
  refine (l1Bent_any w.heap.size len cap 0 a w1 S1 (by omega)).mono ?_
  rintro e w2 ⟨s, l, at2, rfl, hr, hl3, hok, S2, _, T2, g, gc, rfl⟩
  have BF : Below w.heap.size w w2 := B1.trans (T2.below B1.size (Nat.le_refl _))
  have HG := hide (show Dv.Got w2 w.heap.size (.slice (some ⟨g, 0, none⟩) l.length gc) l from ⟨⟨g, gc, rfl⟩, hr.mono B1.size, hl3, hok⟩)
  clear hr hok S1 S2 T2
  go_wp2_with fail
  go_ret
  exact ⟨_, l, rfl, unhide HG, BF⟩
set_option maxRecDepth 100000 in
set_option maxHeartbeats 4000000 in
theorem l1Two_any (a : Option Addr) (len cap : Nat) (w : World) (hB : Byts w a len cap) (hl : len ≤ 1048600) : Calls Try.prog 35 #[.slice a len cap] w fun e w' => ∃ s1 l1 s2 l2, e = .returned (.tuple #[s1, s2]) ∧ Dv.Got w' w.heap.size s1 l1 ∧ Dv.Got w' w.heap.size s2 l2 ∧ Below w.heap.size w w' := by
  have HS := hide (l1Source_any a len cap w hB.2 hB.1 hl)
  obtain ⟨i0, hi, hz0, hz1, hz2⟩ := info_parts Try.info44
  clear hB
  go_enter Try.func35, Try.ntmps35
  go_wp2_with fail
  refine (unhide HS).mono ?_
  rintro e w1 ⟨rfl, S1, B1⟩
  go_wp2_with fail
  refine (l1Bent_any w.heap.size len cap 0 a w1 S1 (by omega)).mono ?_
  rintro e w2 ⟨s, l, at2, rfl, hr, hl3, hok, S2, hat2, T2, g, gc, rfl⟩
  have BF : Below w.heap.size w w2 := B1.trans (T2.below B1.size (Nat.le_refl _))
  have hbs : w.heap.size < w1.heap.size := S1.lt
  have h12 := T2.size
  have G2 : Dv.Got w2 w1.heap.size (.slice (some ⟨g, 0, none⟩) l.length gc) l := ⟨⟨g, gc, rfl⟩, hr, hl3, hok⟩
  clear hr S1 T2 HS
  go_wp2_with fail
  refine (l1Chance_any 4 w.heap.size len cap at2 a w2 S2 (by decide) (by omega)).mono ?_
  rintro e w3 ⟨⟨r, rfl⟩, S3, T3⟩
  have G3 : Dv.Got w3 w1.heap.size (.slice (some ⟨g, 0, none⟩) l.length gc) l := ⟨⟨g, gc, rfl⟩, Dv.rs_kept G2.2.1 (Dv.Tch.kept T3 hbs), hl3, hok⟩
  have B3 : Below w.heap.size w w3 := BF.trans (T3.below BF.size (Nat.le_refl _))
  have hs13 : w1.heap.size ≤ w3.heap.size := Nat.le_trans h12 T3.size
  clear G2 S2 T3 BF
  cases r
  · have HB := hide (l1Bent_any w.heap.size len cap _ a w3 S3 (by omega))
    go_wp2_with fail
    refine (unhide HB).mono ?_
    rintro e w4 ⟨s4, l4, at4, rfl, hr4, hl4, hok4, S4, _, T4, g4, gc4, rfl⟩
    have B4 : Below w.heap.size w w4 := B3.trans (T4.below B3.size (Nat.le_refl _))
    have HG1 := hide (show Dv.Got w4 w.heap.size (.slice (some ⟨g, 0, none⟩) l.length gc) l from ⟨⟨g, gc, rfl⟩, (Dv.rs_kept G3.2.1 (Dv.Tch.kept T4 hbs)).mono (by omega), hl3, hok⟩)
    have HG2 := hide (show Dv.Got w4 w.heap.size (.slice (some ⟨g4, 0, none⟩) l4.length gc4) l4 from ⟨⟨g4, gc4, rfl⟩, hr4.mono B3.size, hl4, hok4⟩)
    clear G3 S3 S4 T4 hr4 HB
    go_wp2_with fail
    refine bodyPost_ret (v := .tuple #[.slice (some ⟨g, 0, none⟩) l.length gc, .slice (some ⟨g4, 0, none⟩) l4.length gc4]) (by simp [results, Try.results35, go_sem]; try rfl) rfl ?_
    exact ⟨_, l, _, l4, rfl, unhide HG1, unhide HG2, B4⟩
  · obtain ⟨g', gc', e', hg3, hcp3, hrow⟩ := G3.at
    cases e'
    have HG3 := hide G3
    have hnews := hide (row_words (w := w3.alloc (.cells #[] 44)) (hrow.below ((Below.refl _ _).alloc (Nat.le_refl _) _) hg3))
    have hone := hide (flat_one l)
    have HFL := hide (flat_length l)
    have hown := hide (show (w3.alloc (.cells #[] 44)).ownsRow w.heap.size 44 5 (.slice (some ⟨w3.heap.size, 0, none⟩) 0 0) 0 [] from ⟨rfl, .inr ⟨w3.heap.size, 0, #[], rfl, B3.size, heap_alloc_new _ _, Nat.le_refl _, by simp [maxLen], rfl, rfl⟩⟩)
    have hb63 : 0 + l.length ≤ maxLen := by unfold maxLen; omega
    have hby : (0 + l.length) * 56 ≤ 140737488355328 := by omega
    have hb3s := B3.size
    clear G3 S3 hrow
    go_wp2_with (at_builtin; refine wpList_append_own _ rfl (.tmp 13) (.tmp 14) 24 rfl w.heap.size 44 i0 _ 5 56 Try.underlying24 hi hz0 hz1 hz2 rfl (by decide) _ 0 _ rfl (unhide hown) ⟨g, 0, none⟩ l.length gc (flat l) rfl (unhide HFL) (unhide hnews) (unhide hone) hb63 hby (by simp; omega) ?_)
    intro v' w5 ho5 hg5 h45
    have B5 : Below w.heap.size w w5 := (B3.alloc hb3s _).grown hg5 (by simp; omega) (fun k e => by cases e; exact hb3s)
    have HG1 := hide (show Dv.Got w5 w.heap.size (.slice (some ⟨g, 0, none⟩) l.length gc) l from ⟨⟨g, gc, rfl⟩, (Dv.rs_kept (unhide HG3).2.1 (fun b _ h2 => (hg5.block b (by simp; omega) (fun e => by cases e; exact absurd h2 (Nat.lt_irrefl _))).trans (heap_alloc_old w3 _ h2))).mono (by omega), hl3, hok⟩)
    obtain ⟨g5, gc5, hv5⟩ : ∃ g5 gc5, v' = .slice (some ⟨g5, 0, none⟩) l.length gc5 := by
      obtain ⟨_, ⟨q, _⟩ | ⟨g2, cap2, cur2, q, _⟩⟩ := ho5
      · exact absurd q h45
      · exact ⟨g2, cap2, q⟩
    subst hv5
    have HG2 := hide (show Dv.Got w5 w.heap.size (.slice (some ⟨g5, 0, none⟩) l.length gc5) l from ⟨⟨g5, gc5, rfl⟩, ⟨ho5, by omega⟩, hl3, hok⟩)
    clear ho5 hg5 h45 HG3 hown hnews hone
    go_wp2_with fail
    refine bodyPost_ret (v := .tuple #[.slice (some ⟨g, 0, none⟩) l.length gc, .slice (some ⟨g5, 0, none⟩) l.length gc5]) (by simp [results, Try.results35, go_sem]; try rfl) rfl ?_
    exact ⟨_, l, _, l, rfl, unhide HG1, unhide HG2, B5⟩
set_option maxRecDepth 100000 in
set_option maxHeartbeats 4000000 in
theorem drawCompare_any (a : Option Addr) (len cap : Nat) (w : World) (hB : Byts w a len cap) (hl : len ≤ 1048600) : Calls Try.prog 9 #[.slice a len cap] w fun e w' => ∃ s1 l1 s2 l2, e = .returned (.tuple #[s1, s2]) ∧ Dv.Got w' w.heap.size s1 l1 ∧ Dv.Got w' w.heap.size s2 l2 ∧ Below w.heap.size w w' := by
  have HT := hide (l1Two_any a len cap w hB hl)
  clear hB
  go_enter Try.func9, Try.ntmps9
  go_wp2_with fail
  refine (unhide HT).mono ?_
  rintro e w1 ⟨s1, l1, s2, l2, rfl, G1, G2, B1⟩
  have HG1 := hide G1
  have HG2 := hide G2
  obtain ⟨⟨g1, c1, rfl⟩, _⟩ := G1
  obtain ⟨⟨g2, c2, rfl⟩, _⟩ := G2
  go_wp2_with fail
  refine bodyPost_ret (v := .tuple #[.slice (some ⟨g1, 0, none⟩) l1.length c1, .slice (some ⟨g2, 0, none⟩) l2.length c2]) (by simp [results, Try.results9, go_sem]; try rfl) rfl ?_
  exact ⟨_, l1, _, l2, rfl, unhide HG1, unhide HG2, B1⟩

end Go.Proofs.Ythbiclpifeobkaa
