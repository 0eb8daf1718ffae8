/-
  SameRuns: both sides answer whether the codes and the lists are the same.
-/
import Derived.Test.YtmbefapdckhjdaaCmpQ
import Derived.Test.YtmbefapdckhjdaaLibS
import Derived.Deep.RegionHeld3
namespace Go.Proofs.Ytmbefapdckhjdaa
open Go.RowKit
set_option linter.unusedVariables false
set_option linter.unusedSimpArgs false

namespace Sr
/-- The first k are the same. -/
def upto (ps qs : List (List M.Cl)) (k : Nat) : Prop := ∀ j, j < k → sameOut (ps.getD j []) (qs.getD j []) = true
def same (c d : Int) (ps qs : List (List M.Cl)) : Prop := c = d ∧ ps.length = qs.length ∧ upto ps qs ps.length
theorem upto_succ {ps qs : List (List M.Cl)} {k : Nat} (h : upto ps qs k) (h1 : sameOut (ps.getD k []) (qs.getD k []) = true) : upto ps qs (k + 1) := fun j hj => by
  by_cases e : j = k
  · subst e; exact h1
  · exact h j (by omega)
end Sr
def efPost (ps qs : List (List M.Cl)) (w : World) (e : Ending) (w' : World) : Prop := (∃ q : Bool, e = .returned (.bool q) ∧ (q = true ↔ ps.length = qs.length ∧ Sr.upto ps qs ps.length)) ∧ Below w.heap.size w w'
theorem efPost_mk {ps qs : List (List M.Cl)} {w w' : World} (q : Bool) (h : q = true ↔ ps.length = qs.length ∧ Sr.upto ps qs ps.length) (hb : Below w.heap.size w w') : efPost ps qs w (.returned (.bool q)) w' := ⟨⟨q, rfl, h⟩, hb⟩
set_option maxRecDepth 100000 in
set_option maxHeartbeats 2000000 in
theorem equalFunc_any (g h : Nat) (ps qs : List (List M.Cl)) (w : World) (hL : LR w g ps) (hL2 : LR w h qs) (hn : ps.length ≤ 1048576) (hn2 : qs.length ≤ 1048576) (ht : tot ps ps.length ≤ 1048576) (ht2 : tot qs qs.length ≤ 1048576) (hok : OkS ps) (hok2 : OkS qs) :
    Calls Try.prog 33 #[.slice (some ⟨g, 0, none⟩) ps.length ps.length, .slice (some ⟨h, 0, none⟩) qs.length qs.length, .func (.func 34) #[] #[]] w (efPost ps qs w) := by
  have H := hide hL
  have H2 := hide hL2
  have OK := hide hok
  have OK2 := hide hok2
  have HT := hide ht
  have HT2 := hide ht2
  clear hL hL2 hok hok2 ht ht2
  by_cases hl : ps.length = qs.length
  · have HL := hide hl
    have hlb : ((ps.length : Int) != (qs.length : Int)) = false := by simp [hl]
    clear hl
    go_enter Try.func33, Try.ntmps33
    go_wp2_with fail
    go_loopg [17] ps.length (fun gh s17 wr => ∃ k : Nat, Hid (gh = ps.length - k) ∧ s17 = .int .i64 k ∧ k ≤ ps.length ∧ Hid (Sr.upto ps qs k) ∧ Below w.heap.size w wr)
    case atStart => exact ⟨0, rfl, rfl, by omega, fun j hj => absurd hj (by omega), Below.refl _ _⟩
    case round =>
      obtain ⟨k, hg, rfl, hk, hall, hbel⟩ := hrel
      by_cases hlt : k < ps.length
      · have hlt2 : k < qs.length := by have := unhide HL; omega
        obtain ⟨b, f0, hb, hr⟩ := ((unhide H).below hbel).2 k hlt
        obtain ⟨b', f0', hb', hr'⟩ := ((unhide H2).below hbel).2 k hlt2
        have hq := Nat.le_trans (len_le ps k hlt) (unhide HT)
        have hq' := Nat.le_trans (len_le qs k hlt2) (unhide HT2)
        have HC := hide (implSame_any (ps.getD k []) (qs.getD k []) b 0 (ps.getD k []).length b' 0 (qs.getD k []).length wr hr hb hq (Nat.le_refl _) ((unhide OK) k hlt) hr' hb' hq' (Nat.le_refl _) ((unhide OK2) k hlt2))
        clear hr hr'
        have hnext := hide (fun e => Sr.upto_succ hall.out (k := k) e)
        have hbad := hide (fun (e : sameOut (ps.getD k []) (qs.getD k []) = false) => show ¬ (ps.length = qs.length ∧ Sr.upto ps qs ps.length) from fun h => by have := h.2 k hlt; rw [e] at this; cases this)
        generalize sameOut (ps.getD k []) (qs.getD k []) = q at *
        generalize (ps.getD k []).length = x1 at *
        generalize (qs.getD k []).length = x2 at *
        go_wp2_with fail
        refine (unhide HC).mono ?_
        rintro e7 w7 ⟨rfl, hb7⟩
        have B7 : Below w.heap.size w w7 := hbel.trans (hb7.mono hbel.size)
        clear hb7 f0 f0' HC
        cases q
        · have fin := hide ((unhide hbad) rfl)
          go_wp2_with fail
          go_ret
          exact efPost_mk false ⟨fun h => (by cases h), fun h => absurd h (unhide fin)⟩ (B7)
        · have hn3 := hide ((unhide hnext) rfl)
          go_wp2_with fail
          go_roundg (ps.length - (k + 1))
          case rel => exact ⟨k + 1, rfl, by go_num, by omega, unhide hn3, B7⟩
          case measure => have := hg.out; omega
      · have hke : k = ps.length := by omega
        subst hke
        have fin := hide (show ps.length = qs.length ∧ Sr.upto ps qs ps.length from ⟨unhide HL, hall.out⟩)
        go_wp2_with fail
        go_ret
        exact efPost_mk true ⟨fun _ => unhide fin, fun _ => rfl⟩ (hbel)
  · have hlb : ((ps.length : Int) != (qs.length : Int)) = true := by simp; omega
    go_enter Try.func33, Try.ntmps33
    go_wp2_with fail
    go_ret
    exact efPost_mk false ⟨fun h => (by cases h), fun h => absurd h.1 hl⟩ (Below.refl _ _)

def srPost (c c' : Int) (ps qs : List (List M.Cl)) (w : World) (e : Ending) (w' : World) : Prop := (∃ q : Bool, e = .returned (.bool q) ∧ (q = true ↔ Sr.same c c' ps qs)) ∧ Below w.heap.size w w'
theorem srPost_mk {c c' : Int} {ps qs : List (List M.Cl)} {w w' : World} (q : Bool) (h : q = true ↔ Sr.same c c' ps qs) (hb : Below w.heap.size w w') : srPost c c' ps qs w (.returned (.bool q)) w' := ⟨⟨q, rfl, h⟩, hb⟩

set_option maxRecDepth 100000 in
set_option maxHeartbeats 2000000 in
theorem implSameRuns_any (c d c' d' : Int) (g h : Nat) (ps qs : List (List M.Cl)) (w : World) (hL : LR w g ps) (hL2 : LR w h qs) (hn : ps.length ≤ 1048576) (hn2 : qs.length ≤ 1048576) (ht : tot ps ps.length ≤ 1048576) (ht2 : tot qs qs.length ≤ 1048576) (hok : OkS ps) (hok2 : OkS qs) :
    Calls Try.prog 17 #[.agg #[.int .i64 c, .int .i64 d, .slice (some ⟨g, 0, none⟩) ps.length ps.length], .agg #[.int .i64 c', .int .i64 d', .slice (some ⟨h, 0, none⟩) qs.length qs.length]] w (srPost c c' ps qs w) := by
  have HE := hide (fun w' (hb : Below w.heap.size w w') => equalFunc_any g h ps qs w' (hL.below hb) (hL2.below hb) hn hn2 ht ht2 hok hok2)
  clear hL hL2 hok hok2 ht ht2
  obtain ⟨w0, hw0⟩ : ∃ w0, w0 = (w.alloc (.cells #[.int .i64 c, .int .i64 d, .slice (some ⟨g, 0, none⟩) ps.length ps.length] 42)).alloc (.cells #[.int .i64 c', .int .i64 d', .slice (some ⟨h, 0, none⟩) qs.length qs.length] 42) := ⟨_, rfl⟩
  have B0 : Below w.heap.size w w0 := by rw [hw0]; exact ((Below.refl _ _).alloc (Nat.le_refl _) _).alloc (by simp) _
  have X0 : Own w0 w.heap.size 42 [.int .i64 c, .int .i64 d, .slice (some ⟨g, 0, none⟩) ps.length ps.length] := by rw [hw0]; exact Own.alloc ⟨_, heap_alloc_new _ _, rfl⟩ _
  have Y0 : Own w0 (w.heap.size + 1) 42 [.int .i64 c', .int .i64 d', .slice (some ⟨h, 0, none⟩) qs.length qs.length] := by rw [hw0]; refine ⟨_, (by rw [show w.heap.size + 1 = (w.alloc (.cells #[.int .i64 c, .int .i64 d, .slice (some ⟨g, 0, none⟩) ps.length ps.length] 42)).heap.size by simp]; exact heap_alloc_new _ _), rfl⟩
  have x0 := X0.cell 0
  have x2 := X0.cell 2
  have y0 := Y0.cell 0
  have y2 := Y0.cell 2
  simp only [List.getElem?_cons_zero, List.getElem?_cons_succ] at x0 x2 y0 y2
  have Z0 : w.heap.size < w0.heap.size := X0.lt
  have Z1 : w.heap.size + 1 < w0.heap.size := Y0.lt
  by_cases hc : c = c'
  · subst hc
    have hcb : (c == c) = true := by simp
    go_enter Try.func17, Try.ntmps17
    go_wp2_with fail
    try rw [← hw0]
    clear hw0
    refine ((unhide HE) w0 B0).mono ?_
    rintro e w1 ⟨⟨q, rfl, hq⟩, hb1⟩
    have fin := hide (show q = true ↔ Sr.same c c ps qs from ⟨fun h => ⟨rfl, hq.1 h⟩, fun h => hq.2 h.2⟩)
    have B1 : Below w.heap.size w w1 := B0.trans (hb1.mono B0.size)
    clear hq
    go_wp2_with fail
    go_ret
    exact srPost_mk q (unhide fin) (B1)
  · have hcb : (c == c') = false := by simp [hc]
    go_enter Try.func17, Try.ntmps17
    go_wp2_with fail
    try rw [← hw0]
    clear hw0
    go_ret
    exact srPost_mk false (⟨fun h => (by cases h), fun h => absurd h.1 hc⟩) (B0)

set_option maxRecDepth 100000 in
set_option maxHeartbeats 2000000 in
theorem specSameRuns_any (c d c' d' : Int) (g h : Nat) (ps qs : List (List M.Cl)) (w : World) (hL : LR w g ps) (hL2 : LR w h qs) (hn : ps.length ≤ 1048576) (hn2 : qs.length ≤ 1048576) (ht : tot ps ps.length ≤ 1048576) (ht2 : tot qs qs.length ≤ 1048576) (hok : OkS ps) (hok2 : OkS qs) :
    Calls Try.prog 15 #[.agg #[.int .i64 c, .int .i64 d, .slice (some ⟨g, 0, none⟩) ps.length ps.length], .agg #[.int .i64 c', .int .i64 d', .slice (some ⟨h, 0, none⟩) qs.length qs.length]] w (srPost c c' ps qs w) := by
  have H := hide hL
  have H2 := hide hL2
  have OK := hide hok
  have OK2 := hide hok2
  have HT := hide ht
  have HT2 := hide ht2
  clear hL hL2 hok hok2 ht ht2
  obtain ⟨w0, hw0⟩ : ∃ w0, w0 = (w.alloc (.cells #[.int .i64 c, .int .i64 d, .slice (some ⟨g, 0, none⟩) ps.length ps.length] 42)).alloc (.cells #[.int .i64 c', .int .i64 d', .slice (some ⟨h, 0, none⟩) qs.length qs.length] 42) := ⟨_, rfl⟩
  have B0 : Below w.heap.size w w0 := by rw [hw0]; exact ((Below.refl _ _).alloc (Nat.le_refl _) _).alloc (by simp) _
  have X0 : Own w0 w.heap.size 42 [.int .i64 c, .int .i64 d, .slice (some ⟨g, 0, none⟩) ps.length ps.length] := by rw [hw0]; exact Own.alloc ⟨_, heap_alloc_new _ _, rfl⟩ _
  have Y0 : Own w0 (w.heap.size + 1) 42 [.int .i64 c', .int .i64 d', .slice (some ⟨h, 0, none⟩) qs.length qs.length] := by rw [hw0]; refine ⟨_, (by rw [show w.heap.size + 1 = (w.alloc (.cells #[.int .i64 c, .int .i64 d, .slice (some ⟨g, 0, none⟩) ps.length ps.length] 42)).heap.size by simp]; exact heap_alloc_new _ _), rfl⟩
  have x0 := X0.cell 0
  have x2 := X0.cell 2
  have y0 := Y0.cell 0
  have y2 := Y0.cell 2
  simp only [List.getElem?_cons_zero, List.getElem?_cons_succ] at x0 x2 y0 y2
  have Z0 : w.heap.size < w0.heap.size := X0.lt
  have Z1 : w.heap.size + 1 < w0.heap.size := Y0.lt
  by_cases hc : c = c'
  · subst hc
    have hcb : (c != c) = false := by simp
    by_cases hl : ps.length = qs.length
    · have HL := hide hl
      have hlb : ((ps.length : Int) != (qs.length : Int)) = false := by simp [hl]
      clear hl
      go_enter Try.func15, Try.ntmps15
      go_wp2_with fail
      try rw [← hw0]
      clear hw0
      go_loopg [5] ps.length (fun gh s5 wr => ∃ k : Nat, Hid (gh = ps.length - k) ∧ s5 = .int .i64 k ∧ k ≤ ps.length ∧ Hid (Sr.upto ps qs k) ∧ Below w0.heap.size w0 wr)
      case atStart => exact ⟨0, rfl, rfl, by omega, fun j hj => absurd hj (by omega), Below.refl _ _⟩
      case round =>
        obtain ⟨k, hg, rfl, hk, hall, hbel⟩ := hrel
        have m2 := (hbel.cell Z0).trans x2
        have n2 := (hbel.cell Z1).trans y2
        have BK : Below w.heap.size w wr := B0.trans (hbel.mono B0.size)
        by_cases hlt : k < ps.length
        · have hlt2 : k < qs.length := by have := unhide HL; omega
          have hltI : (k : Int) < (ps.length : Int) := by omega
          have hltI2 : (k : Int) < (qs.length : Int) := by omega
          obtain ⟨b, f0, hb, hr⟩ := ((unhide H).below BK).2 k hlt
          obtain ⟨b', f0', hb', hr'⟩ := ((unhide H2).below BK).2 k hlt2
          have hq := Nat.le_trans (len_le ps k hlt) (unhide HT)
          have hq' := Nat.le_trans (len_le qs k hlt2) (unhide HT2)
          have HC := hide (specSame_any (ps.getD k []) (qs.getD k []) b 0 (ps.getD k []).length b' 0 (qs.getD k []).length wr.drew hr hb hq (Nat.le_refl _) ((unhide OK) k hlt) hr' hb' hq' (Nat.le_refl _) ((unhide OK2) k hlt2))
          clear hr hr'
          have hnext := hide (fun e => Sr.upto_succ hall.out (k := k) e)
          have hbad := hide (fun (e : sameOut (ps.getD k []) (qs.getD k []) = false) => show ¬ Sr.same c c ps qs from fun h => by have := h.2.2 k hlt; rw [e] at this; cases this)
          generalize sameOut (ps.getD k []) (qs.getD k []) = q at *
          generalize (ps.getD k []).length = x1 at *
          generalize (qs.getD k []).length = x2 at *
          go_wp2_with fail
          go_region_with (go_at_call 31; refine (unhide HC).mono ?_; rintro e7 w7 ⟨rfl, hb7⟩)
          all_goals
            have B7 : Below w0.heap.size w0 w7 := hbel.drew.trans (hb7.mono (by exact hbel.size))
            clear hb7
            cases q
            · have fin := hide ((unhide hbad) rfl)
              go_wp2_with fail
              go_ret
              exact srPost_mk false (⟨fun h => (by cases h), fun h => absurd h (unhide fin)⟩) (B0.trans (B7.mono B0.size))
            · have hn3 := hide ((unhide hnext) rfl)
              go_wp2_with fail
              go_roundg (ps.length - (k + 1))
              case rel => exact ⟨k + 1, rfl, by go_num, by omega, unhide hn3, B7⟩
              case measure => have := hg.out; omega
        · have hke : k = ps.length := by omega
          subst hke
          have fin := hide (show Sr.same c c ps qs from ⟨rfl, unhide HL, hall.out⟩)
          go_wp2_with fail
          go_ret
          exact srPost_mk true (⟨fun _ => unhide fin, fun _ => rfl⟩) (BK)
    · have hlb : ((ps.length : Int) != (qs.length : Int)) = true := by simp; omega
      go_enter Try.func15, Try.ntmps15
      go_wp2_with fail
      try rw [← hw0]
      clear hw0
      go_ret
      exact srPost_mk false (⟨fun h => (by cases h), fun h => absurd h.2.1 hl⟩) (B0)
  · have hcb : (c != c') = true := by simp [hc]
    go_enter Try.func15, Try.ntmps15
    go_wp2_with fail
    try rw [← hw0]
    clear hw0
    go_ret
    exact srPost_mk false (⟨fun h => (by cases h), fun h => absurd h.1 hc⟩) (B0)

end Go.Proofs.Ytmbefapdckhjdaa
