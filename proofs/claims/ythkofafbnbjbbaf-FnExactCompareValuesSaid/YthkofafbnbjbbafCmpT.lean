/-
  spec.l1Lists and spec.l1Compare, by induction on the length of the first value.
-/
import Derived.Test.YthkofafbnbjbbafCmpS
namespace Go.Proofs.Ythkofafbnbjbbaf
open Go.RowKit
set_option linter.unusedVariables false

/-- What is promised of spec.l1Compare for values of at most f cells. -/
def CmpSays (f : Nat) : Prop := ∀ (A C : List M.Cl) (b off cap b' off' cap' : Nat) (w : World), M.valueFault A = 0 → M.valueFault C = 0 → A.length ≤ f → Row w b off A → b < w.heap.size → A.length ≤ cap → (∀ c ∈ A, c.ok) → Row w b' off' C → b' < w.heap.size → C.length ≤ cap' → (∀ c ∈ C, c.ok) →
  Calls Try.prog 47 #[.slice (some ⟨b, off, none⟩) A.length cap, .slice (some ⟨b', off', none⟩) C.length cap'] w fun e w' => e = .returned (.int .i64 (cmpL f A C)) ∧ Below w.heap.size w w'

set_option maxRecDepth 100000 in
set_option maxHeartbeats 2000000 in
theorem l1Lists_none (a a' : Option Addr) (c c' n n' : Nat) (w : World) (h : n = 0 ∨ n' = 0) (hn : n ≤ 200) (hn' : n' ≤ 200) :
    Calls Try.prog 60 #[.slice a n c, .slice a' n' c'] w fun e w' => e = .returned (.int .i64 (lenSign n n')) ∧ Below w.heap.size w w' := by
  have h2 : (n = 0 ∧ n' = 0) ∨ (n = 0 ∧ 0 < n') ∨ (0 < n ∧ n' = 0) := by omega
  clear h
  rcases h2 with ⟨rfl, rfl⟩ | ⟨rfl, h2⟩ | ⟨h2, rfl⟩
  all_goals
    go_enter Try.func60, Try.ntmps60
    go_wp2_with fail
    refine wp_loop_rounds 1 ?_
    rw [rounds_succ]
    go_wp2_with fail
    all_goals
      refine (l1Sign_any _ _ _).mono ?_
      rintro e w1 ⟨rfl, rfl⟩
      go_wp2_with fail
      go_ret
      refine ⟨ret_int ?_, Below.refl _ _⟩
      first | rfl | (unfold signB lenSign; simp; done) | (unfold signB lenSign; simp; omega)

/-- A list among others is in place, and is what it must be. -/
def AllOk (f : Nat) (ps : List (List M.Cl)) : Prop := ∀ i, i < ps.length → M.valueFault (ps.getD i []) = 0 ∧ (ps.getD i []).length ≤ f ∧ ∀ c ∈ ps.getD i [], c.ok

theorem res_some {w : World} {B : Nat} {s : Value} {l : List M.Cl} (h : Res w B s l) (hv : M.valueFault l = 0) : ∃ b cap, s = .slice (some ⟨b, 0, none⟩) l.length cap ∧ l.length ≤ cap ∧ OwnG w b 51 l := by
  obtain ⟨_, ⟨_, rfl⟩ | ⟨b, cap, h1, _, h3, h4⟩⟩ := h
  · have := (M.fault_zero hv).1; simp at this
  · exact ⟨b, cap, h1, h3, h4⟩

set_option maxRecDepth 100000 in
set_option maxHeartbeats 4000000 in
theorem l1Lists_any (f : Nat) (IH : Hid (CmpSays f)) (s s' : Value) (B B' : Nat) (ks ls : List (List M.Cl)) (w : World) (h : SS w B s ks) (h' : SS w B' s' ls) (hn : ks.length ≤ 200) (hn' : ls.length ≤ 200) (hk : AllOk f ks) (hl : AllOk 200 ls) :
    Calls Try.prog 60 #[s, s'] w fun e w' => e = .returned (.int .i64 (lex (cmpL f) ks ls)) ∧ Below w.heap.size w w' := by
  by_cases hz : ks.length = 0 ∨ ls.length = 0
  · have fin := lex_end (cmpL f) [] ks ls 0 (fun j hj => absurd hj (by omega)) (by omega)
    obtain ⟨ss, _, h2, _⟩ := h
    obtain ⟨ss', _, h2', _⟩ := h'
    obtain ⟨a, c, rfl⟩ := shape_len h2
    obtain ⟨a', c', rfl⟩ := shape_len h2'
    rw [fin]
    exact l1Lists_none a a' c c' _ _ w hz hn hn'
  have HS := hide (sign_len ks.length ls.length)
  have HK := hide h
  have HL := hide h'
  have HOK := hide hk
  have HOL := hide hl
  obtain ⟨ss, hs1, hs2, hs3⟩ := h
  obtain ⟨ss', hs1', hs2', hs3'⟩ := h'
  rcases ownsRow_form hs2 with ⟨h0, _⟩ | ⟨hp, g, c, rfl, hgc, hgb⟩
  · omega
  rcases ownsRow_form hs2' with ⟨h0, _⟩ | ⟨hp', g', c', rfl, hgc', hgb'⟩
  · omega
  have HO := hide hs2
  have HO' := hide hs2'
  have HR := hide hs3
  have HR' := hide hs3'
  have HL1 := hide hs1
  have HL1' := hide hs1'
  clear hz hk hl hs1 hs2 hs3 hs1' hs2' hs3'
  go_enter Try.func60, Try.ntmps60
  go_wp2_with fail
  go_loopg [5] ks.length (fun gn s5 wr => ∃ i : Nat, Hid (gn = ks.length - i) ∧ s5 = .int .i64 i ∧ i ≤ ks.length ∧ i ≤ ls.length ∧ Hid (∀ j, j < i → cmpL f (ks.getD j []) (ls.getD j []) = 0) ∧ Below w.heap.size w wr)
  case atStart => exact ⟨0, rfl, rfl, by omega, by omega, fun j hj => absurd hj (by omega), Below.refl _ _⟩
  case round =>
    obtain ⟨i, hg, rfl, hi, hi', hall, hbel⟩ := hrel
    by_cases hlt : i < ks.length
    · by_cases hlt' : i < ls.length
      · have f1 := (ownsRow_below (B := 0) (unhide HO) hbel).cellAt i (by omega)
        have f2 := (ownsRow_below (B := 0) (unhide HO') hbel).cellAt i (by omega)
        have q1 := ((unhide HR) i hlt).below hbel
        have q2 := ((unhide HR') i hlt').below hbel
        obtain ⟨k1, k2, k3⟩ := (unhide HOK) i hlt
        obtain ⟨l1, l2, l3⟩ := (unhide HOL) i hlt'
        obtain ⟨b1, c1, e1, d1, o1⟩ := res_some q1 k1
        obtain ⟨b2, c2, e2, d2, o2⟩ := res_some q2 l1
        have g1 : ss[i]? = some (.slice (some ⟨b1, 0, none⟩) (ks.getD i []).length c1) := by
          have hl := unhide HL1
          rw [List.getElem?_eq_getElem (by omega)]
          rw [List.getD_eq_getElem?_getD, List.getElem?_eq_getElem (by omega)] at e1
          simpa using e1
        have g2 : ss'[i]? = some (.slice (some ⟨b2, 0, none⟩) (ls.getD i []).length c2) := by
          have hl := unhide HL1'
          rw [List.getElem?_eq_getElem (by omega)]
          rw [List.getD_eq_getElem?_getD, List.getElem?_eq_getElem (by omega)] at e2
          simpa using e2
        rw [g1] at f1
        rw [g2] at f2
        have hhit := hide (lex_hit (cmpL f) [] ks ls i hall.out hlt hlt')
        have hnext := hide (fun (h0 : cmpL f (ks.getD i []) (ls.getD i []) = 0) j (hj : j < i + 1) => show cmpL f (ks.getD j []) (ls.getD j []) = 0 by
          by_cases e : j = i
          · subst e; exact h0
          · exact hall.out j (by omega))
        have HC := hide (fun w' (hb : Below wr.heap.size wr w') => (unhide IH) (ks.getD i []) (ls.getD i []) b1 0 c1 b2 0 c2 w' k1 l1 k2 (o1.row.below hb o1.lt) (Nat.lt_of_lt_of_le o1.lt hb.size) d1 k3 (o2.row.below hb o2.lt) (Nat.lt_of_lt_of_le o2.lt hb.size) d2 l3)
        clear q1 q2 k1 k2 k3 l1 l2 l3 e1 e2 d1 d2 o1 o2 g1 g2
        have HBR := hide (Below.refl wr.heap.size wr).drew
        generalize ks.getD i [] = x at *
        generalize ls.getD i [] = y at *
        have hltI : (i : Int) < (ks.length : Int) := by omega
        have hltI' : (i : Int) < (ls.length : Int) := by omega
        go_wp2_with fail
        go_region_with (go_at_call 47; refine ((unhide HC) _ (unhide HBR)).mono ?_; rintro e w1 ⟨rfl, hb1⟩)
        all_goals
          have B1 : Below w.heap.size w w1 := hbel.drew.trans (hb1.mono (by exact hbel.size))
          clear hb1
          generalize hq : cmpL f x y = q at *
          by_cases hz : q = 0
          · subst hz
            have hn2 := hide ((unhide hnext) rfl)
            clear hhit hnext hq
            go_wp2_with fail
            go_roundg (ks.length - (i + 1))
            case rel => exact ⟨i + 1, rfl, by go_num, by omega, by omega, unhide hn2, B1⟩
            case measure => have := hg.out; omega
          · have fin := hide ((unhide hhit) hz)
            have hz' : (q == 0) = false := by simp [hz]
            clear hhit hnext hq
            go_wp2_with fail
            go_ret
            exact ⟨ret_int (unhide fin).symm, B1⟩
      · have fin := hide (lex_end (cmpL f) [] ks ls i hall.out (.inr (by omega)))
        go_wp2_with fail
        refine (l1Sign_any _ _ _).mono ?_
        rintro e w1 ⟨rfl, rfl⟩
        go_wp2_with fail
        go_ret
        exact ⟨ret_int ((unhide HS).trans (unhide fin).symm), hbel⟩
    · have fin := hide (lex_end (cmpL f) [] ks ls i hall.out (.inl (by omega)))
      go_wp2_with fail
      refine (l1Sign_any _ _ _).mono ?_
      rintro e w1 ⟨rfl, rfl⟩
      go_wp2_with fail
      go_ret
      exact ⟨ret_int ((unhide HS).trans (unhide fin).symm), hbel⟩

end Go.Proofs.Ythkofafbnbjbbaf
