/-
  spec.l1KeyLists and spec.l1Lists: lists held against one another.
-/
import Derived.Test.YthkofafbnbjbbafCmpM
import Derived.Test.YthkofafbnbjbbafSS
import Derived.Deep.QuietTactic
import Derived.BigQuiet
namespace Go.Proofs.Ythkofafbnbjbbaf
open Go.RowKit
set_option linter.unusedVariables false

/-- What spec.l1Sign answers. -/
def signB (x y : Bool) : Int := if x = true then -1 else if y = true then 1 else 0

set_option maxHeartbeats 400000 in
theorem l1Sign_any (x y : Bool) (w : World) : Calls Try.prog 59 #[.bool x, .bool y] w fun e w' => e = .returned (.int .i64 (signB x y)) ∧ w' = w := by
  cases x <;> cases y
  all_goals
    go_enter Try.func59, Try.ntmps59
    go_wp2
    go_ret
    exact ⟨rfl, rfl⟩

theorem sign_len (a b : Nat) : signB (decide (a < b)) (decide (b < a)) = lenSign a b := by unfold signB lenSign; simp

theorem ownsRow_form {w : World} {base : Nat} {e : TypeId} {v : Value} {n : Nat} {xs : List Value} (h : w.ownsRow base e 1 v n xs) : (n = 0 ∧ ∃ a c, v = .slice a 0 c) ∨ (0 < n ∧ ∃ g c, v = .slice (some ⟨g, 0, none⟩) n c ∧ n ≤ c ∧ base ≤ g) := by
  rcases h.2 with ⟨rfl, rfl⟩ | ⟨g, c, cur, rfl, hg, _, hn, _⟩
  · exact .inl ⟨rfl, _, _, rfl⟩
  · by_cases h0 : n = 0
    · subst h0; exact .inl ⟨rfl, _, _, rfl⟩
    · exact .inr ⟨by omega, g, c, rfl, hn, hg⟩

/-- Which of two slices is the shorter one, told by spec.l1Sign at the end. -/
theorem shape_len {w : World} {base : Nat} {e : TypeId} {v : Value} {n : Nat} {xs : List Value} (h : w.ownsRow base e 1 v n xs) : ∃ a c, v = .slice a n c := by
  rcases ownsRow_form h with ⟨h0, a, c, h⟩ | ⟨_, g, c, h, _⟩
  · exact ⟨a, c, by rw [h, h0]⟩
  · exact ⟨_, c, h⟩

set_option maxRecDepth 100000 in
set_option maxHeartbeats 2000000 in
theorem l1KeyLists_none (a a' : Option Addr) (c c' n n' : Nat) (w : World) (h : n = 0 ∨ n' = 0) (hn : n ≤ 200) (hn' : n' ≤ 200) :
    Calls Try.prog 62 #[.slice a n c, .slice a' n' c'] w fun e w' => e = .returned (.int .i64 (lenSign n n')) ∧ Below w.heap.size w w' := by
  have h2 : (n = 0 ∧ n' = 0) ∨ (n = 0 ∧ 0 < n') ∨ (0 < n ∧ n' = 0) := by omega
  clear h
  rcases h2 with ⟨rfl, rfl⟩ | ⟨rfl, h2⟩ | ⟨h2, rfl⟩
  all_goals
    go_enter Try.func62, Try.ntmps62
    go_wp2_with fail
    refine wp_loop_rounds 1 ?_
    rw [rounds_succ]
    go_wp2_with fail
    all_goals
      refine (l1Sign_any _ _ _).mono ?_
      rintro e w1 ⟨rfl, rfl⟩
      go_wp2_with fail
      go_ret
      refine ⟨ret_int ?_, Below.refl _ _⟩
      first | rfl | (unfold signB lenSign; simp; done) | (unfold signB lenSign; simp; omega)

set_option maxRecDepth 100000 in
set_option maxHeartbeats 4000000 in
theorem l1KeyLists_any (s s' : Value) (B B' : Nat) (ks ls : List ByteArray) (w : World) (h : KS w B s ks) (h' : KS w B' s' ls) (hn : ks.length ≤ 200) (hn' : ls.length ≤ 200) :
    Calls Try.prog 62 #[s, s'] w fun e w' => e = .returned (.int .i64 (lex cmpK ks ls)) ∧ Below w.heap.size w w' := by
  by_cases hz : ks.length = 0 ∨ ls.length = 0
  · have fin := lex_end cmpK ByteArray.empty ks ls 0 (fun j hj => absurd hj (by omega)) (by omega)
    obtain ⟨a, c, rfl⟩ := shape_len h
    obtain ⟨a', c', rfl⟩ := shape_len h'
    rw [fin]
    exact l1KeyLists_none a a' c c' _ _ w hz hn hn'
  have HS := hide (sign_len ks.length ls.length)
  have HK := hide h
  have HL := hide h'
  rcases ownsRow_form h with ⟨h0, _⟩ | ⟨hp, g, c, rfl, hgc, hgb⟩
  · omega
  rcases ownsRow_form h' with ⟨h0, _⟩ | ⟨hp', g', c', rfl, hgc', hgb'⟩
  · omega
  clear hz h h'
  go_enter Try.func62, Try.ntmps62
  go_wp2_with fail
  go_loopg [5] ks.length (fun gn s5 wr => ∃ i : Nat, Hid (gn = ks.length - i) ∧ s5 = .int .i64 i ∧ i ≤ ks.length ∧ i ≤ ls.length ∧ Hid (∀ j, j < i → cmpK (ks.getD j ByteArray.empty) (ls.getD j ByteArray.empty) = 0) ∧ Below w.heap.size w wr)
  case atStart => exact ⟨0, rfl, rfl, by omega, by omega, fun j hj => absurd hj (by omega), Below.refl _ _⟩
  case round =>
    obtain ⟨i, hg, rfl, hi, hi', hall, hbel⟩ := hrel
    by_cases hlt : i < ks.length
    · by_cases hlt' : i < ls.length
      · have f := ((unhide HK).below hbel).cellAt i (by omega)
        have f' := ((unhide HL).below hbel).cellAt i (by omega)
        rw [List.getElem?_map, List.getElem?_eq_getElem hlt, Option.map_some] at f
        rw [List.getElem?_map, List.getElem?_eq_getElem hlt', Option.map_some] at f'
        have ex : ks.getD i ByteArray.empty = ks[i] := by rw [List.getD_eq_getElem?_getD, List.getElem?_eq_getElem hlt]; rfl
        have ey : ls.getD i ByteArray.empty = ls[i] := by rw [List.getD_eq_getElem?_getD, List.getElem?_eq_getElem hlt']; rfl
        have hhit := hide (lex_hit cmpK ByteArray.empty ks ls i hall.out hlt hlt')
        have hnext := hide (fun (h0 : cmpK (ks.getD i ByteArray.empty) (ls.getD i ByteArray.empty) = 0) j (hj : j < i + 1) => show cmpK (ks.getD j ByteArray.empty) (ls.getD j ByteArray.empty) = 0 by
          by_cases e : j = i
          · subst e; exact h0
          · exact hall.out j (by omega))
        rw [ex, ey] at hhit hnext
        clear ex ey
        generalize ks[i] = x at *
        generalize ls[i] = y at *
        have hltI : (i : Int) < (ks.length : Int) := by omega
        have hltI' : (i : Int) < (ls.length : Int) := by omega
        cases heq : (x.toList == y.toList) with
        | true =>
          have hc0 : cmpK x y = 0 := by
            unfold cmpK
            have : x.toList = y.toList := by simpa using heq
            rw [if_neg (by rw [this, bytesLess_irrefl]; simp), if_pos heq]
          have hn2 := hide ((unhide hnext) hc0)
          clear hc0 hhit hnext
          go_wp2_with fail
          go_quiet (fail)
          go_wp2_with fail
          go_roundg (ks.length - (i + 1))
          case rel => exact ⟨i + 1, rfl, by go_num, by omega, by omega, unhide hn2, below_drewN hbel _⟩
          case measure => have := hg.out; omega
        | false =>
          have hne : cmpK x y ≠ 0 := by
            unfold cmpK
            by_cases hb : Op.bytesLess x.toList y.toList = true
            · rw [if_pos hb]; decide
            · rw [if_neg hb, if_neg (by rw [heq]; simp)]; decide
          have hv := (unhide hhit) hne
          have hsg : cmpK x y = signB (Op.bytesLess x.toList y.toList) true := by
            unfold cmpK signB
            rw [heq]; simp
          rw [hsg] at hv
          have fin := hide hv
          clear hv hsg hne hhit hnext
          go_wp2_with fail
          go_quiet (fail)
          go_wp2_with fail
          go_region_with (go_at_call 59; refine (l1Sign_any _ _ _).mono ?_; rintro e w1 ⟨rfl, hw1⟩; subst hw1)
          all_goals
            go_wp2_with fail
            go_ret
            exact ⟨ret_int (unhide fin).symm, (below_drewN hbel _).drew⟩
      · have fin := hide (lex_end cmpK ByteArray.empty ks ls i hall.out (.inr (by omega)))
        go_wp2_with fail
        refine (l1Sign_any _ _ _).mono ?_
        rintro e w1 ⟨rfl, rfl⟩
        go_wp2_with fail
        go_ret
        exact ⟨ret_int ((unhide HS).trans (unhide fin).symm), hbel⟩
    · have fin := hide (lex_end cmpK ByteArray.empty ks ls i hall.out (.inl (by omega)))
      go_wp2_with fail
      refine (l1Sign_any _ _ _).mono ?_
      rintro e w1 ⟨rfl, rfl⟩
      go_wp2_with fail
      go_ret
      exact ⟨ret_int ((unhide HS).trans (unhide fin).symm), hbel⟩

end Go.Proofs.Ythkofafbnbjbbaf
