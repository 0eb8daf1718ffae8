/-
  spec.l1KeyLists and spec.l1Lists: lists held against one another.
  spec.l1Lists and spec.l1Compare, by induction on the length of the first value.
  spec.l1Compare returns the plain order of values.
-/
import Derived.Test.YtemehbjlfiebdaaGreatX11
import Derived.Test.YtemehbjlfiebdaaGreatX13
import Derived.BigQuiet
import Derived.Deep.QuietTactic
namespace Go.Proofs.YtemehbjlfiebdaaGreat
open Go.RowKit
set_option linter.unusedVariables false

/-- What spec.l1Sign answers. -/
def signB (x y : Bool) : Int := if x = true then -1 else if y = true then 1 else 0

set_option maxHeartbeats 400000 in
theorem l1Sign_any (x y : Bool) (w : World) : Calls Tryz.prog 68 #[.bool x, .bool y] w fun e w' => e = .returned (.int .i64 (signB x y)) ∧ w' = w := by
  cases x <;> cases y
  all_goals
    go_enter Tryz.func68, Tryz.ntmps68
    go_wp2
    go_ret
    exact ⟨rfl, rfl⟩

theorem sign_len (a b : Nat) : signB (decide (a < b)) (decide (b < a)) = lenSign a b := by unfold signB lenSign; simp

theorem ownsRow_form {w : World} {base : Nat} {e : TypeId} {v : Value} {n : Nat} {xs : List Value} (h : w.ownsRow base e 1 v n xs) : (n = 0 ∧ ∃ a c, v = .slice a 0 c) ∨ (0 < n ∧ ∃ g c, v = .slice (some ⟨g, 0, none⟩) n c ∧ n ≤ c ∧ base ≤ g) := by
  rcases h.2 with ⟨rfl, rfl⟩ | ⟨g, c, cur, rfl, hg, _, hn, _⟩
  · exact .inl ⟨rfl, _, _, rfl⟩
  · by_cases h0 : n = 0
    · subst h0; exact .inl ⟨rfl, _, _, rfl⟩
    · exact .inr ⟨by omega, g, c, rfl, hn, hg⟩

/-- Which of two slices is the shorter one, told by spec.l1Sign at the end. -/
theorem shape_len {w : World} {base : Nat} {e : TypeId} {v : Value} {n : Nat} {xs : List Value} (h : w.ownsRow base e 1 v n xs) : ∃ a c, v = .slice a n c := by
  rcases ownsRow_form h with ⟨h0, a, c, h⟩ | ⟨_, g, c, h, _⟩
  · exact ⟨a, c, by rw [h, h0]⟩
  · exact ⟨_, c, h⟩

set_option maxRecDepth 100000 in
set_option maxHeartbeats 2000000 in
theorem l1KeyLists_none (a a' : Option Addr) (c c' n n' : Nat) (w : World) (h : n = 0 ∨ n' = 0) (hn : n ≤ 200) (hn' : n' ≤ 200) :
    Calls Tryz.prog 71 #[.slice a n c, .slice a' n' c'] w fun e w' => e = .returned (.int .i64 (lenSign n n')) ∧ Below w.heap.size w w' := by
  have h2 : (n = 0 ∧ n' = 0) ∨ (n = 0 ∧ 0 < n') ∨ (0 < n ∧ n' = 0) := by omega
  clear h
  rcases h2 with ⟨rfl, rfl⟩ | ⟨rfl, h2⟩ | ⟨h2, rfl⟩
  all_goals
    go_enter Tryz.func71, Tryz.ntmps71
    go_wp2_with fail
    refine wp_loop_rounds 1 ?_
    rw [rounds_succ]
    go_wp2_with fail
    all_goals
      refine (l1Sign_any _ _ _).mono ?_
      rintro e w1 ⟨rfl, rfl⟩
      go_wp2_with fail
      go_ret
      refine ⟨ret_int ?_, Below.refl _ _⟩
      first | rfl | (unfold signB lenSign; simp; done) | (unfold signB lenSign; simp; omega)

set_option maxRecDepth 100000 in
set_option maxHeartbeats 4000000 in
theorem l1KeyLists_any (s s' : Value) (B B' : Nat) (ks ls : List ByteArray) (w : World) (h : KS w B s ks) (h' : KS w B' s' ls) (hn : ks.length ≤ 200) (hn' : ls.length ≤ 200) :
    Calls Tryz.prog 71 #[s, s'] w fun e w' => e = .returned (.int .i64 (lex cmpK ks ls)) ∧ Below w.heap.size w w' := by
  by_cases hz : ks.length = 0 ∨ ls.length = 0
  · have fin := lex_end cmpK ByteArray.empty ks ls 0 (fun j hj => absurd hj (by omega)) (by omega)
    obtain ⟨a, c, rfl⟩ := shape_len h
    obtain ⟨a', c', rfl⟩ := shape_len h'
    rw [fin]
    exact l1KeyLists_none a a' c c' _ _ w hz hn hn'
  have HS := hide (sign_len ks.length ls.length)
  have HK := hide h
  have HL := hide h'
  rcases ownsRow_form h with ⟨h0, _⟩ | ⟨hp, g, c, rfl, hgc, hgb⟩
  · omega
  rcases ownsRow_form h' with ⟨h0, _⟩ | ⟨hp', g', c', rfl, hgc', hgb'⟩
  · omega
  clear hz h h'
  go_enter Tryz.func71, Tryz.ntmps71
  go_wp2_with fail
  go_loopg [5] ks.length (fun gn s5 wr => ∃ i : Nat, Hid (gn = ks.length - i) ∧ s5 = .int .i64 i ∧ i ≤ ks.length ∧ i ≤ ls.length ∧ Hid (∀ j, j < i → cmpK (ks.getD j ByteArray.empty) (ls.getD j ByteArray.empty) = 0) ∧ Below w.heap.size w wr)
  case atStart => exact ⟨0, rfl, rfl, by omega, by omega, fun j hj => absurd hj (by omega), Below.refl _ _⟩
  case round =>
    obtain ⟨i, hg, rfl, hi, hi', hall, hbel⟩ := hrel
    by_cases hlt : i < ks.length
    · by_cases hlt' : i < ls.length
      · have f := ((unhide HK).below hbel).cellAt i (by omega)
        have f' := ((unhide HL).below hbel).cellAt i (by omega)
        rw [List.getElem?_map, List.getElem?_eq_getElem hlt, Option.map_some] at f
        rw [List.getElem?_map, List.getElem?_eq_getElem hlt', Option.map_some] at f'
        have ex : ks.getD i ByteArray.empty = ks[i] := by rw [List.getD_eq_getElem?_getD, List.getElem?_eq_getElem hlt]; rfl
        have ey : ls.getD i ByteArray.empty = ls[i] := by rw [List.getD_eq_getElem?_getD, List.getElem?_eq_getElem hlt']; rfl
        have hhit := hide (lex_hit cmpK ByteArray.empty ks ls i hall.out hlt hlt')
        have hnext := hide (fun (h0 : cmpK (ks.getD i ByteArray.empty) (ls.getD i ByteArray.empty) = 0) j (hj : j < i + 1) => show cmpK (ks.getD j ByteArray.empty) (ls.getD j ByteArray.empty) = 0 by
          by_cases e : j = i
          · subst e; exact h0
          · exact hall.out j (by omega))
        rw [ex, ey] at hhit hnext
        clear ex ey
        generalize ks[i] = x at *
        generalize ls[i] = y at *
        have hltI : (i : Int) < (ks.length : Int) := by omega
        have hltI' : (i : Int) < (ls.length : Int) := by omega
        cases heq : (x.toList == y.toList) with
        | true =>
          have hc0 : cmpK x y = 0 := by
            unfold cmpK
            have : x.toList = y.toList := by simpa using heq
            rw [if_neg (by rw [this, bytesLess_irrefl]; simp), if_pos heq]
          have hn2 := hide ((unhide hnext) hc0)
          clear hc0 hhit hnext
          go_wp2_with fail
          go_quiet (fail)
          go_wp2_with fail
          go_roundg (ks.length - (i + 1))
          case rel => exact ⟨i + 1, rfl, by go_num, by omega, by omega, unhide hn2, below_drewN hbel _⟩
          case measure => have := hg.out; omega
        | false =>
          have hne : cmpK x y ≠ 0 := by
            unfold cmpK
            by_cases hb : Op.bytesLess x.toList y.toList = true
            · rw [if_pos hb]; decide
            · rw [if_neg hb, if_neg (by rw [heq]; simp)]; decide
          have hv := (unhide hhit) hne
          have hsg : cmpK x y = signB (Op.bytesLess x.toList y.toList) true := by
            unfold cmpK signB
            rw [heq]; simp
          rw [hsg] at hv
          have fin := hide hv
          clear hv hsg hne hhit hnext
          go_wp2_with fail
          go_quiet (fail)
          go_wp2_with fail
          go_region_with (go_at_call 68; refine (l1Sign_any _ _ _).mono ?_; rintro e w1 ⟨rfl, hw1⟩; subst hw1)
          all_goals
            go_wp2_with fail
            go_ret
            exact ⟨ret_int (unhide fin).symm, (below_drewN hbel _).drew⟩
      · have fin := hide (lex_end cmpK ByteArray.empty ks ls i hall.out (.inr (by omega)))
        go_wp2_with fail
        refine (l1Sign_any _ _ _).mono ?_
        rintro e w1 ⟨rfl, rfl⟩
        go_wp2_with fail
        go_ret
        exact ⟨ret_int ((unhide HS).trans (unhide fin).symm), hbel⟩
    · have fin := hide (lex_end cmpK ByteArray.empty ks ls i hall.out (.inl (by omega)))
      go_wp2_with fail
      refine (l1Sign_any _ _ _).mono ?_
      rintro e w1 ⟨rfl, rfl⟩
      go_wp2_with fail
      go_ret
      exact ⟨ret_int ((unhide HS).trans (unhide fin).symm), hbel⟩

end Go.Proofs.YtemehbjlfiebdaaGreat

namespace Go.Proofs.YtemehbjlfiebdaaGreat
open Go.RowKit
set_option linter.unusedVariables false

/-- What is promised of spec.l1Compare for values of at most f cells. -/
def CmpSays (f : Nat) : Prop := ∀ (A C : List M.Cl) (b off cap b' off' cap' : Nat) (w : World), M.valueFault A = 0 → M.valueFault C = 0 → A.length ≤ f → Row w b off A → b < w.heap.size → A.length ≤ cap → (∀ c ∈ A, c.ok) → Row w b' off' C → b' < w.heap.size → C.length ≤ cap' → (∀ c ∈ C, c.ok) →
  Calls Tryz.prog 50 #[.slice (some ⟨b, off, none⟩) A.length cap, .slice (some ⟨b', off', none⟩) C.length cap'] w fun e w' => e = .returned (.int .i64 (cmpL f A C)) ∧ Below w.heap.size w w'

set_option maxRecDepth 100000 in
set_option maxHeartbeats 2000000 in
theorem l1Lists_none (a a' : Option Addr) (c c' n n' : Nat) (w : World) (h : n = 0 ∨ n' = 0) (hn : n ≤ 200) (hn' : n' ≤ 200) :
    Calls Tryz.prog 69 #[.slice a n c, .slice a' n' c'] w fun e w' => e = .returned (.int .i64 (lenSign n n')) ∧ Below w.heap.size w w' := by
  have h2 : (n = 0 ∧ n' = 0) ∨ (n = 0 ∧ 0 < n') ∨ (0 < n ∧ n' = 0) := by omega
  clear h
  rcases h2 with ⟨rfl, rfl⟩ | ⟨rfl, h2⟩ | ⟨h2, rfl⟩
  all_goals
    go_enter Tryz.func69, Tryz.ntmps69
    go_wp2_with fail
    refine wp_loop_rounds 1 ?_
    rw [rounds_succ]
    go_wp2_with fail
    all_goals
      refine (l1Sign_any _ _ _).mono ?_
      rintro e w1 ⟨rfl, rfl⟩
      go_wp2_with fail
      go_ret
      refine ⟨ret_int ?_, Below.refl _ _⟩
      first | rfl | (unfold signB lenSign; simp; done) | (unfold signB lenSign; simp; omega)

/-- A list among others is in place, and is what it must be. -/
def AllOk (f : Nat) (ps : List (List M.Cl)) : Prop := ∀ i, i < ps.length → M.valueFault (ps.getD i []) = 0 ∧ (ps.getD i []).length ≤ f ∧ ∀ c ∈ ps.getD i [], c.ok

theorem res_some {w : World} {B : Nat} {s : Value} {l : List M.Cl} (h : Res w B s l) (hv : M.valueFault l = 0) : ∃ b cap, s = .slice (some ⟨b, 0, none⟩) l.length cap ∧ l.length ≤ cap ∧ OwnG w b 33 l := by
  obtain ⟨_, ⟨_, rfl⟩ | ⟨b, cap, h1, _, h3, h4⟩⟩ := h
  · have := (M.fault_zero hv).1; simp at this
  · exact ⟨b, cap, h1, h3, h4⟩

set_option maxRecDepth 100000 in
set_option maxHeartbeats 4000000 in
theorem l1Lists_any (f : Nat) (IH : Hid (CmpSays f)) (s s' : Value) (B B' : Nat) (ks ls : List (List M.Cl)) (w : World) (h : SS w B s ks) (h' : SS w B' s' ls) (hn : ks.length ≤ 200) (hn' : ls.length ≤ 200) (hk : AllOk f ks) (hl : AllOk 200 ls) :
    Calls Tryz.prog 69 #[s, s'] w fun e w' => e = .returned (.int .i64 (lex (cmpL f) ks ls)) ∧ Below w.heap.size w w' := by
  by_cases hz : ks.length = 0 ∨ ls.length = 0
  · have fin := lex_end (cmpL f) [] ks ls 0 (fun j hj => absurd hj (by omega)) (by omega)
    obtain ⟨ss, _, h2, _⟩ := h
    obtain ⟨ss', _, h2', _⟩ := h'
    obtain ⟨a, c, rfl⟩ := shape_len h2
    obtain ⟨a', c', rfl⟩ := shape_len h2'
    rw [fin]
    exact l1Lists_none a a' c c' _ _ w hz hn hn'
  have HS := hide (sign_len ks.length ls.length)
  have HK := hide h
  have HL := hide h'
  have HOK := hide hk
  have HOL := hide hl
  obtain ⟨ss, hs1, hs2, hs3⟩ := h
  obtain ⟨ss', hs1', hs2', hs3'⟩ := h'
  rcases ownsRow_form hs2 with ⟨h0, _⟩ | ⟨hp, g, c, rfl, hgc, hgb⟩
  · omega
  rcases ownsRow_form hs2' with ⟨h0, _⟩ | ⟨hp', g', c', rfl, hgc', hgb'⟩
  · omega
  have HO := hide hs2
  have HO' := hide hs2'
  have HR := hide hs3
  have HR' := hide hs3'
  have HL1 := hide hs1
  have HL1' := hide hs1'
  clear hz hk hl hs1 hs2 hs3 hs1' hs2' hs3'
  go_enter Tryz.func69, Tryz.ntmps69
  go_wp2_with fail
  go_loopg [5] ks.length (fun gn s5 wr => ∃ i : Nat, Hid (gn = ks.length - i) ∧ s5 = .int .i64 i ∧ i ≤ ks.length ∧ i ≤ ls.length ∧ Hid (∀ j, j < i → cmpL f (ks.getD j []) (ls.getD j []) = 0) ∧ Below w.heap.size w wr)
  case atStart => exact ⟨0, rfl, rfl, by omega, by omega, fun j hj => absurd hj (by omega), Below.refl _ _⟩
  case round =>
    obtain ⟨i, hg, rfl, hi, hi', hall, hbel⟩ := hrel
    by_cases hlt : i < ks.length
    · by_cases hlt' : i < ls.length
      · have f1 := (ownsRow_below (B := 0) (unhide HO) hbel).cellAt i (by omega)
        have f2 := (ownsRow_below (B := 0) (unhide HO') hbel).cellAt i (by omega)
        have q1 := ((unhide HR) i hlt).below hbel
        have q2 := ((unhide HR') i hlt').below hbel
        obtain ⟨k1, k2, k3⟩ := (unhide HOK) i hlt
        obtain ⟨l1, l2, l3⟩ := (unhide HOL) i hlt'
        obtain ⟨b1, c1, e1, d1, o1⟩ := res_some q1 k1
        obtain ⟨b2, c2, e2, d2, o2⟩ := res_some q2 l1
        have g1 : ss[i]? = some (.slice (some ⟨b1, 0, none⟩) (ks.getD i []).length c1) := by
          have hl := unhide HL1
          rw [List.getElem?_eq_getElem (by omega)]
          rw [List.getD_eq_getElem?_getD, List.getElem?_eq_getElem (by omega)] at e1
          simpa using e1
        have g2 : ss'[i]? = some (.slice (some ⟨b2, 0, none⟩) (ls.getD i []).length c2) := by
          have hl := unhide HL1'
          rw [List.getElem?_eq_getElem (by omega)]
          rw [List.getD_eq_getElem?_getD, List.getElem?_eq_getElem (by omega)] at e2
          simpa using e2
        rw [g1] at f1
        rw [g2] at f2
        have hhit := hide (lex_hit (cmpL f) [] ks ls i hall.out hlt hlt')
        have hnext := hide (fun (h0 : cmpL f (ks.getD i []) (ls.getD i []) = 0) j (hj : j < i + 1) => show cmpL f (ks.getD j []) (ls.getD j []) = 0 by
          by_cases e : j = i
          · subst e; exact h0
          · exact hall.out j (by omega))
        have HC := hide (fun w' (hb : Below wr.heap.size wr w') => (unhide IH) (ks.getD i []) (ls.getD i []) b1 0 c1 b2 0 c2 w' k1 l1 k2 (o1.row.below hb o1.lt) (Nat.lt_of_lt_of_le o1.lt hb.size) d1 k3 (o2.row.below hb o2.lt) (Nat.lt_of_lt_of_le o2.lt hb.size) d2 l3)
        clear q1 q2 k1 k2 k3 l1 l2 l3 e1 e2 d1 d2 o1 o2 g1 g2
        have HBR := hide (Below.refl wr.heap.size wr).drew
        generalize ks.getD i [] = x at *
        generalize ls.getD i [] = y at *
        have hltI : (i : Int) < (ks.length : Int) := by omega
        have hltI' : (i : Int) < (ls.length : Int) := by omega
        go_wp2_with fail
        go_region_with (go_at_call 50; refine ((unhide HC) _ (unhide HBR)).mono ?_; rintro e w1 ⟨rfl, hb1⟩)
        all_goals
          have B1 : Below w.heap.size w w1 := hbel.drew.trans (hb1.mono (by exact hbel.size))
          clear hb1
          generalize hq : cmpL f x y = q at *
          by_cases hz : q = 0
          · subst hz
            have hn2 := hide ((unhide hnext) rfl)
            clear hhit hnext hq
            go_wp2_with fail
            go_roundg (ks.length - (i + 1))
            case rel => exact ⟨i + 1, rfl, by go_num, by omega, by omega, unhide hn2, B1⟩
            case measure => have := hg.out; omega
          · have fin := hide ((unhide hhit) hz)
            have hz' : (q == 0) = false := by simp [hz]
            clear hhit hnext hq
            go_wp2_with fail
            go_ret
            exact ⟨ret_int (unhide fin).symm, B1⟩
      · have fin := hide (lex_end (cmpL f) [] ks ls i hall.out (.inr (by omega)))
        go_wp2_with fail
        refine (l1Sign_any _ _ _).mono ?_
        rintro e w1 ⟨rfl, rfl⟩
        go_wp2_with fail
        go_ret
        exact ⟨ret_int ((unhide HS).trans (unhide fin).symm), hbel⟩
    · have fin := hide (lex_end (cmpL f) [] ks ls i hall.out (.inl (by omega)))
      go_wp2_with fail
      refine (l1Sign_any _ _ _).mono ?_
      rintro e w1 ⟨rfl, rfl⟩
      go_wp2_with fail
      go_ret
      exact ⟨ret_int ((unhide HS).trans (unhide fin).symm), hbel⟩

end Go.Proofs.YtemehbjlfiebdaaGreat

namespace Go.Proofs.YtemehbjlfiebdaaGreat
open Go.RowKit
set_option linter.unusedVariables false

theorem sign_int (a b : Int) : signB (decide (a < b)) (decide (b < a)) = sgn a b := by unfold signB sgn; simp
theorem sign_text (a b : ByteArray) : signB (Op.bytesLess a.toList b.toList) (!Op.bytesLess a.toList b.toList && !(a.toList == b.toList)) = cmpK a b := by
  unfold signB cmpK
  cases h1 : Op.bytesLess a.toList b.toList <;> cases h2 : (a.toList == b.toList) <;> simp

section
variable (f : Nat) (A C : List M.Cl)
theorem cmp_kind (h : (A.getD 0 M.zero).kind ≠ (C.getD 0 M.zero).kind) : cmpL (f + 1) A C = signB (decide ((A.getD 0 M.zero).kind < (C.getD 0 M.zero).kind)) true := by
  rw [cmpL, if_pos h]; unfold signB; simp
theorem cmp_num (h : (A.getD 0 M.zero).kind = (C.getD 0 M.zero).kind) (h3 : (A.getD 0 M.zero).kind = 3) : cmpL (f + 1) A C = sgn (A.getD 0 M.zero).num (C.getD 0 M.zero).num := by
  rw [cmpL, if_neg (fun g => g h), if_pos h3]
theorem cmp_text (h : (A.getD 0 M.zero).kind = (C.getD 0 M.zero).kind) (h3 : (A.getD 0 M.zero).kind = 4) : cmpL (f + 1) A C = cmpK (A.getD 0 M.zero).text (C.getD 0 M.zero).text := by
  rw [cmpL, if_neg (fun g => g h), if_neg (by omega), if_pos h3]
theorem cmp_arr (h : (A.getD 0 M.zero).kind = (C.getD 0 M.zero).kind) (h3 : (A.getD 0 M.zero).kind = 5) : cmpL (f + 1) A C = lex (cmpL f) (subs A 0) (subs C 0) := by
  rw [cmpL, if_neg (fun g => g h), if_neg (by omega), if_neg (by omega), if_pos h3]
theorem cmp_obj (h : (A.getD 0 M.zero).kind = (C.getD 0 M.zero).kind) (h3 : (A.getD 0 M.zero).kind = 6) : cmpL (f + 1) A C = if lex cmpK (keysAt A 0) (keysAt C 0) ≠ 0 then lex cmpK (keysAt A 0) (keysAt C 0) else lex (cmpL f) (subs A 0) (subs C 0) := by
  rw [cmpL, if_neg (fun g => g h), if_neg (by omega), if_neg (by omega), if_neg (by omega), if_pos h3]
theorem cmp_else (h : (A.getD 0 M.zero).kind = (C.getD 0 M.zero).kind) (h3 : (A.getD 0 M.zero).kind ≠ 3 ∧ (A.getD 0 M.zero).kind ≠ 4 ∧ (A.getD 0 M.zero).kind ≠ 5 ∧ (A.getD 0 M.zero).kind ≠ 6) : cmpL (f + 1) A C = 0 := by
  rw [cmpL, if_neg (fun g => g h), if_neg h3.1, if_neg h3.2.1, if_neg h3.2.2.1, if_neg h3.2.2.2]
end

theorem allOk_subs {v : List M.Cl} (hv : M.valueFault v = 0) (hok : ∀ c ∈ v, c.ok) (f : Nat) (hf : v.length ≤ f + 1) : AllOk f (subs v 0) := by
  intro i hi
  have hl := (M.fault_zero hv).1
  have hm : (subs v 0).getD i [] ∈ subs v 0 := by rw [List.getD_eq_getElem?_getD, List.getElem?_eq_getElem hi]; exact List.getElem_mem hi
  have := subs_ok hv hok (a := 0) (by omega) _ hm
  exact ⟨this.1, by omega, this.2.2⟩

set_option maxRecDepth 100000 in
set_option maxHeartbeats 4000000 in
theorem l1Compare_step (f : Nat) (IH : Hid (CmpSays f)) : CmpSays (f + 1) := by
  intro A C b off cap b' off' cap' w hA hC hAf hr hb hcap hok hr' hb' hcap' hok'
  have l1 := (M.fault_zero hA).1
  have l2 := (M.fault_zero hA).2.1
  have m1 := (M.fault_zero hC).1
  have m2 := (M.fault_zero hC).2.1
  have hA0 := hr 0 (by omega)
  have hC0 := hr' 0 (by omega)
  simp only [Nat.zero_mul, Nat.add_zero] at hA0 hC0
  obtain ⟨x0, x1, x2, x3, x4⟩ := hA0
  obtain ⟨y0, y1, y2, y3, y4⟩ := hC0
  have BB : ∀ o o', Below w.heap.size w ((w.alloc o).alloc o') := fun o o' => ((Below.refl _ _).alloc (Nat.le_refl _) _).alloc (by simp) _
  have HBB := hide BB
  have HPA := hide (fun w' (hbl : Below w.heap.size w w') => l1Parts_any A b off cap w' hA (hr.below hbl hb) (Nat.lt_of_lt_of_le hb hbl.size) hcap hok)
  have HPC := hide (fun w' (hbl : Below w.heap.size w w') => l1Parts_any C b' off' cap' w' hC (hr'.below hbl hb') (Nat.lt_of_lt_of_le hb' hbl.size) hcap' hok')
  have HKA := hide (fun w' (hbl : Below w.heap.size w w') => l1Keys_any A b off cap w' hA (hr.below hbl hb) (Nat.lt_of_lt_of_le hb hbl.size) hcap hok)
  have HKC := hide (fun w' (hbl : Below w.heap.size w w') => l1Keys_any C b' off' cap' w' hC (hr'.below hbl hb') (Nat.lt_of_lt_of_le hb' hbl.size) hcap' hok')
  have hAA := (M.places_in hA 0 (by omega)).2.2.2
  have hCC := (M.places_in hC 0 (by omega)).2.2.2
  have HLL := hide (fun s s' B B' w' (h : SS w' B s (subs A 0)) (h' : SS w' B' s' (subs C 0)) => l1Lists_any f IH s s' B B' _ _ w' h h' (by rw [subs_length]; exact hAA) (by rw [subs_length]; exact hCC) (allOk_subs hA hok f hAf) (allOk_subs hC hok' 200 (by omega)))
  have HKL := hide (fun s s' B B' w' (h : KS w' B s (keysAt A 0)) (h' : KS w' B' s' (keysAt C 0)) => l1KeyLists_any s s' B B' _ _ w' h h' (by rw [keysAt_length]; exact hAA) (by rw [keysAt_length]; exact hCC))
  have c1 := hide (cmp_kind f A C)
  have c2 := hide (cmp_num f A C)
  have c3 := hide (cmp_text f A C)
  have c4 := hide (cmp_arr f A C)
  have c5 := hide (cmp_obj f A C)
  have c6 := hide (cmp_else f A C)
  clear BB hA hC hok hok' hr hr' hAA hCC hAf
  generalize A.getD 0 M.zero = x at *
  generalize C.getD 0 M.zero = y at *
  by_cases hk : x.kind = y.kind
  · have ek : (x.kind == y.kind) = true := by simp [hk]
    by_cases k3 : x.kind = 3
    · have fin := hide ((unhide c2) hk k3)
      have e3 : (x.kind == 3) = true := by simp [k3]
      clear c1 c2 c3 c4 c5 c6 hk k3
      go_enter Tryz.func50, Tryz.ntmps50
      go_wp2_with fail
      refine (l1Sign_any _ _ _).mono ?_
      rintro e w1 ⟨rfl, hw1⟩
      subst hw1
      go_wp2_with fail
      go_ret
      exact ⟨ret_int ((sign_int _ _).trans (unhide fin).symm), (unhide HBB) _ _⟩
    have e3 : (x.kind == 3) = false := by simp [k3]
    by_cases k4 : x.kind = 4
    · have fin := hide ((unhide c3) hk k4)
      have e4 : (x.kind == 4) = true := by simp [k4]
      clear c1 c2 c3 c4 c5 c6 hk k3 k4
      go_enter Tryz.func50, Tryz.ntmps50
      go_wp2_with fail
      refine (l1Sign_any _ _ _).mono ?_
      rintro e w1 ⟨rfl, hw1⟩
      subst hw1
      go_wp2_with fail
      go_ret
      exact ⟨ret_int ((sign_text _ _).trans (unhide fin).symm), (unhide HBB) _ _⟩
    have e4 : (x.kind == 4) = false := by simp [k4]
    by_cases k5 : x.kind = 5
    · have fin := hide ((unhide c4) hk k5)
      have e5 : (x.kind == 5) = true := by simp [k5]
      clear c1 c2 c3 c4 c5 c6 hk k3 k4 k5
      go_enter Tryz.func50, Tryz.ntmps50
      go_wp2_with fail
      refine ((unhide HPA) _ ((unhide HBB) _ _)).mono ?_
      rintro e w1 ⟨s, rfl, hs1, hb1⟩
      have B1 : Below w.heap.size w w1 := ((unhide HBB) _ _).trans (hb1.mono (by simp <;> omega))
      obtain ⟨a1, n1, q1, rfl⟩ : ∃ a n c, s = Value.slice a n c := by obtain ⟨_, _, h, _⟩ := hs1; obtain ⟨a, c, h⟩ := shape_len h; exact ⟨_, _, _, h⟩
      clear hb1 x0 x1 x2 x3 x4 y0 y1 y2 y3 y4
      go_wp2_with fail
      refine ((unhide HPC) _ B1).mono ?_
      rintro e w2 ⟨s2, rfl, hs2, hb2⟩
      have B2 : Below w.heap.size w w2 := B1.trans (hb2.mono B1.size)
      have hs1' := hs1.below hb2
      obtain ⟨a2, n2, q2, rfl⟩ : ∃ a n c, s2 = Value.slice a n c := by obtain ⟨_, _, h, _⟩ := hs2; obtain ⟨a, c, h⟩ := shape_len h; exact ⟨_, _, _, h⟩
      clear hb2 hs1
      go_wp2_with fail
      refine ((unhide HLL) _ _ _ _ _ hs1' hs2).mono ?_
      rintro e w3 ⟨rfl, hb3⟩
      have B3 : Below w.heap.size w w3 := B2.trans (hb3.mono B2.size)
      clear hb3 hs1' hs2
      go_wp2_with fail
      go_ret
      exact ⟨ret_int (unhide fin).symm, B3⟩
    have e5 : (x.kind == 5) = false := by simp [k5]
    by_cases k6 : x.kind = 6
    · have fin := hide ((unhide c5) hk k6)
      have e6 : (x.kind == 6) = true := by simp [k6]
      clear c1 c2 c3 c4 c5 c6 hk k3 k4 k5 k6
      go_enter Tryz.func50, Tryz.ntmps50
      go_wp2_with fail
      refine ((unhide HKA) _ ((unhide HBB) _ _)).mono ?_
      rintro e w1 ⟨s, rfl, hs1, hb1⟩
      have B1 : Below w.heap.size w w1 := ((unhide HBB) _ _).trans (hb1.mono (by simp <;> omega))
      obtain ⟨a1, q1, hh⟩ := shape_len hs1
      subst hh
      clear hb1 x0 x1 x2 x3 x4 y0 y1 y2 y3 y4
      go_wp2_with fail
      refine ((unhide HKC) _ B1).mono ?_
      rintro e w2 ⟨s2, rfl, hs2, hb2⟩
      have B2 : Below w.heap.size w w2 := B1.trans (hb2.mono B1.size)
      have hs1' := hs1.below hb2
      obtain ⟨a2, q2, hh⟩ := shape_len hs2
      subst hh
      clear hb2 hs1
      go_wp2_with fail
      refine ((unhide HKL) _ _ _ _ _ hs1' hs2).mono ?_
      rintro e w3 ⟨rfl, hb3⟩
      have B3 : Below w.heap.size w w3 := B2.trans (hb3.mono B2.size)
      clear hb3 hs1' hs2
      generalize hq : lex cmpK (keysAt A 0) (keysAt C 0) = q at *
      by_cases hz : q = 0
      · subst hz
        have fin2 := unhide fin
        rw [if_neg (by simp)] at fin2
        have FIN := hide fin2
        clear fin fin2 hq
        go_wp2_with fail
        refine ((unhide HPA) _ B3).mono ?_
        rintro e w4 ⟨s4, rfl, hs4, hb4⟩
        have B4 : Below w.heap.size w w4 := B3.trans (hb4.mono B3.size)
        obtain ⟨a4, n4, q4, rfl⟩ : ∃ a n c, s4 = Value.slice a n c := by obtain ⟨_, _, h, _⟩ := hs4; obtain ⟨a, c, h⟩ := shape_len h; exact ⟨_, _, _, h⟩
        clear hb4
        go_wp2_with fail
        refine ((unhide HPC) _ B4).mono ?_
        rintro e w5 ⟨s5, rfl, hs5, hb5⟩
        have B5 : Below w.heap.size w w5 := B4.trans (hb5.mono B4.size)
        have hs4' := hs4.below hb5
        obtain ⟨a5, n5, q5, rfl⟩ : ∃ a n c, s5 = Value.slice a n c := by obtain ⟨_, _, h, _⟩ := hs5; obtain ⟨a, c, h⟩ := shape_len h; exact ⟨_, _, _, h⟩
        clear hb5 hs4
        go_wp2_with fail
        refine ((unhide HLL) _ _ _ _ _ hs4' hs5).mono ?_
        rintro e w6 ⟨rfl, hb6⟩
        have B6 : Below w.heap.size w w6 := B5.trans (hb6.mono B5.size)
        clear hb6 hs4' hs5
        go_wp2_with fail
        go_ret
        exact ⟨ret_int (unhide FIN).symm, B6⟩
      · have fin2 := unhide fin
        rw [if_pos hz] at fin2
        have FIN := hide fin2
        have hz' : (q == 0) = false := by simp [hz]
        clear fin fin2 hq
        go_wp2_with fail
        go_ret
        exact ⟨ret_int (unhide FIN).symm, B3⟩
    · have fin := hide ((unhide c6) hk ⟨k3, k4, k5, k6⟩)
      have e6 : (x.kind == 6) = false := by simp [k6]
      clear c1 c2 c3 c4 c5 c6 hk k3 k4 k5 k6
      go_enter Tryz.func50, Tryz.ntmps50
      go_wp2_with fail
      go_ret
      exact ⟨ret_int (unhide fin).symm, (unhide HBB) _ _⟩
  · have fin := hide ((unhide c1) hk)
    have ek : (x.kind == y.kind) = false := by simp [hk]
    clear c1 c2 c3 c4 c5 c6 hk
    go_enter Tryz.func50, Tryz.ntmps50
    go_wp2_with fail
    refine (l1Sign_any _ _ _).mono ?_
    rintro e w1 ⟨rfl, hw1⟩
    subst hw1
    go_wp2_with fail
    go_ret
    exact ⟨ret_int (unhide fin).symm, (unhide HBB) _ _⟩

theorem l1Compare_any (f : Nat) : CmpSays f := by
  induction f with
  | zero => intro A C b off cap b' off' cap' w hA _ hAf; have := (M.fault_zero hA).1; omega
  | succ f ih => exact l1Compare_step f ih

end Go.Proofs.YtemehbjlfiebdaaGreat
