/-
  impl.compareKeys: the keys of two lists of places.
-/
import Derived.Test.YthkofafbnbjbbafCmpI
namespace Go.Proofs.Ythkofafbnbjbbaf
open Go.RowKit
set_option linter.unusedVariables false

theorem sgn_len (a b : Nat) : sgn (a : Int) (b : Int) = lenSign a b := by
  unfold sgn lenSign
  by_cases h : a < b
  · rw [if_pos (by omega), if_pos h]
  · rw [if_neg (by omega), if_neg h]
    by_cases h' : b < a
    · rw [if_pos (by omega), if_pos h']
    · rw [if_neg (by omega), if_neg h']

theorem keysAt_getD (v : List M.Cl) (a i : Nat) (hi : i < M.arity v a) : (keysAt v a).getD i ByteArray.empty = (v.getD (M.iter v i (a + 1)) M.zero).key := by
  simp [keysAt, M.places, List.getD_eq_getElem?_getD, hi]
theorem subs_getD (v : List M.Cl) (a i : Nat) (hi : i < M.arity v a) : (subs v a).getD i [] = part v (M.iter v i (a + 1)) := by
  simp [subs, M.places, List.getD_eq_getElem?_getD, hi]

set_option maxRecDepth 100000 in
set_option maxHeartbeats 2000000 in
theorem compareKeys_none (s t : Value) (a a' : Option Addr) (c c' n n' : Nat) (w : World) (h : n = 0 ∨ n' = 0) (hn : n ≤ 200) (hn' : n' ≤ 200) :
    Calls Try.prog 67 #[s, .slice a n c, t, .slice a' n' c'] w fun e w' => e = .returned (.int .i64 (lenSign n n')) ∧ Below w.heap.size w w' := by
  have HS := hide (sgn_len n n')
  have h2 : (n = 0 ∧ n' = 0) ∨ (n = 0 ∧ 0 < n') ∨ (0 < n ∧ n' = 0) := by omega
  clear h
  rcases h2 with ⟨rfl, rfl⟩ | ⟨rfl, h2⟩ | ⟨h2, rfl⟩
  all_goals
    go_enter Try.func67, Try.ntmps67
    go_wp2_with fail
    refine wp_loop_rounds 1 ?_
    rw [rounds_succ]
    go_wp2_with fail
    refine (cmpInt_any _ _ _).mono ?_
    rintro e w1 ⟨rfl, rfl⟩
    go_wp2_with fail
    go_ret
    exact ⟨ret_int (by first | exact unhide HS | (have := unhide HS; simpa using this)), Below.refl _ _⟩

set_option maxRecDepth 100000 in
set_option maxHeartbeats 4000000 in
theorem compareKeys_some (v u : List M.Cl) (b off cap b' off' cap' i j : Nat) (g g' c c' m m' : Nat) (w : World) (hr : Row w b off v) (hb : b < w.heap.size) (hcap : v.length ≤ cap) (hr' : Row w b' off' u) (hb' : b' < w.heap.size) (hcap' : u.length ≤ cap')
    (hm : m = M.arity v i) (hm' : m' = M.arity u j) (ho : OwnI w g (firstPl v i m)) (ho' : OwnI w g' (firstPl u j m')) (hc : m ≤ c) (hc' : m' ≤ c') (hp : 0 < m) (hp' : 0 < m') (hn : m ≤ 200) (hn' : m' ≤ 200) (hl : v.length ≤ 200) (hl' : u.length ≤ 200)
    (hin : ∀ k, k < m → M.iter v k (i + 1) < v.length) (hin' : ∀ k, k < m' → M.iter u k (j + 1) < u.length) :
    Calls Try.prog 67 #[.slice (some ⟨b, off, none⟩) v.length cap, .slice (some ⟨g, 0, none⟩) m c, .slice (some ⟨b', off', none⟩) u.length cap', .slice (some ⟨g', 0, none⟩) m' c'] w fun e w' => e = .returned (.int .i64 (lex cmpK (keysAt v i) (keysAt u j))) ∧ Below w.heap.size w w' := by
  have HS := hide (sgn_len m m')
  have KL : (keysAt v i).length = m := by rw [keysAt_length, hm]
  have KL' : (keysAt u j).length = m' := by rw [keysAt_length, hm']
  have HKL := hide KL
  have HKL' := hide KL'
  have HG := hide (fun k (hk : k < m) => keysAt_getD v i k (by omega))
  have HG' := hide (fun k (hk : k < m') => keysAt_getD u j k (by omega))
  have HIN := hide hin
  have HIN' := hide hin'
  have HO := hide ho
  have HO' := hide ho'
  have HR := hide hr
  have HR' := hide hr'
  clear hm hm' KL KL' hin hin' ho ho' hr hr'
  have hcase : m ≤ m' ∨ m' < m := by omega
  rcases hcase with hcs | hcs
  all_goals
    go_enter Try.func67, Try.ntmps67
    go_wp2_with fail
    go_loopg [16] m (fun gn s16 wr => ∃ k : Nat, Hid (gn = m - k) ∧ s16 = .int .i64 k ∧ k ≤ m ∧ k ≤ m' ∧ Hid (∀ l, l < k → cmpK ((keysAt v i).getD l ByteArray.empty) ((keysAt u j).getD l ByteArray.empty) = 0) ∧ Below w.heap.size w wr)
    case atStart => exact ⟨0, rfl, rfl, by omega, by omega, fun l hl => absurd hl (by omega), Below.refl _ _⟩
    case round =>
      obtain ⟨k, hg, rfl, hk, hk', hall, hbel⟩ := hrel
      by_cases hlt : k < m ∧ k < m'
      · obtain ⟨hlt, hlt'⟩ := hlt
        have hA := (unhide HIN) k hlt
        have hB := (unhide HIN') k hlt'
        have f1 := ((unhide HO).below hbel (unhide HO).lt).cell (i := k) (by rw [firstPl_length]; exact hlt)
        have f2 := ((unhide HO').below hbel (unhide HO').lt).cell (i := k) (by rw [firstPl_length]; exact hlt')
        rw [firstPl_getD v i m k hlt] at f1
        rw [firstPl_getD u j m' k hlt'] at f2
        have r1 := (((unhide HR).below hbel hb) _ hA).2.2.2.1
        have r2 := (((unhide HR').below hbel hb') _ hB).2.2.2.1
        have hhit := hide (lex_hit cmpK ByteArray.empty (keysAt v i) (keysAt u j) k hall.out (by rw [unhide HKL]; exact hlt) (by rw [unhide HKL']; exact hlt'))
        have hnext := hide (fun (h0 : cmpK ((keysAt v i).getD k ByteArray.empty) ((keysAt u j).getD k ByteArray.empty) = 0) l (hl : l < k + 1) => show cmpK ((keysAt v i).getD l ByteArray.empty) ((keysAt u j).getD l ByteArray.empty) = 0 by
          by_cases e : l = k
          · subst e; exact h0
          · exact hall.out l (by omega))
        rw [(unhide HG) k hlt, (unhide HG') k hlt'] at hhit hnext
        generalize (v.getD (M.iter v k (i + 1)) M.zero).key = x at *
        generalize (u.getD (M.iter u k (j + 1)) M.zero).key = y at *
        generalize M.iter v k (i + 1) = p1 at *
        generalize M.iter u k (j + 1) = p2 at *
        have H3 := hide (strCompare_any x y)
        have a1 : (k : Int) < (m : Int) := by omega
        have a2 : (k : Int) < (m' : Int) := by omega
        have a3 : (p1 : Int) < (v.length : Int) := by omega
        have a4 : (p2 : Int) < (u.length : Int) := by omega
        generalize hqq : cmpK x y = q at *
        clear hqq
        go_wp2_with fail
        go_region_held3 (fun w' => w'.cell? ⟨g, k, none⟩ = some (.int .i64 p1) ∧ w'.cell? ⟨g', k, none⟩ = some (.int .i64 p2) ∧ w'.cell? ⟨b, off + p1 * 5 + 3, none⟩ = some (.string x) ∧ w'.cell? ⟨b', off' + p2 * 5 + 3, none⟩ = some (.string y)) (simp [go_sem, f1, f2, r1, r2])
          (first | (go_at_call 72; refine ((unhide H3) _).mono ?_; rintro e w' ⟨rfl, hw⟩; subst hw))
        by_cases hz : q = 0
        · subst hz
          have hn2 := hide ((unhide hnext) rfl)
          clear hhit hnext
          go_wp2_with fail
          go_roundg (m - (k + 1))
          case rel => exact ⟨k + 1, rfl, by go_num, by omega, by omega, unhide hn2, hbel.drew⟩
          case measure => have := hg.out; omega
        · have fin := hide ((unhide hhit) hz)
          have hz' : (q == 0) = false := by simp [hz]
          clear hhit hnext
          go_wp2_with fail
          go_ret
          exact ⟨ret_int (unhide fin).symm, hbel.drew⟩
      · have fin := hide (lex_end cmpK ByteArray.empty (keysAt v i) (keysAt u j) k hall.out (by rw [unhide HKL, unhide HKL']; omega))
        rw [unhide HKL, unhide HKL'] at fin
        go_wp2_with fail
        refine (cmpInt_any _ _ _).mono ?_
        rintro e w1 ⟨rfl, hw1⟩
        subst hw1
        go_wp2_with fail
        go_ret
        exact ⟨ret_int ((unhide HS).trans (unhide fin).symm), hbel⟩

end Go.Proofs.Ythkofafbnbjbbaf
