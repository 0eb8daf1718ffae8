/-
  impl.compareAt, case by case, and by induction on the length of the part.
-/
import Derived.Test.YtikeffckhklhbaaGreatDoorX45
namespace Go.Proofs.YtikeffckhklhbaaGreatDoor
open Go.RowKit
set_option linter.unusedVariables false

set_option maxRecDepth 100000 in
set_option maxHeartbeats 8000000 in
theorem cat_same (v u : List M.Cl) (b off cap b' off' cap' f i j : Nat) (IH : Hid (CatSays v u b off cap b' off' cap' f)) (w : World) (HV : Hid (M.valueFault v = 0)) (HU : Hid (M.valueFault u = 0)) (hi : i < v.length) (hj : j < u.length) (hpl : (part v i).length ≤ f + 1) (hr : Row w b off v) (hb : b < w.heap.size) (hr' : Row w b' off' u) (hb' : b' < w.heap.size) (hcap : v.length ≤ cap) (hcap' : u.length ≤ cap') (x y : M.Cl) (hx : x = v.getD i M.zero) (hy : y = u.getD j M.zero) (hor : orCells x y = 0) (hxy : x = y) :
    Calls Tryz.prog 21 #[.slice (some ⟨b, off, none⟩) v.length cap, .int .i64 i, .slice (some ⟨b', off', none⟩) u.length cap', .int .i64 j] w fun e w' => e = .returned (.int .i64 (cmpL (f + 1) (part v i) (part u j))) ∧ Below w.heap.size w w' := by
  have hl := (M.fault_zero (unhide HV)).2.1
  have hl' := (M.fault_zero (unhide HU)).2.1
  obtain ⟨x0, x1, x2, x3, x4⟩ := hr i hi
  obtain ⟨y0, y1, y2, y3, y4⟩ := hr' j hj
  rw [← hx] at x0 x1 x2 x3 x4
  rw [← hy] at y0 y1 y2 y3 y4
  have HROW := hide hr
  have HROW' := hide hr'
  have fin := hide (cat_rest f (unhide HV) (unhide HU) hi hj (by rw [← hx, ← hy]; exact hor))
  rw [← hx] at fin
  have pv := M.places_in (unhide HV) i hi
  have pu := M.places_in (unhide HU) j hj
  have HIN := hide (fun k (hk : k < M.arity v i) => show M.iter v k (i + 1) < v.length ∧ (part v (M.iter v k (i + 1))).length ≤ f by
    have h1 := pv.1 k hk
    have h2 := pv.2.2.1
    have h3 : M.iter v k (i + 1) < v.length := by omega
    have h4 := part_len (unhide HV) hi
    have h5 := part_len (unhide HV) h3
    have h6 := (part_end (unhide HV) hi (M.iter v k (i + 1) - i) (by omega)).2
    rw [show i + (M.iter v k (i + 1) - i) = M.iter v k (i + 1) from by omega] at h6
    exact ⟨h3, by omega⟩)
  have HIN' := hide (fun k (hk : k < M.arity u j) => show M.iter u k (j + 1) < u.length by
    have h1 := pu.1 k hk
    have h2 := pu.2.2.1
    omega)
  have HSL := hide (subs_length v i)
  have HSL' := hide (subs_length u j)
  have HGD := hide (fun k (hk : k < M.arity v i) => subs_getD v i k hk)
  have HGD' := hide (fun k (hk : k < M.arity u j) => subs_getD u j k hk)
  have hm200 := pv.2.2.2
  have hm200' := pu.2.2.2
  clear pv pu
  subst hxy
  have a1 : (i : Int) < (v.length : Int) := by omega
  have a2 : (j : Int) < (u.length : Int) := by omega
  have n1 : b ≠ w.heap.size := by omega
  have n2 : b' ≠ w.heap.size := by omega
  clear hr hr' hx hy hpl hor
  go_enter Tryz.func21, Tryz.ntmps21
  go_wp2_with fail
  go_region
  · clear x0 x1 x2 x3 x4 y0 y1 y2 y3 y4
    go_wp2_with fail
    refine (childPlaces_any v b off cap i _ (unhide HV) hi ((unhide HROW).below ?BB hb) ?LL hcap).mono ?_
    case BB =>
      repeat (first | exact Below.refl _ _ | refine Below.drew ?_ | refine Below.alloc ?_ (by simp <;> omega) _)
    case LL => simp <;> omega
    rintro e w1 ⟨sl, rfl, hrl, hb1⟩
    have hX1 : Own w1 w.heap.size 41 [.int .i64 x.kind, .int .i64 x.num, .string x.text, .string x.key, .int .i64 x.n] := Own.below (Own.drew ⟨_, heap_alloc2_old _ _ _, rfl⟩) hb1 (by first | (simp; done) | (simp <;> omega) | omega)
    have B1 : Below w.heap.size w w1 := by
      refine Below.trans ?_ (hb1.mono ?_)
      · repeat (first | exact Below.refl _ _ | refine Below.drew ?_ | refine Below.alloc ?_ (by simp <;> omega) _)
      · simp <;> omega
    obtain ⟨al, cl, hsl⟩ := hrl.form
    rw [firstPl_length] at hsl
    subst hsl
    clear hb1
    go_wp2_with fail
    refine (childPlaces_any u b' off' cap' j _ (unhide HU) hj ((unhide HROW').below B1 hb') (Nat.lt_of_lt_of_le hb' B1.size) hcap').mono ?_
    rintro e w2 ⟨sr, rfl, hrr, hb2⟩
    have hX2 := hX1.below hb2 hX1.lt
    have hrl2 := hrl.below hb2
    have BW : Below w.heap.size w w2 := B1.trans (hb2.mono B1.size)
    obtain ⟨ar, cr, hsr⟩ := hrr.form
    rw [firstPl_length] at hsr
    subst hsr
    have k0 := hX2.cell 0
    simp only [List.getElem?_cons_zero] at k0
    have HCK := hide (compareKeys_any v u b off cap b' off' cap' i j _ _ _ _ w2 (unhide HV) (unhide HU) hi hj ((unhide HROW).below BW hb) (Nat.lt_of_lt_of_le hb BW.size) hcap ((unhide HROW').below BW hb') (Nat.lt_of_lt_of_le hb' BW.size) hcap' hrl2 hrr)
    have RL := hide hrl2
    have RR := hide hrr
    generalize M.arity v i = m at *
    generalize M.arity u j = m' at *
    clear hb2 hX1 hX2 B1 hrl hrl2 hrr
    by_cases k6 : x.kind = 6
    · have e6 : (x.kind == 6) = true := by simp [k6]
      have K6 := hide k6
      clear k6
      go_wp2_with fail
      refine (unhide HCK).mono ?_
      rintro e w3 ⟨rfl, hb3⟩
      have BW3 : Below w.heap.size w w3 := BW.trans (hb3.mono BW.size)
      have RL3 := hide ((unhide RL).below hb3)
      have RR3 := hide ((unhide RR).below hb3)
      clear hb3 k0 BW RL RR HCK
      have BW := BW3
      have RL := RL3
      have RR := RR3
      clear BW3 RL3 RR3
      generalize hlk : lex cmpK (keysAt v i) (keysAt u j) = lk at *
      by_cases hlz : lk = 0
      · subst hlz
        have FIN := hide (show cmpL (f + 1) (part v i) (part u j) = lex (cmpL f) (subs v i) (subs u j) by rw [unhide fin]; exact if_neg (fun g => g.2 rfl))
        clear fin hlk
        have hcase : (m = 0 ∨ m' = 0) ∨ (0 < m ∧ 0 < m' ∧ m ≤ m') ∨ (0 < m ∧ 0 < m' ∧ m' < m) := by omega
        rcases hcase with hz | hz | hz
        · have hz2 : (m = 0 ∧ m' = 0) ∨ (m = 0 ∧ 0 < m') ∨ (0 < m ∧ m' = 0) := by omega
          have FE := hide (lex_end (cmpL f) [] (subs v i) (subs u j) 0 (fun l hl => absurd hl (by omega)) (by rw [unhide HSL, unhide HSL']; omega))
          rw [unhide HSL, unhide HSL'] at FE
          have HS := hide (sgn_len m m')
          clear hz
          rcases hz2 with ⟨h1, h2⟩ | ⟨h1, h2⟩ | ⟨h1, h2⟩
          all_goals
            first | subst h1 | skip
            first | subst h2 | skip
            go_wp2_with fail
            refine wp_loop_rounds 1 ?_
            rw [rounds_succ]
            go_wp2_with fail
            refine (cmpInt_any _ _ _).mono ?_
            rintro e w9 ⟨rfl, hw9⟩
            subst hw9
            go_wp2_with fail
            go_ret
            exact ⟨ret_int (by first | exact (unhide HS).trans ((unhide FE).symm.trans (unhide FIN).symm) | (have h9 := (unhide HS).trans ((unhide FE).symm.trans (unhide FIN).symm); simpa using h9)), BW⟩
        all_goals
          obtain ⟨hz1, hz2, hz3⟩ := hz
          obtain ⟨g, c, hs1, hc1, ho1⟩ := (unhide RL).some (by rw [firstPl_length]; exact hz1)
          obtain ⟨g', c', hs2, hc2, ho2⟩ := (unhide RR).some (by rw [firstPl_length]; exact hz2)
          rw [firstPl_length] at hs1 hs2 hc1 hc2
          simp only [Value.slice.injEq] at hs1 hs2
          obtain ⟨rfl, _, rfl⟩ := hs1
          obtain ⟨rfl, _, rfl⟩ := hs2
          have HO := hide ho1
          have HO' := hide ho2
          have HS := hide (sgn_len m m')
          clear ho1 ho2
          go_wp2_with fail
          go_loopg [56] m (fun gn s56 wr => ∃ k : Nat, Hid (gn = m - k) ∧ s56 = .int .i64 k ∧ k ≤ m ∧ k ≤ m' ∧ Hid (∀ l, l < k → cmpL f ((subs v i).getD l []) ((subs u j).getD l []) = 0) ∧ Below w3.heap.size w3 wr)
          case atStart => exact ⟨0, rfl, rfl, by omega, by omega, fun l hl => absurd hl (by omega), Below.refl _ _⟩
          case round =>
            obtain ⟨k, hg, rfl, hk, hk', hall, hbel⟩ := hrel
            have BR : Below w.heap.size w wr := BW.trans (hbel.mono BW.size)
            by_cases hlt : k < m ∧ k < m'
            · obtain ⟨hlt, hlt'⟩ := hlt
              have f1 := ((unhide HO).below hbel (unhide HO).lt).cell (i := k) (by rw [firstPl_length]; exact hlt)
              have f2 := ((unhide HO').below hbel (unhide HO').lt).cell (i := k) (by rw [firstPl_length]; exact hlt')
              rw [firstPl_getD v i m k hlt] at f1
              rw [firstPl_getD u j m' k hlt'] at f2
              have hhit := hide (lex_hit (cmpL f) [] (subs v i) (subs u j) k hall.out (by rw [unhide HSL]; exact hlt) (by rw [unhide HSL']; exact hlt'))
              have hnext := hide (fun (h0 : cmpL f ((subs v i).getD k []) ((subs u j).getD k []) = 0) l (hl : l < k + 1) => show cmpL f ((subs v i).getD l []) ((subs u j).getD l []) = 0 by
                by_cases e : l = k
                · subst e; exact h0
                · exact hall.out l (by omega))
              rw [(unhide HGD) k hlt, (unhide HGD') k hlt'] at hhit hnext
              have hp := (unhide HIN) k hlt
              have hp' := (unhide HIN') k hlt'
              have HC := hide (fun w' (hbl : Below w.heap.size w w') => (unhide IH) (M.iter v k (i + 1)) (M.iter u k (j + 1)) w' hp.1 hp' hp.2 ((unhide HROW).below hbl hb) (Nat.lt_of_lt_of_le hb hbl.size) ((unhide HROW').below hbl hb') (Nat.lt_of_lt_of_le hb' hbl.size))
              clear hp hp'
              generalize cmpL f (part v (M.iter v k (i + 1))) (part u (M.iter u k (j + 1))) = q at *
              generalize M.iter v k (i + 1) = p1 at *
              generalize M.iter u k (j + 1) = p2 at *
              have a1 : (k : Int) < (m : Int) := by omega
              have a2 : (k : Int) < (m' : Int) := by omega
              go_wp2_with fail
              go_region_held3 (fun w' => w'.cell? ⟨g, k, none⟩ = some (.int .i64 p1) ∧ w'.cell? ⟨g', k, none⟩ = some (.int .i64 p2)) (first | (simp [go_sem, f1, f2]; done) | exact ⟨(hbq.cell (by exact Nat.lt_of_lt_of_le (unhide HO).lt hbel.size)).trans f1, (hbq.cell (by exact Nat.lt_of_lt_of_le (unhide HO').lt hbel.size)).trans f2⟩)
                (first | (go_at_call 21; refine ((unhide HC) _ BR.drew).mono ?_; rintro e wq ⟨rfl, hbq⟩))
              have BQ : Below w.heap.size w wq := BR.drew.trans (hbq.mono (by exact BR.size))
              have BQ' : Below w3.heap.size w3 wq := hbel.drew.trans (hbq.mono (by exact hbel.size))
              clear hbq
              by_cases hz : q = 0
              · subst hz
                have hn2 := hide ((unhide hnext) rfl)
                clear hhit hnext
                go_wp2_with fail
                go_roundg (m - (k + 1))
                case rel => exact ⟨k + 1, rfl, by go_num, by omega, by omega, unhide hn2, BQ'⟩
                case measure => have := hg.out; omega
              · have fin2 := hide ((unhide hhit) hz)
                have hz' : (q == 0) = false := by simp [hz]
                clear hhit hnext
                go_wp2_with fail
                go_ret
                exact ⟨ret_int ((unhide fin2).symm.trans (unhide FIN).symm), BQ⟩
            · have FE := hide (lex_end (cmpL f) [] (subs v i) (subs u j) k hall.out (by rw [unhide HSL, unhide HSL']; omega))
              rw [unhide HSL, unhide HSL'] at FE
              go_wp2_with fail
              refine (cmpInt_any _ _ _).mono ?_
              rintro e w9 ⟨rfl, hw9⟩
              subst hw9
              go_wp2_with fail
              go_ret
              exact ⟨ret_int ((unhide HS).trans ((unhide FE).symm.trans (unhide FIN).symm)), BR⟩
      · have FIN := hide (show cmpL (f + 1) (part v i) (part u j) = lk by rw [unhide fin]; exact if_pos ⟨unhide K6, hlz⟩)
        have hlz' : (lk == 0) = false := by simp [hlz]
        clear fin hlk
        go_wp2_with fail
        go_ret
        exact ⟨ret_int (unhide FIN).symm, BW⟩
    · have e6 : (x.kind == 6) = false := by simp [k6]
      have FIN := hide (show cmpL (f + 1) (part v i) (part u j) = lex (cmpL f) (subs v i) (subs u j) by rw [unhide fin]; exact if_neg (fun g => k6 g.1))
      clear fin k6 HCK
      have hcase : (m = 0 ∨ m' = 0) ∨ (0 < m ∧ 0 < m' ∧ m ≤ m') ∨ (0 < m ∧ 0 < m' ∧ m' < m) := by omega
      rcases hcase with hz | hz | hz
      · have hz2 : (m = 0 ∧ m' = 0) ∨ (m = 0 ∧ 0 < m') ∨ (0 < m ∧ m' = 0) := by omega
        have FE := hide (lex_end (cmpL f) [] (subs v i) (subs u j) 0 (fun l hl => absurd hl (by omega)) (by rw [unhide HSL, unhide HSL']; omega))
        rw [unhide HSL, unhide HSL'] at FE
        have HS := hide (sgn_len m m')
        clear hz
        rcases hz2 with ⟨h1, h2⟩ | ⟨h1, h2⟩ | ⟨h1, h2⟩
        all_goals
          first | subst h1 | skip
          first | subst h2 | skip
          go_wp2_with fail
          refine wp_loop_rounds 1 ?_
          rw [rounds_succ]
          go_wp2_with fail
          refine (cmpInt_any _ _ _).mono ?_
          rintro e w9 ⟨rfl, hw9⟩
          subst hw9
          go_wp2_with fail
          go_ret
          exact ⟨ret_int (by first | exact (unhide HS).trans ((unhide FE).symm.trans (unhide FIN).symm) | (have h9 := (unhide HS).trans ((unhide FE).symm.trans (unhide FIN).symm); simpa using h9)), BW⟩
      all_goals
        obtain ⟨hz1, hz2, hz3⟩ := hz
        obtain ⟨g, c, hs1, hc1, ho1⟩ := (unhide RL).some (by rw [firstPl_length]; exact hz1)
        obtain ⟨g', c', hs2, hc2, ho2⟩ := (unhide RR).some (by rw [firstPl_length]; exact hz2)
        rw [firstPl_length] at hs1 hs2 hc1 hc2
        simp only [Value.slice.injEq] at hs1 hs2
        obtain ⟨rfl, _, rfl⟩ := hs1
        obtain ⟨rfl, _, rfl⟩ := hs2
        have HO := hide ho1
        have HO' := hide ho2
        have HS := hide (sgn_len m m')
        clear ho1 ho2
        go_wp2_with fail
        go_loopg [56] m (fun gn s56 wr => ∃ k : Nat, Hid (gn = m - k) ∧ s56 = .int .i64 k ∧ k ≤ m ∧ k ≤ m' ∧ Hid (∀ l, l < k → cmpL f ((subs v i).getD l []) ((subs u j).getD l []) = 0) ∧ Below w2.heap.size w2 wr)
        case atStart => exact ⟨0, rfl, rfl, by omega, by omega, fun l hl => absurd hl (by omega), Below.refl _ _⟩
        case round =>
          obtain ⟨k, hg, rfl, hk, hk', hall, hbel⟩ := hrel
          have BR : Below w.heap.size w wr := BW.trans (hbel.mono BW.size)
          by_cases hlt : k < m ∧ k < m'
          · obtain ⟨hlt, hlt'⟩ := hlt
            have f1 := ((unhide HO).below hbel (unhide HO).lt).cell (i := k) (by rw [firstPl_length]; exact hlt)
            have f2 := ((unhide HO').below hbel (unhide HO').lt).cell (i := k) (by rw [firstPl_length]; exact hlt')
            rw [firstPl_getD v i m k hlt] at f1
            rw [firstPl_getD u j m' k hlt'] at f2
            have hhit := hide (lex_hit (cmpL f) [] (subs v i) (subs u j) k hall.out (by rw [unhide HSL]; exact hlt) (by rw [unhide HSL']; exact hlt'))
            have hnext := hide (fun (h0 : cmpL f ((subs v i).getD k []) ((subs u j).getD k []) = 0) l (hl : l < k + 1) => show cmpL f ((subs v i).getD l []) ((subs u j).getD l []) = 0 by
              by_cases e : l = k
              · subst e; exact h0
              · exact hall.out l (by omega))
            rw [(unhide HGD) k hlt, (unhide HGD') k hlt'] at hhit hnext
            have hp := (unhide HIN) k hlt
            have hp' := (unhide HIN') k hlt'
            have HC := hide (fun w' (hbl : Below w.heap.size w w') => (unhide IH) (M.iter v k (i + 1)) (M.iter u k (j + 1)) w' hp.1 hp' hp.2 ((unhide HROW).below hbl hb) (Nat.lt_of_lt_of_le hb hbl.size) ((unhide HROW').below hbl hb') (Nat.lt_of_lt_of_le hb' hbl.size))
            clear hp hp'
            generalize cmpL f (part v (M.iter v k (i + 1))) (part u (M.iter u k (j + 1))) = q at *
            generalize M.iter v k (i + 1) = p1 at *
            generalize M.iter u k (j + 1) = p2 at *
            have a1 : (k : Int) < (m : Int) := by omega
            have a2 : (k : Int) < (m' : Int) := by omega
            go_wp2_with fail
            go_region_held3 (fun w' => w'.cell? ⟨g, k, none⟩ = some (.int .i64 p1) ∧ w'.cell? ⟨g', k, none⟩ = some (.int .i64 p2)) (first | (simp [go_sem, f1, f2]; done) | exact ⟨(hbq.cell (by exact Nat.lt_of_lt_of_le (unhide HO).lt hbel.size)).trans f1, (hbq.cell (by exact Nat.lt_of_lt_of_le (unhide HO').lt hbel.size)).trans f2⟩)
              (first | (go_at_call 21; refine ((unhide HC) _ BR.drew).mono ?_; rintro e wq ⟨rfl, hbq⟩))
            have BQ : Below w.heap.size w wq := BR.drew.trans (hbq.mono (by exact BR.size))
            have BQ' : Below w2.heap.size w2 wq := hbel.drew.trans (hbq.mono (by exact hbel.size))
            clear hbq
            by_cases hz : q = 0
            · subst hz
              have hn2 := hide ((unhide hnext) rfl)
              clear hhit hnext
              go_wp2_with fail
              go_roundg (m - (k + 1))
              case rel => exact ⟨k + 1, rfl, by go_num, by omega, by omega, unhide hn2, BQ'⟩
              case measure => have := hg.out; omega
            · have fin2 := hide ((unhide hhit) hz)
              have hz' : (q == 0) = false := by simp [hz]
              clear hhit hnext
              go_wp2_with fail
              go_ret
              exact ⟨ret_int ((unhide fin2).symm.trans (unhide FIN).symm), BQ⟩
          · have FE := hide (lex_end (cmpL f) [] (subs v i) (subs u j) k hall.out (by rw [unhide HSL, unhide HSL']; omega))
            rw [unhide HSL, unhide HSL'] at FE
            go_wp2_with fail
            refine (cmpInt_any _ _ _).mono ?_
            rintro e w9 ⟨rfl, hw9⟩
            subst hw9
            go_wp2_with fail
            go_ret
            exact ⟨ret_int ((unhide HS).trans ((unhide FE).symm.trans (unhide FIN).symm)), BR⟩
  · clear x0 x1 x2 x3 x4 y0 y1 y2 y3 y4
    go_wp2_with fail
    refine (childPlaces_any v b off cap i _ (unhide HV) hi ((unhide HROW).below ?BB hb) ?LL hcap).mono ?_
    case BB =>
      repeat (first | exact Below.refl _ _ | refine Below.drew ?_ | refine Below.alloc ?_ (by simp <;> omega) _)
    case LL => simp <;> omega
    rintro e w1 ⟨sl, rfl, hrl, hb1⟩
    have hX1 : Own w1 (w.heap.size + 1) 41 [.int .i64 x.kind, .int .i64 x.num, .string x.text, .string x.key, .int .i64 x.n] := Own.below (Own.drew ⟨_, heap_alloc2_new _ _ _, rfl⟩) hb1 (by first | (simp; done) | (simp <;> omega) | omega)
    have B1 : Below w.heap.size w w1 := by
      refine Below.trans ?_ (hb1.mono ?_)
      · repeat (first | exact Below.refl _ _ | refine Below.drew ?_ | refine Below.alloc ?_ (by simp <;> omega) _)
      · simp <;> omega
    obtain ⟨al, cl, hsl⟩ := hrl.form
    rw [firstPl_length] at hsl
    subst hsl
    clear hb1
    go_wp2_with fail
    refine (childPlaces_any u b' off' cap' j _ (unhide HU) hj ((unhide HROW').below B1 hb') (Nat.lt_of_lt_of_le hb' B1.size) hcap').mono ?_
    rintro e w2 ⟨sr, rfl, hrr, hb2⟩
    have hX2 := hX1.below hb2 hX1.lt
    have hrl2 := hrl.below hb2
    have BW : Below w.heap.size w w2 := B1.trans (hb2.mono B1.size)
    obtain ⟨ar, cr, hsr⟩ := hrr.form
    rw [firstPl_length] at hsr
    subst hsr
    have k0 := hX2.cell 0
    simp only [List.getElem?_cons_zero] at k0
    have HCK := hide (compareKeys_any v u b off cap b' off' cap' i j _ _ _ _ w2 (unhide HV) (unhide HU) hi hj ((unhide HROW).below BW hb) (Nat.lt_of_lt_of_le hb BW.size) hcap ((unhide HROW').below BW hb') (Nat.lt_of_lt_of_le hb' BW.size) hcap' hrl2 hrr)
    have RL := hide hrl2
    have RR := hide hrr
    generalize M.arity v i = m at *
    generalize M.arity u j = m' at *
    clear hb2 hX1 hX2 B1 hrl hrl2 hrr
    by_cases k6 : x.kind = 6
    · have e6 : (x.kind == 6) = true := by simp [k6]
      have K6 := hide k6
      clear k6
      go_wp2_with fail
      refine (unhide HCK).mono ?_
      rintro e w3 ⟨rfl, hb3⟩
      have BW3 : Below w.heap.size w w3 := BW.trans (hb3.mono BW.size)
      have RL3 := hide ((unhide RL).below hb3)
      have RR3 := hide ((unhide RR).below hb3)
      clear hb3 k0 BW RL RR HCK
      have BW := BW3
      have RL := RL3
      have RR := RR3
      clear BW3 RL3 RR3
      generalize hlk : lex cmpK (keysAt v i) (keysAt u j) = lk at *
      by_cases hlz : lk = 0
      · subst hlz
        have FIN := hide (show cmpL (f + 1) (part v i) (part u j) = lex (cmpL f) (subs v i) (subs u j) by rw [unhide fin]; exact if_neg (fun g => g.2 rfl))
        clear fin hlk
        have hcase : (m = 0 ∨ m' = 0) ∨ (0 < m ∧ 0 < m' ∧ m ≤ m') ∨ (0 < m ∧ 0 < m' ∧ m' < m) := by omega
        rcases hcase with hz | hz | hz
        · have hz2 : (m = 0 ∧ m' = 0) ∨ (m = 0 ∧ 0 < m') ∨ (0 < m ∧ m' = 0) := by omega
          have FE := hide (lex_end (cmpL f) [] (subs v i) (subs u j) 0 (fun l hl => absurd hl (by omega)) (by rw [unhide HSL, unhide HSL']; omega))
          rw [unhide HSL, unhide HSL'] at FE
          have HS := hide (sgn_len m m')
          clear hz
          rcases hz2 with ⟨h1, h2⟩ | ⟨h1, h2⟩ | ⟨h1, h2⟩
          all_goals
            first | subst h1 | skip
            first | subst h2 | skip
            go_wp2_with fail
            refine wp_loop_rounds 1 ?_
            rw [rounds_succ]
            go_wp2_with fail
            refine (cmpInt_any _ _ _).mono ?_
            rintro e w9 ⟨rfl, hw9⟩
            subst hw9
            go_wp2_with fail
            go_ret
            exact ⟨ret_int (by first | exact (unhide HS).trans ((unhide FE).symm.trans (unhide FIN).symm) | (have h9 := (unhide HS).trans ((unhide FE).symm.trans (unhide FIN).symm); simpa using h9)), BW⟩
        all_goals
          obtain ⟨hz1, hz2, hz3⟩ := hz
          obtain ⟨g, c, hs1, hc1, ho1⟩ := (unhide RL).some (by rw [firstPl_length]; exact hz1)
          obtain ⟨g', c', hs2, hc2, ho2⟩ := (unhide RR).some (by rw [firstPl_length]; exact hz2)
          rw [firstPl_length] at hs1 hs2 hc1 hc2
          simp only [Value.slice.injEq] at hs1 hs2
          obtain ⟨rfl, _, rfl⟩ := hs1
          obtain ⟨rfl, _, rfl⟩ := hs2
          have HO := hide ho1
          have HO' := hide ho2
          have HS := hide (sgn_len m m')
          clear ho1 ho2
          go_wp2_with fail
          go_loopg [56] m (fun gn s56 wr => ∃ k : Nat, Hid (gn = m - k) ∧ s56 = .int .i64 k ∧ k ≤ m ∧ k ≤ m' ∧ Hid (∀ l, l < k → cmpL f ((subs v i).getD l []) ((subs u j).getD l []) = 0) ∧ Below w3.heap.size w3 wr)
          case atStart => exact ⟨0, rfl, rfl, by omega, by omega, fun l hl => absurd hl (by omega), Below.refl _ _⟩
          case round =>
            obtain ⟨k, hg, rfl, hk, hk', hall, hbel⟩ := hrel
            have BR : Below w.heap.size w wr := BW.trans (hbel.mono BW.size)
            by_cases hlt : k < m ∧ k < m'
            · obtain ⟨hlt, hlt'⟩ := hlt
              have f1 := ((unhide HO).below hbel (unhide HO).lt).cell (i := k) (by rw [firstPl_length]; exact hlt)
              have f2 := ((unhide HO').below hbel (unhide HO').lt).cell (i := k) (by rw [firstPl_length]; exact hlt')
              rw [firstPl_getD v i m k hlt] at f1
              rw [firstPl_getD u j m' k hlt'] at f2
              have hhit := hide (lex_hit (cmpL f) [] (subs v i) (subs u j) k hall.out (by rw [unhide HSL]; exact hlt) (by rw [unhide HSL']; exact hlt'))
              have hnext := hide (fun (h0 : cmpL f ((subs v i).getD k []) ((subs u j).getD k []) = 0) l (hl : l < k + 1) => show cmpL f ((subs v i).getD l []) ((subs u j).getD l []) = 0 by
                by_cases e : l = k
                · subst e; exact h0
                · exact hall.out l (by omega))
              rw [(unhide HGD) k hlt, (unhide HGD') k hlt'] at hhit hnext
              have hp := (unhide HIN) k hlt
              have hp' := (unhide HIN') k hlt'
              have HC := hide (fun w' (hbl : Below w.heap.size w w') => (unhide IH) (M.iter v k (i + 1)) (M.iter u k (j + 1)) w' hp.1 hp' hp.2 ((unhide HROW).below hbl hb) (Nat.lt_of_lt_of_le hb hbl.size) ((unhide HROW').below hbl hb') (Nat.lt_of_lt_of_le hb' hbl.size))
              clear hp hp'
              generalize cmpL f (part v (M.iter v k (i + 1))) (part u (M.iter u k (j + 1))) = q at *
              generalize M.iter v k (i + 1) = p1 at *
              generalize M.iter u k (j + 1) = p2 at *
              have a1 : (k : Int) < (m : Int) := by omega
              have a2 : (k : Int) < (m' : Int) := by omega
              go_wp2_with fail
              go_region_held3 (fun w' => w'.cell? ⟨g, k, none⟩ = some (.int .i64 p1) ∧ w'.cell? ⟨g', k, none⟩ = some (.int .i64 p2)) (first | (simp [go_sem, f1, f2]; done) | exact ⟨(hbq.cell (by exact Nat.lt_of_lt_of_le (unhide HO).lt hbel.size)).trans f1, (hbq.cell (by exact Nat.lt_of_lt_of_le (unhide HO').lt hbel.size)).trans f2⟩)
                (first | (go_at_call 21; refine ((unhide HC) _ BR.drew).mono ?_; rintro e wq ⟨rfl, hbq⟩))
              have BQ : Below w.heap.size w wq := BR.drew.trans (hbq.mono (by exact BR.size))
              have BQ' : Below w3.heap.size w3 wq := hbel.drew.trans (hbq.mono (by exact hbel.size))
              clear hbq
              by_cases hz : q = 0
              · subst hz
                have hn2 := hide ((unhide hnext) rfl)
                clear hhit hnext
                go_wp2_with fail
                go_roundg (m - (k + 1))
                case rel => exact ⟨k + 1, rfl, by go_num, by omega, by omega, unhide hn2, BQ'⟩
                case measure => have := hg.out; omega
              · have fin2 := hide ((unhide hhit) hz)
                have hz' : (q == 0) = false := by simp [hz]
                clear hhit hnext
                go_wp2_with fail
                go_ret
                exact ⟨ret_int ((unhide fin2).symm.trans (unhide FIN).symm), BQ⟩
            · have FE := hide (lex_end (cmpL f) [] (subs v i) (subs u j) k hall.out (by rw [unhide HSL, unhide HSL']; omega))
              rw [unhide HSL, unhide HSL'] at FE
              go_wp2_with fail
              refine (cmpInt_any _ _ _).mono ?_
              rintro e w9 ⟨rfl, hw9⟩
              subst hw9
              go_wp2_with fail
              go_ret
              exact ⟨ret_int ((unhide HS).trans ((unhide FE).symm.trans (unhide FIN).symm)), BR⟩
      · have FIN := hide (show cmpL (f + 1) (part v i) (part u j) = lk by rw [unhide fin]; exact if_pos ⟨unhide K6, hlz⟩)
        have hlz' : (lk == 0) = false := by simp [hlz]
        clear fin hlk
        go_wp2_with fail
        go_ret
        exact ⟨ret_int (unhide FIN).symm, BW⟩
    · have e6 : (x.kind == 6) = false := by simp [k6]
      have FIN := hide (show cmpL (f + 1) (part v i) (part u j) = lex (cmpL f) (subs v i) (subs u j) by rw [unhide fin]; exact if_neg (fun g => k6 g.1))
      clear fin k6 HCK
      have hcase : (m = 0 ∨ m' = 0) ∨ (0 < m ∧ 0 < m' ∧ m ≤ m') ∨ (0 < m ∧ 0 < m' ∧ m' < m) := by omega
      rcases hcase with hz | hz | hz
      · have hz2 : (m = 0 ∧ m' = 0) ∨ (m = 0 ∧ 0 < m') ∨ (0 < m ∧ m' = 0) := by omega
        have FE := hide (lex_end (cmpL f) [] (subs v i) (subs u j) 0 (fun l hl => absurd hl (by omega)) (by rw [unhide HSL, unhide HSL']; omega))
        rw [unhide HSL, unhide HSL'] at FE
        have HS := hide (sgn_len m m')
        clear hz
        rcases hz2 with ⟨h1, h2⟩ | ⟨h1, h2⟩ | ⟨h1, h2⟩
        all_goals
          first | subst h1 | skip
          first | subst h2 | skip
          go_wp2_with fail
          refine wp_loop_rounds 1 ?_
          rw [rounds_succ]
          go_wp2_with fail
          refine (cmpInt_any _ _ _).mono ?_
          rintro e w9 ⟨rfl, hw9⟩
          subst hw9
          go_wp2_with fail
          go_ret
          exact ⟨ret_int (by first | exact (unhide HS).trans ((unhide FE).symm.trans (unhide FIN).symm) | (have h9 := (unhide HS).trans ((unhide FE).symm.trans (unhide FIN).symm); simpa using h9)), BW⟩
      all_goals
        obtain ⟨hz1, hz2, hz3⟩ := hz
        obtain ⟨g, c, hs1, hc1, ho1⟩ := (unhide RL).some (by rw [firstPl_length]; exact hz1)
        obtain ⟨g', c', hs2, hc2, ho2⟩ := (unhide RR).some (by rw [firstPl_length]; exact hz2)
        rw [firstPl_length] at hs1 hs2 hc1 hc2
        simp only [Value.slice.injEq] at hs1 hs2
        obtain ⟨rfl, _, rfl⟩ := hs1
        obtain ⟨rfl, _, rfl⟩ := hs2
        have HO := hide ho1
        have HO' := hide ho2
        have HS := hide (sgn_len m m')
        clear ho1 ho2
        go_wp2_with fail
        go_loopg [56] m (fun gn s56 wr => ∃ k : Nat, Hid (gn = m - k) ∧ s56 = .int .i64 k ∧ k ≤ m ∧ k ≤ m' ∧ Hid (∀ l, l < k → cmpL f ((subs v i).getD l []) ((subs u j).getD l []) = 0) ∧ Below w2.heap.size w2 wr)
        case atStart => exact ⟨0, rfl, rfl, by omega, by omega, fun l hl => absurd hl (by omega), Below.refl _ _⟩
        case round =>
          obtain ⟨k, hg, rfl, hk, hk', hall, hbel⟩ := hrel
          have BR : Below w.heap.size w wr := BW.trans (hbel.mono BW.size)
          by_cases hlt : k < m ∧ k < m'
          · obtain ⟨hlt, hlt'⟩ := hlt
            have f1 := ((unhide HO).below hbel (unhide HO).lt).cell (i := k) (by rw [firstPl_length]; exact hlt)
            have f2 := ((unhide HO').below hbel (unhide HO').lt).cell (i := k) (by rw [firstPl_length]; exact hlt')
            rw [firstPl_getD v i m k hlt] at f1
            rw [firstPl_getD u j m' k hlt'] at f2
            have hhit := hide (lex_hit (cmpL f) [] (subs v i) (subs u j) k hall.out (by rw [unhide HSL]; exact hlt) (by rw [unhide HSL']; exact hlt'))
            have hnext := hide (fun (h0 : cmpL f ((subs v i).getD k []) ((subs u j).getD k []) = 0) l (hl : l < k + 1) => show cmpL f ((subs v i).getD l []) ((subs u j).getD l []) = 0 by
              by_cases e : l = k
              · subst e; exact h0
              · exact hall.out l (by omega))
            rw [(unhide HGD) k hlt, (unhide HGD') k hlt'] at hhit hnext
            have hp := (unhide HIN) k hlt
            have hp' := (unhide HIN') k hlt'
            have HC := hide (fun w' (hbl : Below w.heap.size w w') => (unhide IH) (M.iter v k (i + 1)) (M.iter u k (j + 1)) w' hp.1 hp' hp.2 ((unhide HROW).below hbl hb) (Nat.lt_of_lt_of_le hb hbl.size) ((unhide HROW').below hbl hb') (Nat.lt_of_lt_of_le hb' hbl.size))
            clear hp hp'
            generalize cmpL f (part v (M.iter v k (i + 1))) (part u (M.iter u k (j + 1))) = q at *
            generalize M.iter v k (i + 1) = p1 at *
            generalize M.iter u k (j + 1) = p2 at *
            have a1 : (k : Int) < (m : Int) := by omega
            have a2 : (k : Int) < (m' : Int) := by omega
            go_wp2_with fail
            go_region_held3 (fun w' => w'.cell? ⟨g, k, none⟩ = some (.int .i64 p1) ∧ w'.cell? ⟨g', k, none⟩ = some (.int .i64 p2)) (first | (simp [go_sem, f1, f2]; done) | exact ⟨(hbq.cell (by exact Nat.lt_of_lt_of_le (unhide HO).lt hbel.size)).trans f1, (hbq.cell (by exact Nat.lt_of_lt_of_le (unhide HO').lt hbel.size)).trans f2⟩)
              (first | (go_at_call 21; refine ((unhide HC) _ BR.drew).mono ?_; rintro e wq ⟨rfl, hbq⟩))
            have BQ : Below w.heap.size w wq := BR.drew.trans (hbq.mono (by exact BR.size))
            have BQ' : Below w2.heap.size w2 wq := hbel.drew.trans (hbq.mono (by exact hbel.size))
            clear hbq
            by_cases hz : q = 0
            · subst hz
              have hn2 := hide ((unhide hnext) rfl)
              clear hhit hnext
              go_wp2_with fail
              go_roundg (m - (k + 1))
              case rel => exact ⟨k + 1, rfl, by go_num, by omega, by omega, unhide hn2, BQ'⟩
              case measure => have := hg.out; omega
            · have fin2 := hide ((unhide hhit) hz)
              have hz' : (q == 0) = false := by simp [hz]
              clear hhit hnext
              go_wp2_with fail
              go_ret
              exact ⟨ret_int ((unhide fin2).symm.trans (unhide FIN).symm), BQ⟩
          · have FE := hide (lex_end (cmpL f) [] (subs v i) (subs u j) k hall.out (by rw [unhide HSL, unhide HSL']; omega))
            rw [unhide HSL, unhide HSL'] at FE
            go_wp2_with fail
            refine (cmpInt_any _ _ _).mono ?_
            rintro e w9 ⟨rfl, hw9⟩
            subst hw9
            go_wp2_with fail
            go_ret
            exact ⟨ret_int ((unhide HS).trans ((unhide FE).symm.trans (unhide FIN).symm)), BR⟩

end Go.Proofs.YtikeffckhklhbaaGreatDoor
