/-
  impl.paths: the paths as slices of one row; impl.pathsWhere, impl.PathsIn, impl.LeavesIn.
  Marks in slices that lie one behind the other in one row; what the laws of paths find.
  spec.PathsIn and spec.LeavesIn; paths are few and small.
-/
import Derived.Test.YtlbmpldknfcfhaaDoorU35
import Derived.Test.YtlbmpldknfcfhaaDoorU36
namespace Go.Proofs.YtlbmpldknfcfhaaDoor
open Go.RowKit
set_option linter.unusedVariables false
set_option linter.unusedSimpArgs false
namespace Al
/-- The slice v holds slices, one behind the other, of one row; both rows lie from lo on and ahead of hi. -/
def Qs (w : World) (lo hi : Nat) (v : Value) (L : List (List M.Cl)) : Prop :=
  (v = .slice none 0 0 ∧ L = []) ∨ ∃ (g cap : Nat) (xs : List Value) (cb : Nat), v = .slice (some ⟨g, 0, none⟩) L.length cap ∧ L.length ≤ cap ∧ lo ≤ g ∧ g < hi ∧ Own w g 27 xs ∧ OwnG w cb 44 L.flatten ∧ lo ≤ cb ∧ cb < hi ∧
    ∀ i, i < L.length → xs[i]? = some (.slice (some ⟨cb, tot L i * 5, none⟩) (L.getD i []).length (L.getD i []).length)
theorem lays_map (S : List (List M.Cl)) : lays S = (S.map pathC).flatten := by simp [lays, List.flatMap]
theorem ends_at : ∀ (S : List (List M.Cl)) (n k : Nat), k < S.length → (ends n S).getD k 0 = n + tot (S.map pathC) (k + 1)
  | [], n, k, h => by simp at h
  | p :: S, n, 0, h => by simp [ends, tot, pathC_length]
  | p :: S, n, k + 1, h => by
    have ih := ends_at S (n + (p.length + 1)) k (by simpa using h)
    rw [ends, List.getD_cons_succ, ih]
    simp [tot, pathC_length]
    omega
theorem tot_all (L : List (List M.Cl)) : tot L L.length = L.flatten.length := by simp [tot, List.length_flatten]
/-- The beginning of the k-th. -/
theorem flat_cut (L : List (List M.Cl)) (k : Nat) (hk : k < L.length) : ∀ i, i < (L.getD k []).length → L.flatten.getD (tot L k + i) M.zero = (L.getD k []).getD i M.zero := by
  induction L generalizing k with
  | nil => simp at hk
  | cons p L ih =>
    intro i hi
    cases k with
    | zero =>
      simp only [List.getD_cons_zero] at hi ⊢
      rw [tot_zero, Nat.zero_add, List.flatten_cons, List.getD_eq_getElem?_getD, List.getElem?_append_left hi, ← List.getD_eq_getElem?_getD]
    | succ k =>
      simp only [List.getD_cons_succ] at hi ⊢
      have := ih k (by simpa using hk) i hi
      rw [List.flatten_cons, show tot (p :: L) (k + 1) = p.length + tot L k by simp [tot], List.getD_eq_getElem?_getD, List.getElem?_append_right (by omega), show p.length + tot L k + i - p.length = tot L k + i by omega, ← List.getD_eq_getElem?_getD]
      exact this
/-- A part of a row. -/
theorem Row.cut2 {w : World} {b : Nat} {L : List (List M.Cl)} (h : Row w b 0 L.flatten) {k : Nat} (hk : k < L.length) : Row w b (tot L k * 5) (L.getD k []) := by
  intro i hi
  have h1 := tot_succ L k hk
  have h2 := tot_le L L.length (k + 1) (by omega) (Nat.le_refl _)
  have h3 := tot_all L
  have := h (tot L k + i) (by omega)
  rw [flat_cut L k hk i hi, Nat.zero_add, Nat.add_mul] at this
  exact this
theorem Qs.at {w : World} {lo hi : Nat} {v : Value} {L : List (List M.Cl)} (h : Qs w lo hi v L) {i : Nat} (hi' : i < L.length) : ∃ g cap b, v = .slice (some ⟨g, 0, none⟩) L.length cap ∧ L.length ≤ cap ∧ g < w.heap.size ∧ w.cell? ⟨g, i, none⟩ = some (.slice (some ⟨b, tot L i * 5, none⟩) (L.getD i []).length (L.getD i []).length) ∧ b < w.heap.size ∧ Row w b (tot L i * 5) (L.getD i []) := by
  rcases h with ⟨_, h⟩ | ⟨g, cap, xs, cb, h1, h2, h3, h4, h5, h6, h7, h8, h9⟩
  · rw [h] at hi'; simp at hi'
  · exact ⟨g, cap, cb, h1, h2, h5.lt, (h5.cell i).trans (h9 i hi'), h6.lt, Row.cut2 h6.row hi'⟩
theorem Qs.shape {w : World} {lo hi : Nat} {v : Value} {L : List (List M.Cl)} (h : Qs w lo hi v L) : ∃ a n c, v = .slice a n c := by
  rcases h with ⟨rfl, _⟩ | ⟨g, cap, xs, cb, rfl, _⟩
  · exact ⟨_, _, _, rfl⟩
  · exact ⟨_, _, _, rfl⟩
theorem Qs.shapeN {w : World} {lo hi : Nat} {v : Value} {L : List (List M.Cl)} (h : Qs w lo hi v L) : ∃ a c, v = .slice a L.length c := by
  rcases h with ⟨rfl, h⟩ | ⟨g, cap, xs, cb, rfl, _⟩
  · exact ⟨none, 0, by rw [h]; rfl⟩
  · exact ⟨_, _, rfl⟩
theorem Qs.keep {w w' : World} {lo hi : Nat} {v : Value} {L : List (List M.Cl)} (h : Qs w lo hi v L) (hk : ∀ k, lo ≤ k → k < hi → k < w.heap.size → w'.heap[k]? = w.heap[k]?) : Qs w' lo hi v L := by
  rcases h with h | ⟨g, cap, xs, cb, h1, h2, h3, h4, h5, h6, h7, h8, h9⟩
  · exact .inl h
  · exact .inr ⟨g, cap, xs, cb, h1, h2, h3, h4, h5.keep (hk g h3 h4 h5.lt), h6.keep (hk cb h7 h8 h6.lt), h7, h8, h9⟩
theorem Qs.below {w w' : World} {lo hi : Nat} {v : Value} {L : List (List M.Cl)} (h : Qs w lo hi v L) (hb : Below w.heap.size w w') : Qs w' lo hi v L := h.keep fun k _ _ hk => hb.block k hk
theorem Qs.mono {w : World} {lo hi lo' hi' : Nat} {v : Value} {L : List (List M.Cl)} (h : Qs w lo hi v L) (h1 : lo' ≤ lo) (h2 : hi ≤ hi') : Qs w lo' hi' v L := by
  rcases h with h | ⟨g, cap, xs, cb, q1, q2, q3, q4, q5, q6, q7, q8, q9⟩
  · exact .inl h
  · exact .inr ⟨g, cap, xs, cb, q1, q2, by omega, by omega, q5, q6, by omega, by omega, q9⟩

set_option maxRecDepth 100000 in
set_option maxHeartbeats 2000000 in
theorem paths_any (base PB : Nat) (S : List (List M.Cl)) (cv ev : Value) (w : World) (h : Ls base w PB (lays S) (ends 0 S) cv ev) (hS : S.length ≤ 1000) (hC : (lays S).length ≤ 1000000) (hbw : base ≤ w.heap.size) :
    Calls Tryd.prog 70 #[.pointer (some ⟨PB, 0, none⟩)] w fun e w' => ∃ s, e = .returned s ∧ Qs w' base w'.heap.size s (S.map pathC) ∧ Below w.heap.size w w' := by
  obtain ⟨i0, hi, hz0, hz1, hz2⟩ := info_parts Tryd.info27
  have hlt := h.own.lt
  obtain ⟨L, hL⟩ : ∃ L, L = S.map pathC := ⟨_, rfl⟩
  have HLE := hide (show L.length = S.length by rw [hL, List.length_map])
  have hn : L.length ≤ 1000 := by rw [unhide HLE]; exact hS
  have hfl : lays S = L.flatten := by rw [hL]; exact lays_map S
  have HEN := hide (fun k (hk : k < L.length) => (show (ends 0 S).getD k 0 = tot L (k + 1) by rw [ends_at S 0 k (by rw [← unhide HLE]; exact hk), Nat.zero_add, hL]))
  have hel : (ends 0 S).length = L.length := by rw [ends_length, unhide HLE]
  have hne : ∀ k, k < L.length → 1 ≤ (L.getD k []).length := fun k hk => by
    rw [hL, List.getD_eq_getElem?_getD, List.getElem?_map, List.getElem?_eq_getElem (by rw [← unhide HLE]; exact hk)]
    simp [pathC]
  rw [← hL]
  have hcl := h.cells
  have hen := h.ends
  have hcN : (lays S).length = tot L L.length := by rw [hfl, tot_all]
  rw [hfl] at hcl
  rw [← tot_all] at hcl
  rw [hel] at hen
  rw [hcN] at hC
  obtain ⟨ca, cc, rfl⟩ := row_len hcl
  obtain ⟨ea, ec, rfl⟩ := row_len hen
  have g0 := h.own.cell 0
  have g1 := h.own.cell 1
  simp only [List.getElem?_cons_zero, List.getElem?_cons_succ] at g0 g1
  have HO := hide h.own
  have HNE := hide hne
  have HCL := hide hcl
  have HEN2 := hide hen
  generalize ends 0 S = E at *
  clear h hL hfl hS hcN hne hcl hen
  generalize hn' : L.length = n at *
  have HN := hide hn'
  clear hn'
  obtain ⟨nC, hnC⟩ : ∃ k, k = tot L n := ⟨_, rfl⟩
  have HNC := hide hnC
  rw [← hnC] at g0 hC HCL
  clear hnC
  go_enter Tryd.func70, Tryd.ntmps70
  go_wp2_with fail
  go_loopg [3, 4, 12] n (fun g s3 s4 s12 wr => ∃ (k : Nat) (xs : List Value), Hid (g = n - k) ∧ s12 = .int .i64 (k : Int) ∧ s4 = .int .i64 (tot L k : Int) ∧ k ≤ n ∧ Hid (k = 0 → s3 = .slice none 0 0) ∧ Hid (wr.ownsRow w.heap.size 27 1 s3 k xs) ∧ Hid (∀ i, i < k → ∃ cb, ca = some ⟨cb, 0, none⟩ ∧ xs[i]? = some (.slice (some ⟨cb, tot L i * 5, none⟩) (L.getD i []).length (L.getD i []).length)) ∧ Below w.heap.size w wr)
  case atStart => exact ⟨0, [], rfl, rfl, by rw [tot_zero]; rfl, by omega, fun _ => rfl, World.ownsRow_nil _ _ _ _, fun i hi => absurd hi (by omega), Below.refl _ _⟩
  case round =>
    obtain ⟨k, xs, hg, rfl, rfl, hk, hz, hown, hxs, hbel⟩ := hrel
    by_cases hlt2 : k < n
    · obtain ⟨q1, ⟨q2, q3⟩ | ⟨cb, cc', cur, q2, q3, q4, q5, q6, q7, q8⟩⟩ := unhide HCL
      · have := tot_succ L k (by rw [unhide HN]; exact hlt2)
        have := tot_le L n (k + 1) (by omega) (by rw [unhide HN]; exact Nat.le_refl _)
        have := (unhide HNE) k hlt2
        have := unhide HNC
        omega
      cases q2
      have t1 := tot_succ L k (by rw [unhide HN]; exact hlt2)
      have t2 := tot_le L n (k + 1) (by omega) (by rw [unhide HN]; exact Nat.le_refl _)
      have t3 := (unhide HNE) k hlt2
      rw [← unhide HNC] at t2
      obtain ⟨eb, hea, hebl, fe⟩ : ∃ eb, ea = some ⟨eb, 0, none⟩ ∧ eb < w.heap.size ∧ w.cell? ⟨eb, k, none⟩ = some (.int .i64 (tot L (k + 1) : Int)) := by
        obtain ⟨p1, ⟨p2, p3⟩ | ⟨eb, ec', cur', p2, p3, p4, p5, p6, p7, p8⟩⟩ := unhide HEN2
        · omega
        cases p2
        refine ⟨eb, rfl, (Array.getElem?_eq_some_iff.1 p4).1, ?_⟩
        rw [cell_in p4, ← (unhide HEN) k hlt2]
        have h1 : cur'.toList[k]? = (natV E)[k]? := by rw [← p8, List.getElem?_take_of_lt (by omega)]
        rw [h1]
        have hkE : k < E.length := by rw [hel]; exact hlt2
        simp [natV, List.getD_eq_getElem?_getD, List.getElem?_eq_getElem hkE]
      subst hea
      have fe := (hbel.cell hebl).trans fe
      have g0' := (hbel.cell hlt).trans g0
      have hcbl : cb < w.heap.size := (Array.getElem?_eq_some_iff.1 q4).1
      obtain ⟨m, hm⟩ : ∃ m, m = (L.getD k []).length := ⟨_, rfl⟩
      obtain ⟨bg, hbg⟩ : ∃ bg, bg = tot L k := ⟨_, rfl⟩
      rw [← hm] at t1 t3
      rw [← hbg] at t1 ⊢
      rw [t1] at t2 fe
      have HM := hide hm
      have HBG := hide hbg
      have HT1 := hide t1
      clear hm hbg t1 q7 q8
      have hk0 : (0 : Int) ≤ (k : Int) := by omega
      have kI : (k : Int) < (n : Int) := by omega
      obtain ⟨W1, hW1⟩ : ∃ W1, W1 = wr.alloc (.cells #[.slice (some ⟨cb, bg * 5, none⟩) m m] 27) := ⟨_, rfl⟩
      have B1 : Below wr.heap.size wr W1 := by rw [hW1]; exact (Below.refl _ _).alloc (Nat.le_refl _) _
      have HN1 := hide (show ∀ j u, ([Value.slice (some ⟨cb, bg * 5, none⟩) m m] : List Value)[j]? = some u → W1.cell? ((⟨wr.heap.size, 0, none⟩ : Addr).add j) = some u by rw [hW1]; exact one_val wr _ _)
      have HO1 := hide (row_below hown.out B1)
      have hb63 : k + ([Value.slice (some ⟨cb, bg * 5, none⟩) m m] : List Value).length ≤ maxLen := by unfold maxLen; simp; omega
      have hby : (k + ([Value.slice (some ⟨cb, bg * 5, none⟩) m m] : List Value).length) * 24 ≤ 140737488355328 := by simp; omega
      have hbas : w.heap.size ≤ W1.heap.size := Nat.le_trans hbel.size B1.size
      have hbse := hide (row_base hown.out)
      obtain ⟨sa, sc, rfl⟩ := row_len hown.out
      clear hown
      go_wp2_with (at_builtin; rw [← hW1]; refine wpList_row rfl (.tmp 16) (.tmp 25) 50 rfl 27 i0 (.slice none 0 0) 24 Tryd.underlying50 hi hz0 hz1 hz2 rfl w.heap.size (.slice sa k sc) k xs rfl (unhide HO1) (.slice (some ⟨wr.heap.size, 0, none⟩) 1 1) rfl [.slice (some ⟨cb, bg * 5, none⟩) m m] (.inr ⟨_, 1, rfl, unhide HN1⟩) (by intro u hu; rw [List.mem_singleton.1 hu]; rfl) hb63 hby hbas ?_)
      intro v' W2 ho2 hg2
      rw [← hW1] at hg2
      have B2 : Below w.heap.size w W2 := (hbel.trans (B1.mono hbel.size)).grown hg2 hbas (unhide hbse)
      have HO2 := hide ho2
      have HXS := hide (show ∀ i, i < k + 1 → ∃ cb', some ⟨cb, 0, none⟩ = some (⟨cb', 0, none⟩ : Addr) ∧ (xs ++ [Value.slice (some ⟨cb, bg * 5, none⟩) m m])[i]? = some (.slice (some ⟨cb', tot L i * 5, none⟩) (L.getD i []).length (L.getD i []).length) from fun i hi => by
        have hxl : xs.length = k := by have := (unhide HO1).1; omega
        by_cases e : i < k
        · obtain ⟨c', e1, e2⟩ := hxs.out i e
          cases e1
          exact ⟨cb, rfl, by rw [List.getElem?_append_left (by omega)]; exact e2⟩
        · obtain rfl : i = k := by omega
          refine ⟨cb, rfl, ?_⟩
          rw [List.getElem?_append_right (by omega), hxl, Nat.sub_self, ← unhide HBG, ← unhide HM]
          rfl)
      have HT := hide (show (tot L (k + 1) : Int) = (bg : Int) + (m : Int) by rw [unhide HT1]; omega)
      obtain ⟨va, vc, rfl⟩ := row_len ho2
      clear ho2 hg2 hxs hW1 B1 HN1 HO1 hb63 hby hbas hbse fe g0' hbel
      go_wp2_with fail
      go_roundg (n - (k + 1))
      case rel => exact ⟨k + 1, _, rfl, by go_num, by rw [unhide HT], by omega, fun h => absurd h (by omega), unhide HO2, unhide HXS, B2⟩
      case measure => have := hg.out; omega
    · have hke : k = n := by omega
      subst hke
      have fin := hide (show Qs wr base wr.heap.size u3 L from by
        have hown' := hown.out
        obtain ⟨p1, ⟨p2, p3⟩ | ⟨g, cap, cur, p2, p3, p4, p5, p6, p7, p8⟩⟩ := hown'
        · exact .inl ⟨p2, List.length_eq_zero_iff.1 (by rw [unhide HN]; exact p3)⟩
        · by_cases h0 : k = 0
          · exact .inl ⟨hz.out h0, List.length_eq_zero_iff.1 (by rw [unhide HN]; exact h0)⟩
          · have eN : nC = L.flatten.length := by rw [unhide HNC, ← unhide HN, tot_all]
            have hcl' := unhide HCL
            rw [eN] at hcl'
            obtain ⟨cb, e1, _⟩ := hxs.out 0 (by omega)
            subst e1
            obtain ⟨_, ⟨h1, _⟩ | ⟨b', cap', e', hlo, hle, ho⟩⟩ := res_of_owns hcl' (by omega)
            · cases h1
            cases e'
            refine .inr ⟨g, cap, cur.toList, cb, by rw [unhide HN]; exact p2, by rw [unhide HN]; exact p5, Nat.le_trans hbw p3, (Array.getElem?_eq_some_iff.1 p4).1, ⟨cur, p4, rfl⟩, ho.below hbel ho.lt, hlo, Nat.lt_of_lt_of_le ho.lt hbel.size, fun i hi => ?_⟩
            rw [unhide HN] at hi
            obtain ⟨cb', e2, e3⟩ := hxs.out i hi
            cases e2
            rw [← e3, ← p8, List.getElem?_take_of_lt (by omega)])
      obtain ⟨ua, uc, hu⟩ := row_len hown.out
      subst hu
      clear hown hxs hz
      go_wp2_with fail
      go_ret
      exact ⟨_, rfl, unhide fin, hbel⟩

def AnsQ (w : World) (out : Int × List (List M.Cl)) (e : Ending) (w' : World) : Prop := ∃ s, e = .returned (.agg #[.int .i64 out.1, s]) ∧ Qs w' w.heap.size w'.heap.size s out.2 ∧ Below w.heap.size w w'
theorem ansQ_of {w w' : World} {out : Int × List (List M.Cl)} {c : Int} {s : Value} {l : List (List M.Cl)} (fin : out = (c, l)) (hr : Qs w' w.heap.size w'.heap.size s l) (hb : Below w.heap.size w w') : AnsQ w out (.returned (.agg #[.int .i64 c, s])) w' := by
  subst fin; exact ⟨s, rfl, hr, hb⟩
theorem Qs.stored {w w1 w2 : World} {s : Value} {l : List (List M.Cl)} (hr : Qs w2 w1.heap.size w2.heap.size s l) (hsz : w.heap.size < w1.heap.size) (hb : Below w.heap.size w w2) (x y : Value) :
    Qs ((w2.setCell ⟨w.heap.size, 0, none⟩ x).setCell ⟨w.heap.size, 1, none⟩ y) w.heap.size ((w2.setCell ⟨w.heap.size, 0, none⟩ x).setCell ⟨w.heap.size, 1, none⟩ y).heap.size s l ∧ Below w.heap.size w ((w2.setCell ⟨w.heap.size, 0, none⟩ x).setCell ⟨w.heap.size, 1, none⟩ y) := by
  refine ⟨?_, (hb.setCell (Nat.le_refl _) _).setCell (Nat.le_refl _) _⟩
  rw [size_setCell2]
  exact (hr.keep fun k h1 _ _ => heap_setCell2 w2 _ x y k (by omega)).mono (by omega) (Nat.le_refl _)
theorem steps_lays (leaves : Bool) {v : List M.Cl} (hv : M.valueFault v = 0) : (lays (steps leaves v)).length ≤ 100000 := by
  have h1 := steps_len leaves hv
  have hvl := (M.fault_zero hv).2.1
  have := lays_le (L := steps leaves v) (B := 200) fun p hp => by
    obtain ⟨q, e, _, h2, _⟩ := (all_leads leaves _ v [] p hv hp).ex
    rw [e, List.nil_append]; omega
  omega

set_option maxRecDepth 100000 in
set_option maxHeartbeats 2000000 in
theorem whereL_any (v : List M.Cl) (b off cap : Nat) (w : World) (hrow : Row w b off v) (hb : b < w.heap.size) (hn : v.length ≤ 1048576) (hcap : v.length ≤ cap) (hok : ∀ c ∈ v, c.ok) :
    Calls Tryd.prog 47 #[.slice (some ⟨b, off, none⟩) v.length cap, .func (.func 48) #[] #[]] w (AnsQ w (pathsOut true v)) := by
  have HB0 := hide (fun o => (show Below w.heap.size w (w.alloc o) from (Below.refl _ _).alloc (Nat.le_refl _) o))
  have HF := hide (fun o => implFault_any v b off cap (w.alloc o) (hrow.below ((unhide HB0) o) hb) (by simp; omega) hn hcap hok)
  have HRW := hide (fun W (h : Below w.heap.size w W) => hrow.below h hb)
  clear hrow hok hn
  go_enter Tryd.func47, Tryd.ntmps47
  go_wp2_with fail
  refine ((unhide HF) _).mono ?_
  rintro e w1 ⟨rfl, hb1⟩
  have hR : Own w1 w.heap.size 52 [.int .i64 0, .slice none 0 0] := Own.below ⟨_, heap_alloc_new _ _, rfl⟩ hb1 (by simp)
  have B1 : Below w.heap.size w w1 := ((unhide HB0) _).trans (hb1.mono (by simp))
  clear hb1 HF HB0
  by_cases hv : M.valueFault v = 0
  · rw [hv]
    have hvl := (M.fault_zero hv)
    obtain ⟨W2, hW2⟩ : ∃ W2, W2 = w1.alloc (.cells #[.slice none 0 0, .slice none 0 0] 95) := ⟨_, rfl⟩
    have B2 : Below w1.heap.size w1 W2 := by rw [hW2]; exact (Below.refl _ _).alloc (Nat.le_refl _) _
    have hls : Ls w1.heap.size W2 w1.heap.size [] [] (.slice none 0 0) (.slice none 0 0) := ⟨by rw [hW2]; exact ⟨_, heap_alloc_new _ _, rfl⟩, World.ownsRow_nil _ _ _ _, World.ownsRow_nil _ _ _ _, Nat.le_refl _⟩
    have hsv : W2.ownsRow w1.heap.size 44 5 (.slice none 0 0) ([] : List M.Cl).length (flat []) := World.ownsRow_nil _ _ _ _
    have hps := part_self hv
    have HFR := hide (saysL v.length v b off cap 0 [] (.slice none 0 0) w1.heap.size w1.heap.size [] [] (.slice none 0 0) (.slice none 0 0) W2 hv (by omega) (by rw [hps]; exact Nat.le_refl _) ((unhide HRW) W2 (B1.trans (B2.mono B1.size))) (Nat.lt_of_lt_of_le hb B1.size) B2.size hcap hls hsv (fun g hg => by cases hg) (by rw [hps]; simp; omega) (by rw [hps]; simp; omega) (by rw [hps]; simp; omega))
    rw [hps] at HFR
    have HLW := hide (fun w3 (hf : Fr W2 w3 w1.heap.size (.slice none 0 0) (.slice none 0 0) (.slice none 0 0)) => hf.low hls hsv B2.size)
    have FIN := hide (paths_ok (leaves := true) hv)
    have hSL := steps_len true hv
    have hSC := steps_lays true hv
    have HSD := hide (show all true v.length v [] = steps true v from rfl)
    rw [unhide HSD] at HFR
    have hszR := hR.lt
    clear hps hv hls hsv HRW HSD
    generalize steps true v = S at *
    go_wp2_with fail
    rw [← hW2]
    refine (unhide HFR).mono ?_
    rintro e w3 ⟨rfl, cv, ev, hl⟩
    have B3 : Below w1.heap.size w1 w3 := B2.trans ((unhide HLW) w3 hl.fr)
    have hls3 : Ls w1.heap.size w3 w1.heap.size (lays S) (ends 0 S) cv ev := by simpa using hl.ls
    have HPA := hide (paths_any w1.heap.size w1.heap.size S cv ev w3 hls3 (by omega) (by omega) B3.size)
    have R3 := hR.below B3 hR.lt
    have B3' : Below w.heap.size w w3 := B1.trans (B3.mono B1.size)
    clear HFR HLW hl hls3 B3 hR hW2 B2
    go_wp2_with fail
    refine (unhide HPA).mono ?_
    rintro e w4 ⟨s, rfl, hq, hb4⟩
    have R4 := R3.below hb4 R3.lt
    have B4 : Below w.heap.size w w4 := B3'.trans (hb4.mono B3'.size)
    have r0 := R4.cell 0
    have r1 := R4.cell 1
    have z0 := R4.frozen 0
    have z1 := R4.frozen 1
    simp only [List.getElem?_cons_zero, List.getElem?_cons_succ] at r0 r1
    have E := hide (Qs.stored hq hszR B4)
    obtain ⟨qa, qn, qc, rfl⟩ := hq.shape
    clear hq hb4 HPA R3 R4
    go_wp2_with fail
    refine bodyPost_ret (v := .agg #[.int .i64 0, .slice qa qn qc]) (by simp [results, Tryd.results47, go_sem, r0, r1]) rfl (ansQ_of (unhide FIN) ((unhide E) _ _).1 ((unhide E) _ _).2)
  · have fin := hide (paths_bad (leaves := true) hv)
    generalize M.valueFault v = q at *
    have hz' : (q == 0) = false := by simp [hv]
    have r0 := hR.cell 0
    have r1 := hR.cell 1
    have z0 := hR.frozen 0
    have z1 := hR.frozen 1
    simp only [List.getElem?_cons_zero, List.getElem?_cons_succ] at r0 r1
    clear hv HRW
    go_wp2_with fail
    refine bodyPost_ret (v := .agg #[.int .i64 q, .slice none 0 0]) (by simp [results, Tryd.results47, go_sem, r0, r1]) rfl (ansQ_of (unhide fin) (.inl ⟨rfl, rfl⟩) (store_below B1 _ _))
set_option maxHeartbeats 1000000 in
theorem implLeavesIn_any (v : List M.Cl) (b off cap : Nat) (w : World) (hrow : Row w b off v) (hb : b < w.heap.size) (hn : v.length ≤ 1048576) (hcap : v.length ≤ cap) (hok : ∀ c ∈ v, c.ok) :
    Calls Tryd.prog 28 #[.slice (some ⟨b, off, none⟩) v.length cap] w (AnsQ w (pathsOut true v)) := by
  have B0 : ∀ o, Below w.heap.size w (w.alloc o) := fun o => (Below.refl _ _).alloc (Nat.le_refl _) o
  have HW := hide (fun o => whereL_any v b off cap (w.alloc o) (hrow.below (B0 o) hb) (by simp; omega) hn hcap hok)
  have HB0 := hide B0
  clear hrow hok B0
  generalize pathsOut true v = R at *
  go_enter Tryd.func28, Tryd.ntmps28
  go_wp2_with fail
  refine ((unhide HW) _).mono ?_
  rintro e w1 ⟨s, rfl, hq, hb1⟩
  have hR : Own w1 w.heap.size 52 [.int .i64 0, .slice none 0 0] := Own.below ⟨_, heap_alloc_new _ _, rfl⟩ hb1 (by simp)
  have B1 : Below w.heap.size w w1 := ((unhide HB0) _).trans (hb1.mono (by simp))
  have hszR := hR.lt
  have r0 := hR.cell 0
  have r1 := hR.cell 1
  have z0 := hR.frozen 0
  have z1 := hR.frozen 1
  simp only [List.getElem?_cons_zero, List.getElem?_cons_succ] at r0 r1
  have hq' : Qs w1 w.heap.size w1.heap.size s R.2 := hq.mono (by simp) (Nat.le_refl _)
  have E := hide (fun x y => (show Qs ((w1.setCell ⟨w.heap.size, 0, none⟩ x).setCell ⟨w.heap.size, 1, none⟩ y) w.heap.size ((w1.setCell ⟨w.heap.size, 0, none⟩ x).setCell ⟨w.heap.size, 1, none⟩ y).heap.size s R.2 from by
    rw [size_setCell2]
    exact (hq.keep fun k h1 _ _ => heap_setCell2 w1 _ x y k (by simp at h1; omega)).mono (by simp) (Nat.le_refl _)))
  obtain ⟨qa, qn, qc, rfl⟩ := hq.shape
  obtain ⟨rc, rl⟩ := R
  clear hq hq' hb1 HW hR
  go_wp2_with fail
  refine bodyPost_ret (v := .agg #[.int .i64 rc, .slice qa qn qc]) (by simp [results, Tryd.results28, go_sem, r0, r1]) rfl ⟨_, rfl, (unhide E) _ _, store_below B1 _ _⟩
end Al
end Go.Proofs.YtlbmpldknfcfhaaDoor

namespace Go.Proofs.YtlbmpldknfcfhaaDoor
open Go.RowKit
set_option linter.unusedVariables false
set_option linter.unusedSimpArgs false
end Go.Proofs.YtlbmpldknfcfhaaDoor

namespace Go.Proofs.YtlbmpldknfcfhaaDoor
open Go.RowKit
set_option linter.unusedVariables false
set_option linter.unusedSimpArgs false
namespace Al
set_option maxHeartbeats 1000000 in
theorem specLeavesIn_any (v : List M.Cl) (b off cap : Nat) (w : World) (hrow : Row w b off v) (hb : b < w.heap.size) (hn : v.length ≤ 1048576) (hcap : v.length ≤ cap) (hok : ∀ c ∈ v, c.ok) :
    Calls Tryd.prog 24 #[.slice (some ⟨b, off, none⟩) v.length cap] w (AnsS w (pathsOut true v)) := by
  have B0 : ∀ o, Below w.heap.size w (w.alloc o) := fun o => (Below.refl _ _).alloc (Nat.le_refl _) o
  have HW := hide (fun o => l13Paths_any true v b off cap (w.alloc o) (hrow.below (B0 o) hb) (by simp; omega) hn hcap hok)
  have HB0 := hide B0
  clear hrow hok B0
  generalize pathsOut true v = R at *
  go_enter Tryd.func24, Tryd.ntmps24
  go_wp2_with fail
  refine ((unhide HW) _).mono ?_
  rintro e w1 ⟨s, rfl, hq, hb1⟩
  have hR : Own w1 w.heap.size 52 [.int .i64 0, .slice none 0 0] := Own.below ⟨_, heap_alloc_new _ _, rfl⟩ hb1 (by simp)
  have B1 : Below w.heap.size w w1 := ((unhide HB0) _).trans (hb1.mono (by simp))
  have r0 := hR.cell 0
  have r1 := hR.cell 1
  have z0 := hR.frozen 0
  have z1 := hR.frozen 1
  simp only [List.getElem?_cons_zero, List.getElem?_cons_succ] at r0 r1
  have E := hide (fun x y => (show PS ((w1.setCell ⟨w.heap.size, 0, none⟩ x).setCell ⟨w.heap.size, 1, none⟩ y) w.heap.size ((w1.setCell ⟨w.heap.size, 0, none⟩ x).setCell ⟨w.heap.size, 1, none⟩ y).heap.size s R.2 from by
    rw [size_setCell2]
    exact (hq.keep fun k h1 _ _ => heap_setCell2 w1 _ x y k (by simp at h1; omega)).mono (by simp) (Nat.le_refl _)))
  obtain ⟨qa, qn, qc, rfl⟩ := hq.shape
  obtain ⟨rc, rl⟩ := R
  clear hq hb1 HW hR
  go_wp2_with fail
  refine bodyPost_ret (v := .agg #[.int .i64 rc, .slice qa qn qc]) (by simp [results, Tryd.results24, go_sem, r0, r1]) rfl ⟨_, rfl, (unhide E) _ _, store_below B1 _ _⟩
end Al
end Go.Proofs.YtlbmpldknfcfhaaDoor
