/-
  spec.VarsOf: the names that are bound, in order.
-/
import Derived.Test.YtokcefcjkjhnbaaRdI
import Derived.Test.YtokcefcjkjhnbaaAnyZ
import Derived.Test.YtokcefcjkjhnbaaAppT
import Derived.Test.YtokcefcjkjhnbaaTreI
import Derived.Deep.RegionWith
import Derived.Deep.CutRange
namespace Go.Proofs.Ytokcefcjkjhnbaa
open Go.RowKit
set_option linter.unusedVariables false
set_option linter.unusedSimpArgs false


namespace Tr
theorem owns_cases {w : World} {base : Nat} {e : TypeId} {v : Value} {n : Nat} {xs : List Value} (h : w.ownsRow base e 1 v n xs) : (v = .slice none 0 0 ∧ n = 0) ∨ ∃ g cap, v = .slice (some ⟨g, 0, none⟩) n cap ∧ base ≤ g ∧ n ≤ cap ∧ cap ≤ maxLen := by
  obtain ⟨_, ⟨h1, h2⟩ | ⟨g, cap, cur, h3, hg, hh, hnc, hcm, hcs, ht⟩⟩ := h
  · exact .inl ⟨h1, h2⟩
  · exact .inr ⟨g, cap, h3, hg, hnc, hcm⟩
theorem owns_first {w : World} {base g cap n : Nat} {e : TypeId} {xs : List Value} (h : w.ownsRow base e 1 (.slice (some ⟨g, 0, none⟩) n cap) n xs) (j : Nat) (hj : j ≤ n) : w.ownsRow base e 1 (.slice (some ⟨g, 0, none⟩) j cap) j (xs.take j) := by
  obtain ⟨h1, ⟨h2, _⟩ | ⟨g', cap', cur, h2, hg, hh, hnc, hcm, hcs, ht⟩⟩ := h
  · cases h2
  · cases h2
    refine ⟨by rw [List.length_take]; omega, .inr ⟨g, cap, cur, rfl, hg, hh, by omega, hcm, hcs, ?_⟩⟩
    rw [← ht, List.take_take]
    congr 1
    omega
theorem owns_drop {w : World} {base g cap n : Nat} {e : TypeId} {xs : List Value} (h : w.ownsRow base e 1 (.slice (some ⟨g, 0, none⟩) n cap) n xs) (j : Nat) : ∀ i u, (xs.drop j)[i]? = some u → w.cell? ((⟨g, j, none⟩ : Addr).add i) = some u := by
  intro i u hu
  rw [List.getElem?_drop] at hu
  have hl : xs.length = n := by have := h.1; omega
  have hi : j + i < n := by
    have := (List.getElem?_eq_some_iff.1 hu).1; omega
  have := owns_cell h (j + i) hi
  rw [hu] at this
  by_cases h0 : i = 0
  · subst h0; simpa [Addr.add] using this
  · simpa [Addr.add, h0] using this
/-- The names with one put in, in the world where they are kept. -/
theorem names_in {wc : World} {a base : Nat} {e : TypeId} {v : Value} {n : Nat} {L : List ByteArray} {t : ByteArray} {j : Nat} (hah : ahead t L = j) (h : wc.ownsRow base e 1 v n (([] ++ (L.map Value.string).take j) ++ [.string t] ++ (L.map Value.string).drop j)) (hb : a < base) {i : Nat} {x : Value} : (wc.setCell ⟨a, i, none⟩ x).ownsRow (a + 1) e 1 v (insV L t).length ((insV L t).map Value.string) := by
  have e1 : (insV L t).map Value.string = ([] ++ (L.map Value.string).take j) ++ [.string t] ++ (L.map Value.string).drop j := by
    unfold insV; rw [hah]; simp
  have e2 : (insV L t).length = n := by
    have := h.1
    rw [← e1] at this
    simpa using this
  rw [e1, e2]
  obtain ⟨h1, h2 | ⟨g, cap, cur, h3, h4, h5, h6⟩⟩ := h
  · exact ⟨h1, .inl h2⟩
  · exact ⟨h1, .inr ⟨g, cap, cur, h3, by omega, (heap_setCell_other _ ⟨a, i, none⟩ g x (by simp; omega)).trans h5, h6⟩⟩
theorem names_in1 {wc : World} {a base : Nat} {e : TypeId} {v : Value} {n : Nat} {L : List ByteArray} {t : ByteArray} (hah : ahead t L = L.length) (h : wc.ownsRow base e 1 v n (([] ++ (L.map Value.string).take L.length) ++ [.string t] ++ [])) (hb : a < base) {i : Nat} {x : Value} : (wc.setCell ⟨a, i, none⟩ x).ownsRow (a + 1) e 1 v (insV L t).length ((insV L t).map Value.string) := by
  have e : (L.map Value.string).drop L.length = [] := by simp
  exact names_in (j := L.length) hah (by rw [e]; exact h) hb
theorem names_in0 {wc : World} {a base : Nat} {e : TypeId} {v : Value} {n : Nat} {L : List ByteArray} {t : ByteArray} (hnil : L = []) (h : wc.ownsRow base e 1 v n (([] ++ []) ++ [.string t] ++ [])) (hb : a < base) {i : Nat} {x : Value} : (wc.setCell ⟨a, i, none⟩ x).ownsRow (a + 1) e 1 v (insV L t).length ((insV L t).map Value.string) := by
  subst hnil
  exact names_in (L := []) (j := 0) rfl h hb
theorem str_get (L : List ByteArray) (j : Nat) (hj : j < L.length) : (L.map Value.string)[j]? = some (.string (L.getD j ByteArray.empty)) := by
  rw [List.getElem?_map, List.getElem?_eq_getElem hj, List.getD_eq_getElem?_getD, List.getElem?_eq_getElem hj]; rfl
theorem owns_set2 {w : World} {a base : Nat} {e : TypeId} {v : Value} {n : Nat} {xs : List Value} (h : w.ownsRow (base + 1) e 1 v n xs) (ha : a < base) {x y : Value} {i j : Nat} : ((w.setCell ⟨a, i, none⟩ x).setCell ⟨a, j, none⟩ y).ownsRow (a + 1) e 1 v n xs := by
  obtain ⟨h1, h2 | ⟨g, cap, cur, h3, h4, h5, h6⟩⟩ := h
  · exact ⟨h1, .inl h2⟩
  · exact ⟨h1, .inr ⟨g, cap, cur, h3, by omega, (heap_setCell_other _ ⟨a, j, none⟩ g y (by simp; omega)).trans ((heap_setCell_other w ⟨a, i, none⟩ g x (by simp; omega)).trans h5), h6⟩⟩
end Tr

set_option maxRecDepth 100000 in
set_option maxHeartbeats 4000000 in
theorem specVarsOf_any (b : Nat) (l : List Nd) (w : World) (hrow : Nd.Row w b 0 l) (hb : b < w.heap.size) (hn : l.length ≤ 1048576) (hsz : ∀ i, i < l.length → (l.getD i Nd.zero).text.size ≤ 1048576) (hok : ∀ c ∈ l, c.ok) :
    Calls Try.prog 10 #[.slice (some ⟨b, 0, none⟩) l.length l.length] w fun e w' => ∃ v, e = .returned (.agg #[.int .i64 (Tr.varsOut l).1, v]) ∧ w'.ownsRow (w.heap.size + 1) 9 1 v (Tr.varsOut l).2.length ((Tr.varsOut l).2.map Value.string) ∧ Below w.heap.size w w' := by
  have HR := hide hrow
  have HS := hide hsz
  have HK := hide hok
  clear hrow hsz hok
  obtain ⟨w0, hw0⟩ : ∃ w0, w0 = w.alloc (.cells #[.int .i64 0, .slice none 0 0] 26) := ⟨_, rfl⟩
  have B0 : Below w.heap.size w w0 := by rw [hw0]; exact (Below.refl _ _).alloc (Nat.le_refl _) _
  have O0 : Own w0 w.heap.size 26 [.int .i64 0, .slice none 0 0] := by rw [hw0]; exact ⟨_, heap_alloc_new _ _, rfl⟩
  have HC := hide (specTreeFault_any b l w0 ((unhide HR).below B0 hb) (Nat.lt_of_lt_of_le hb B0.size) hn (unhide HS) (unhide HK))
  go_enter Try.func10, Try.ntmps10
  go_wp2_with fail
  rw [← hw0]
  clear hw0
  refine (unhide HC).mono ?_
  rintro e w1 ⟨rfl, hb1⟩
  have B1 : Below w.heap.size w w1 := B0.trans (hb1.mono B0.size)
  have O1 := O0.below hb1 O0.lt
  clear O0 B0 hb1 HC
  by_cases hf : Tr.fault l = 0
  case neg =>
    have fin := hide (show Tr.varsOut l = (Tr.fault l, []) by unfold Tr.varsOut; rw [if_pos hf])
    generalize Tr.fault l = q at *
    have g1 : (q != 0) = true := by simpa using hf
    have OX := O1
    clear hf O1
    obtain ⟨c0, c1⟩ := nres_of OX
    have z0 := OX.frozen 0
    have z1 := OX.frozen 1
    have O2 := hide ((OX.set 0 (.int .i64 q)).set 1 (.slice none 0 0))
    clear OX
    go_wp2_with fail
    obtain ⟨q0, q1⟩ := nres_of (x := q) (v := .slice none 0 0) (unhide O2)
    clear c0 c1 z0 z1 O2
    have B2 : Below w.heap.size w ((w1.setCell ⟨w.heap.size, 0, none⟩ (.int .i64 q)).setCell ⟨w.heap.size, 1, none⟩ (.slice none 0 0)) := (B1.setCell (Nat.le_refl _) _).setCell (Nat.le_refl _) _
    have HROW := World.ownsRow_nil ((w1.setCell ⟨w.heap.size, 0, none⟩ (.int .i64 q)).setCell ⟨w.heap.size, 1, none⟩ (.slice none 0 0)) (w.heap.size + 1) 9 1
    generalize (w1.setCell ⟨w.heap.size, 0, none⟩ (.int .i64 q)).setCell ⟨w.heap.size, 1, none⟩ (.slice none 0 0) = WW at *
    refine bodyPost_ret (v := .agg #[.int .i64 q, .slice none 0 0]) (by simp [results, Try.results10, go_sem, q0, q1]; try rfl) rfl ⟨_, by rw [unhide fin], by rw [unhide fin]; exact HROW, B2⟩
  case pos =>
  have h200 : l.length ≤ 200 := by
    by_cases h : 200 < l.length
    · rw [Tr.fault_many (.inr h)] at hf; exact absurd hf (by decide)
    · omega
  have fin := hide (show Tr.varsOut l = (0, Tr.varsK l l.length) by unfold Tr.varsOut; rw [if_neg (by simpa using hf)])
  rw [hf]
  clear hf
  obtain ⟨t0, ht0, hy0, hy1, hy2⟩ := info_parts Tr.infoT
  obtain ⟨w2, hw2⟩ : ∃ w2, w2 = w1.alloc (.cells #[.int .i64 0, .slice none 0 0] 26) := ⟨_, rfl⟩
  have N2 : Own w2 w1.heap.size 26 [.int .i64 0, .slice none 0 0] := by rw [hw2]; exact ⟨_, heap_alloc_new _ _, rfl⟩
  have B2 : Below w1.heap.size w1 w2 := by rw [hw2]; exact (Below.refl _ _).alloc (Nat.le_refl _) _
  have hlt1 := O1.lt
  go_wp2_with fail
  rw [← hw2]
  clear hw2
  go_loopg [5] l.length (fun gh s5 wr => ∃ (k : Nat) (v : Value) (L : List ByteArray), Hid (gh = l.length - k) ∧ s5 = .int .i64 k ∧ k ≤ l.length ∧ Hid (L = Tr.varsK l k) ∧ L.length ≤ k ∧ Own wr w1.heap.size 26 [.int .i64 0, v] ∧ wr.ownsRow (w1.heap.size + 1) 9 1 v L.length (L.map Value.string) ∧ Below w1.heap.size w1 wr)
  case atStart => exact ⟨0, .slice none 0 0, [], rfl, rfl, by omega, rfl, by simp, N2, World.ownsRow_nil _ _ _ _, B2⟩
  case round =>
    clear N2 B2
    obtain ⟨k, v, L, hg, rfl, hk, hL, hLk, hN, hown, hbel⟩ := hrel
    have BW : Below w.heap.size w wr := B1.trans (hbel.mono B1.size)
    obtain ⟨va, vc, hv⟩ := Tr.owns_slice hown
    subst hv
    have HO := hide hown
    clear hown
    by_cases hlt : k < l.length
    · have hltI : (k : Int) < (l.length : Int) := by omega
      obtain ⟨f0, f1, f2, f3, f4, f5⟩ := ((unhide HR).below BW hb) k hlt
      simp only [Nat.zero_add] at f0 f1 f2 f3 f4 f5
      have hs := hide (show Tr.varsK l (k + 1) = if Tr.binder (l.getD k Nd.zero) = true ∧ oneOf (Tr.varsK l k) (l.getD k Nd.zero).text = false then Tr.insV (Tr.varsK l k) (l.getD k Nd.zero).text else Tr.varsK l k from rfl)
      rw [← hL.out] at hs
      have c1 := (nres_of hN).2
      have hsame : Hid (¬ (Tr.binder (l.getD k Nd.zero) = true ∧ oneOf L (l.getD k Nd.zero).text = false) → L = Tr.varsK l (k + 1)) := fun h => by rw [unhide hs, if_neg h]
      have hins : Hid (Tr.binder (l.getD k Nd.zero) = true → oneOf L (l.getD k Nd.zero).text = false → Tr.insV L (l.getD k Nd.zero).text = Tr.varsK l (k + 1)) := fun h1 h2 => by rw [unhide hs, if_pos ⟨h1, h2⟩]
      generalize l.getD k Nd.zero = n at *
      generalize n.text = t at *
      have HAM := hide (l4Among_row (w1.heap.size + 1) (.slice va L.length vc) L t wr (by omega) (unhide HO))
      clear hlt hs
      go_upto_region 9 with fail
      go_cut [45] from 15 to 76 (fun s45 wx => s45 = .bool (!(Tr.binder n && !(oneOf L t))) ∧ wx = wr)
      case first =>
        clear hsame hins
        by_cases h20 : n.op = 20
        · have hv : (!(Tr.binder n && !(oneOf L t))) = oneOf L t := by unfold Tr.binder; rw [h20]; simp
          rw [h20] at f0
          have g1 : ((20 : Int) != 20) = false := rfl
          have HV := hide hv
          clear hv
          go_wp2_with fail
          refine (unhide HAM).mono ?_
          rintro e w3 ⟨rfl, hw3⟩
          subst w3
          go_wp2_with fail
          go_meet
          case rel => exact ⟨congrArg Value.bool (unhide HV).symm, rfl⟩
        · have g1 : (n.op != 20) = true := by simpa using h20
          by_cases h19 : n.op = 19
          · have hv : (!(Tr.binder n && !(oneOf L t))) = oneOf L t := by unfold Tr.binder; rw [h19]; simp
            rw [h19] at f0
            have g1 : ((19 : Int) != 20) = true := rfl
            have g2 : ((19 : Int) != 19) = false := rfl
            have HV := hide hv
            clear hv
            go_wp2_with fail
            refine (unhide HAM).mono ?_
            rintro e w3 ⟨rfl, hw3⟩
            subst w3
            go_wp2_with fail
            go_meet
            case rel => exact ⟨congrArg Value.bool (unhide HV).symm, rfl⟩
          · have hv : (!(Tr.binder n && !(oneOf L t))) = true := by unfold Tr.binder; simp [h19, h20]
            have g2 : (n.op != 19) = true := by simpa using h19
            have HV := hide hv
            clear hv
            go_wp2_with fail
            go_meet
            case rel => exact ⟨congrArg Value.bool (unhide HV).symm, rfl⟩
      case rest =>
      obtain ⟨h45, hwc⟩ := hcut
      subst h45
      subst wc
      clear HAM f0 f1 f2 f3 f4 f5
      cases hbb : (Tr.binder n && !(oneOf L t)) with
      | false =>
        have hn2 := hide ((hsame.out) (fun h => by rw [h.1, h.2] at hbb; exact absurd hbb (by decide)))
        clear hsame hins hbb
        go_wp2_with fail
        go_roundg (l.length - (k + 1))
        case rel => exact ⟨k + 1, _, L, rfl, by go_num, by omega, unhide hn2, by omega, hN, unhide HO, hbel⟩
        case measure => have := hg.out; omega
      | true =>
        obtain ⟨hbi, ho⟩ : Tr.binder n = true ∧ oneOf L t = false := by simpa using hbb
        have hn2 := hide ((hins.out) hbi ho)
        clear hsame hins hbb hbi ho
        skip
        · skip
          have hstop := hide (fun j hj h1 h2 => Tr.ahead_stop t L j hj h1 h2)
          have hcell := hide (fun (g cap : Nat) (h : wr.ownsRow (w1.heap.size + 1) 9 1 (.slice (some ⟨g, 0, none⟩) L.length cap) L.length (L.map Value.string)) (j : Nat) (hj : j < L.length) => (Tr.owns_cell h j hj).trans (Tr.str_get L j hj))
          go_wp2_with fail
          go_loopg [7] L.length (fun gh s7 w4 => ∃ j : Nat, Hid (gh = L.length - j) ∧ s7 = .int .i64 j ∧ j ≤ L.length ∧ Hid (∀ i, i < j → Tr.less (L.getD i ByteArray.empty) t = true) ∧ w4 = wr)
          case atStart => exact ⟨0, rfl, rfl, by omega, fun i hi => absurd hi (by omega), rfl⟩
          case round =>
            obtain ⟨j, hgj, rfl, hj, hless, rfl⟩ := hrel
            rcases Tr.owns_cases (unhide HO) with ⟨hnv, hn0⟩ | ⟨g, cap, hgv, hgb, hgc, hgm⟩
            · obtain ⟨rfl, hv0, rfl⟩ : va = none ∧ L.length = 0 ∧ vc = 0 := by simpa using hnv
              have hnil : L = [] := List.length_eq_zero_iff.1 hn0
              obtain rfl : j = 0 := by omega
              rw [hn0] at c1
              go_wp2_with fail
              refine Z.region 15 (fun w' => w'.cell? ⟨w1.heap.size, 1, none⟩ = some (.slice none 0 0) ∧ Below wr.heap.size wr w') (by kernel_rfl) ⟨c1, (Below.refl _ _).drew⟩ (fun hHeld => ?_)
              refine Z.take (i := 1) (d := 63) (v := .pointer (some ⟨w1.heap.size, 1, none⟩)) rfl rfl (by kernel_rfl) (by kernel_rfl) (by kernel_rfl) (by kernel_rfl) (fun _ _ _ h => h) (Or.inl ⟨by rfl, ?_⟩) hHeld ?_
              · intro w' hSw; obtain ⟨s1, _⟩ := hSw; go_simp
              simp only [Act.put, List.setIfInBounds_toArray, List.set_cons_zero, List.set_cons_succ]
              refine Z.take (i := 2) (d := 64) (v := .slice none 0 0) rfl rfl (by kernel_rfl) (by kernel_rfl) (by kernel_rfl) (by kernel_rfl) (fun _ _ _ h => h) (Or.inl ⟨by rfl, ?_⟩) hHeld ?_
              · intro w' hSw; obtain ⟨s1, _⟩ := hSw; go_simp
              simp only [Act.put, List.setIfInBounds_toArray, List.set_cons_zero, List.set_cons_succ]
              refine Z.take (i := 3) (d := 65) (v := .int .i64 0) rfl rfl (by kernel_rfl) (by kernel_rfl) (by kernel_rfl) (by kernel_rfl) (fun _ _ _ h => h) (Or.inl ⟨by rfl, ?_⟩) hHeld ?_
              · intro w' hSw; obtain ⟨s1, _⟩ := hSw; go_simp
              simp only [Act.put, List.setIfInBounds_toArray, List.set_cons_zero, List.set_cons_succ]
              refine Z.take (i := 4) (d := 66) (v := .slice none 0 0) rfl rfl (by kernel_rfl) (by kernel_rfl) (by kernel_rfl) (by kernel_rfl) (fun _ _ _ h => h) (Or.inl ⟨by rfl, ?_⟩) hHeld ?_
              · intro w' hSw; obtain ⟨s1, _⟩ := hSw; go_simp
              simp only [Act.put, List.setIfInBounds_toArray, List.set_cons_zero, List.set_cons_succ]
              refine Z.take (i := 6) (d := 68) (v := .string t) rfl rfl (by kernel_rfl) (by kernel_rfl) (by kernel_rfl) (by kernel_rfl) (fun _ _ _ h => h) (Or.inl ⟨by rfl, ?_⟩) hHeld ?_
              · intro w' hSw; obtain ⟨s1, _⟩ := hSw; go_simp
              simp only [Act.put, List.setIfInBounds_toArray, List.set_cons_zero, List.set_cons_succ]
              refine Z.take (i := 9) (d := 71) (v := .pointer (some ⟨w1.heap.size, 1, none⟩)) rfl rfl (by kernel_rfl) (by kernel_rfl) (by kernel_rfl) (by kernel_rfl) (fun _ _ _ h => h) (Or.inl ⟨by rfl, ?_⟩) hHeld ?_
              · intro w' hSw; obtain ⟨s1, _⟩ := hSw; go_simp
              simp only [Act.put, List.setIfInBounds_toArray, List.set_cons_zero, List.set_cons_succ]
              refine Z.take (i := 10) (d := 72) (v := .slice none 0 0) rfl rfl (by kernel_rfl) (by kernel_rfl) (by kernel_rfl) (by kernel_rfl) (fun _ _ _ h => h) (Or.inl ⟨by rfl, ?_⟩) hHeld ?_
              · intro w' hSw; obtain ⟨s1, _⟩ := hSw; go_simp
              simp only [Act.put, List.setIfInBounds_toArray, List.set_cons_zero, List.set_cons_succ]
              refine Z.take (i := 11) (d := 73) (v := .int .i64 0) rfl rfl (by kernel_rfl) (by kernel_rfl) (by kernel_rfl) (by kernel_rfl) (fun _ _ _ h => h) (Or.inl ⟨by rfl, ?_⟩) hHeld ?_
              · intro w' hSw; obtain ⟨s1, _⟩ := hSw; go_simp
              simp only [Act.put, List.setIfInBounds_toArray, List.set_cons_zero, List.set_cons_succ]
              refine Z.take (i := 12) (d := 74) (v := .slice none 0 0) rfl rfl (by kernel_rfl) (by kernel_rfl) (by kernel_rfl) (by kernel_rfl) (fun _ _ _ h => h) (Or.inl ⟨by rfl, ?_⟩) hHeld ?_
              · intro w' hSw; obtain ⟨s1, _⟩ := hSw; go_simp
              simp only [Act.put, List.setIfInBounds_toArray, List.set_cons_zero, List.set_cons_succ]
              refine Z.ready (rs := [0, 7]) (by kernel_rfl) (by simp) (Z.val_cons (i := 0) (d := 62) (v := .slice (some ⟨wr.heap.size, 0, none⟩) 0 0) (w' := (wr.alloc (.cells #[] 9)).drew) rfl (by rfl) ?_ (fun _ => ?_) ?_ (Z.val_cons (i := 7) (d := 69) (v := .slice (some ⟨wr.heap.size, 0, none⟩) 1 1) (w' := (wr.alloc (.cells #[.string t] 9)).drew) rfl (by rfl) ?_ (fun _ => ?_) ?_ Z.All.nil))
              · intro K hK
                go_simp
                exact hK.out
              · exact ⟨(((Below.refl wr.heap.size wr).alloc (by simp) _).drew.cell (by exact hN.lt)).trans c1, ((Below.refl wr.heap.size wr).alloc (by simp) _).drew⟩
              · simp only [Act.put, List.setIfInBounds_toArray, List.set_cons_zero, List.set_cons_succ]
                refine Z.ready (rs := [5, 7]) (by kernel_rfl) (by simp) (Z.All.cons rfl (fun K hK => ?_) (Z.val_cons (i := 7) (d := 69) (v := .slice (some ⟨wr.heap.size + 1, 0, none⟩) 1 1) (w' := ((wr.alloc (.cells #[] 9)).alloc (.cells #[.string t] 9)).drew) rfl (by rfl) ?_ (fun _ => ?_) ?_ Z.All.nil))
                · skip
                  have BLW : Below wr.heap.size wr ((wr.alloc (.cells #[] 9)).drew) := ((Below.refl wr.heap.size wr).alloc (by simp) _).drew
                  refine Ap.step_append_row ((wr.alloc (.cells #[] 9)).drew) rfl (.tmp 62) (.tmp 66) 24 rfl wr.heap.size 9 t0 (.string ByteArray.empty) 16 Try.underlying24 ht0 hy0 hy1 hy2 rfl (.slice (some ⟨wr.heap.size, 0, none⟩) 0 0) 0 [] rfl (Ap.owns_empty (by omega) (Ap.heapE _ _)) (w1.heap.size + 1) 9 (.slice none 0 0) 0 [] rfl (World.ownsRow_nil _ _ _ _) (fun u hu => by cases hu) (by unfold maxLen; omega) (by omega) BLW.size ?_
                  intro v1 wa ho1 hg1
                  have hB1 : Below wr.heap.size wr wa := Below.grown BLW hg1 BLW.size (by intro q hq; simp only [Value.ownBlock, Option.some.injEq] at hq; omega)
                  refine hK.out _ _ (fun _ => ⟨(hB1.cell (by exact hN.lt)).trans c1, hB1⟩) ?_
                  clear hK K
                  simp only [Act.put, List.setIfInBounds_toArray, List.set_cons_zero, List.set_cons_succ]
                  refine Z.ready (rs := [7]) (by kernel_rfl) (by simp) (Z.val_cons (i := 7) (d := 69) (v := .slice (some ⟨wa.heap.size, 0, none⟩) 1 1) (w' := wa.alloc (.cells #[.string t] 9)) rfl (by rfl) ?_ (fun _ => ?_) ?_ Z.All.nil)
                  · intro K hK
                    go_simp
                    exact hK.out
                  · exact ⟨((hB1.alloc hB1.size _).cell (by exact hN.lt)).trans c1, hB1.alloc hB1.size _⟩
                  · simp only [Act.put, List.setIfInBounds_toArray, List.set_cons_zero, List.set_cons_succ]
                    have HO1 := ho1.alloc (.cells #[.string t] 9)
                    have HB1 := hB1.alloc hB1.size (.cells #[.string t] 9)
                    refine Z.ready (rs := [8]) (by kernel_rfl) (by simp) (Z.All.cons rfl (fun K hK => ?_) Z.All.nil)
                    refine Ap.step_append_any (wa.alloc (.cells #[.string t] 9)) rfl (.tmp 67) (.tmp 69) 24 rfl wr.heap.size 9 t0 (.string ByteArray.empty) 1 16 Try.underlying24 ht0 hy0 hy1 hy2 rfl (by decide) v1 (0 + 0) _ rfl HO1 ⟨wa.heap.size, 0, none⟩ 1 1 [.string t] rfl rfl (Ap.one_of (World.cell?_alloc_mark wa #[.string t] 9 (0, 0) 0)) (by intro u hu; simp only [List.mem_cons, List.not_mem_nil, or_false] at hu; subst hu; rfl) (by unfold maxLen; omega) (by omega) HB1.size ?_
                    intro v2 wb ho2 hg2
                    have hB2 : Below wr.heap.size wr wb := Below.grown HB1 hg2 HB1.size (Tr.owns_base HO1)
                    refine hK.out _ _ (fun _ => ⟨(hB2.cell (by exact hN.lt)).trans c1, hB2⟩) ?_
                    clear hK K
                    simp only [Act.put, List.setIfInBounds_toArray, List.set_cons_zero, List.set_cons_succ]
                    refine Z.ready (rs := [13]) (by kernel_rfl) (by simp) (Z.All.cons rfl (fun K hK => ?_) Z.All.nil)
                    refine Ap.step_append_row wb rfl (.tmp 70) (.tmp 74) 24 rfl wr.heap.size 9 t0 (.string ByteArray.empty) 16 Try.underlying24 ht0 hy0 hy1 hy2 rfl v2 ((0 + 0) + 1) _ rfl ho2 (w1.heap.size + 1) 9 (.slice none 0 0) 0 [] rfl (World.ownsRow_nil _ _ _ _) (fun u hu => by cases hu) (by unfold maxLen; omega) (by omega) hB2.size ?_
                    intro v3 wc ho3 hg3
                    have hB3 : Below wr.heap.size wr wc := Below.grown hB2 hg3 hB2.size (Tr.owns_base ho2)
                    have hS3 : (fun w' => w'.cell? ⟨w1.heap.size, 1, none⟩ = some (.slice none 0 0) ∧ Below wr.heap.size wr w') wc := ⟨(hB3.cell (by exact hN.lt)).trans c1, hB3⟩
                    obtain ⟨xa, xc, hx3⟩ := Tr.owns_slice ho3
                    have HR3 := fun x => hide (Tr.names_in0 hnil ho3 hN.lt (i := 1) (x := x))
                    generalize hcnt : ((0 + 0) + 1 + 0) = cnt at hx3
                    clear hcnt
                    subst hx3
                    refine hK.out _ _ (fun _ => hS3) ?_
                    clear hK K
                    simp only [Act.put, List.setIfInBounds_toArray, List.set_cons_zero, List.set_cons_succ]
                    refine Z.take (i := 14) (d := 76) (v := .pointer (some ⟨w1.heap.size, 1, none⟩)) rfl rfl (by kernel_rfl) (by kernel_rfl) (by kernel_rfl) (by kernel_rfl) (fun _ _ _ h => h) (Or.inl ⟨by rfl, ?_⟩) hS3 ?_
                    · intro w' hSw; obtain ⟨s1, _⟩ := hSw; go_simp
                    simp only [Act.put, List.setIfInBounds_toArray, List.set_cons_zero, List.set_cons_succ]
                    have N3 := hN.below hB3 hN.lt
                    have n3 := (nres_of N3).2
                    have y3 := N3.frozen 1
                    refine Z.last_at (w' := wc.setCell ⟨w1.heap.size, 1, none⟩ (.slice xa cnt xc)) rfl (by kernel_rfl) (by rfl) (fun K hK => ?_) ?_
                    · go_simp
                      exact hK.out
                    refine Z.done (by kernel_rfl) ?_ _
                    have hB4 : Below w1.heap.size w1 (wc.setCell ⟨w1.heap.size, 1, none⟩ (.slice xa cnt xc)) := (hbel.trans (hB3.mono hbel.size)).setCell (Nat.le_refl _) _
                    have N4 := N3.set 1 (.slice xa cnt xc)
                    clear n3 y3 c1
                    go_wp2_with fail
                    go_roundg (l.length - (k + 1))
                    case rel => exact ⟨k + 1, _, Tr.insV L t, rfl, by go_num, by omega, unhide hn2, by rw [Tr.insV_length]; omega, N4, unhide (HR3 _), hB4⟩
                    case measure => have := hg.out; omega
                · intro K hK
                  go_simp
                  exact hK.out
                · exact ⟨((((Below.refl wr.heap.size wr).alloc (by simp) _).alloc (by simp) _).drew.cell (by exact hN.lt)).trans c1, (((Below.refl wr.heap.size wr).alloc (by simp) _).alloc (by simp) _).drew⟩
                · simp only [Act.put, List.setIfInBounds_toArray, List.set_cons_zero, List.set_cons_succ]
                  refine Z.ready (rs := [5]) (by kernel_rfl) (by simp) (Z.All.cons rfl (fun K hK => ?_) Z.All.nil)
                  have BLW : Below wr.heap.size wr (((wr.alloc (.cells #[] 9)).alloc (.cells #[.string t] 9)).drew) := (((Below.refl wr.heap.size wr).alloc (by simp) _).alloc (by simp) _).drew
                  refine Ap.step_append_row (((wr.alloc (.cells #[] 9)).alloc (.cells #[.string t] 9)).drew) rfl (.tmp 62) (.tmp 66) 24 rfl wr.heap.size 9 t0 (.string ByteArray.empty) 16 Try.underlying24 ht0 hy0 hy1 hy2 rfl (.slice (some ⟨wr.heap.size, 0, none⟩) 0 0) 0 [] rfl (Ap.owns_empty (by omega) (Ap.heapEK _ _ _)) (w1.heap.size + 1) 9 (.slice none 0 0) 0 [] rfl (World.ownsRow_nil _ _ _ _) (fun u hu => by cases hu) (by unfold maxLen; omega) (by omega) BLW.size ?_
                  intro v1 wa ho1 hg1
                  have hB1 : Below wr.heap.size wr wa := Below.grown BLW hg1 BLW.size (by intro q hq; simp only [Value.ownBlock, Option.some.injEq] at hq; omega)
                  have hk1 : wa.cell? ⟨wr.heap.size + 1, 0, none⟩ = some (.string t) := (World.grownBy.cell_far hg1 ⟨wr.heap.size + 1, 0, none⟩ (by simp) (Ap.ne_own (wr.heap.size + 1) wr.heap.size 0 0 (by omega))).trans (Ap.cellEK _ _ _)
                  refine hK.out _ _ (fun _ => ⟨(hB1.cell (by exact hN.lt)).trans c1, hB1⟩) ?_
                  clear hK K
                  simp only [Act.put, List.setIfInBounds_toArray, List.set_cons_zero, List.set_cons_succ]
                  have HO1 := ho1
                  have HB1 := hB1
                  refine Z.ready (rs := [8]) (by kernel_rfl) (by simp) (Z.All.cons rfl (fun K hK => ?_) Z.All.nil)
                  refine Ap.step_append_any (wa) rfl (.tmp 67) (.tmp 69) 24 rfl wr.heap.size 9 t0 (.string ByteArray.empty) 1 16 Try.underlying24 ht0 hy0 hy1 hy2 rfl (by decide) v1 (0 + 0) _ rfl HO1 ⟨wr.heap.size + 1, 0, none⟩ 1 1 [.string t] rfl rfl (Ap.one_of hk1) (by intro u hu; simp only [List.mem_cons, List.not_mem_nil, or_false] at hu; subst hu; rfl) (by unfold maxLen; omega) (by omega) HB1.size ?_
                  intro v2 wb ho2 hg2
                  have hB2 : Below wr.heap.size wr wb := Below.grown HB1 hg2 HB1.size (Tr.owns_base HO1)
                  refine hK.out _ _ (fun _ => ⟨(hB2.cell (by exact hN.lt)).trans c1, hB2⟩) ?_
                  clear hK K
                  simp only [Act.put, List.setIfInBounds_toArray, List.set_cons_zero, List.set_cons_succ]
                  refine Z.ready (rs := [13]) (by kernel_rfl) (by simp) (Z.All.cons rfl (fun K hK => ?_) Z.All.nil)
                  refine Ap.step_append_row wb rfl (.tmp 70) (.tmp 74) 24 rfl wr.heap.size 9 t0 (.string ByteArray.empty) 16 Try.underlying24 ht0 hy0 hy1 hy2 rfl v2 ((0 + 0) + 1) _ rfl ho2 (w1.heap.size + 1) 9 (.slice none 0 0) 0 [] rfl (World.ownsRow_nil _ _ _ _) (fun u hu => by cases hu) (by unfold maxLen; omega) (by omega) hB2.size ?_
                  intro v3 wc ho3 hg3
                  have hB3 : Below wr.heap.size wr wc := Below.grown hB2 hg3 hB2.size (Tr.owns_base ho2)
                  have hS3 : (fun w' => w'.cell? ⟨w1.heap.size, 1, none⟩ = some (.slice none 0 0) ∧ Below wr.heap.size wr w') wc := ⟨(hB3.cell (by exact hN.lt)).trans c1, hB3⟩
                  obtain ⟨xa, xc, hx3⟩ := Tr.owns_slice ho3
                  have HR3 := fun x => hide (Tr.names_in0 hnil ho3 hN.lt (i := 1) (x := x))
                  generalize hcnt : ((0 + 0) + 1 + 0) = cnt at hx3
                  clear hcnt
                  subst hx3
                  refine hK.out _ _ (fun _ => hS3) ?_
                  clear hK K
                  simp only [Act.put, List.setIfInBounds_toArray, List.set_cons_zero, List.set_cons_succ]
                  refine Z.take (i := 14) (d := 76) (v := .pointer (some ⟨w1.heap.size, 1, none⟩)) rfl rfl (by kernel_rfl) (by kernel_rfl) (by kernel_rfl) (by kernel_rfl) (fun _ _ _ h => h) (Or.inl ⟨by rfl, ?_⟩) hS3 ?_
                  · intro w' hSw; obtain ⟨s1, _⟩ := hSw; go_simp
                  simp only [Act.put, List.setIfInBounds_toArray, List.set_cons_zero, List.set_cons_succ]
                  have N3 := hN.below hB3 hN.lt
                  have n3 := (nres_of N3).2
                  have y3 := N3.frozen 1
                  refine Z.last_at (w' := wc.setCell ⟨w1.heap.size, 1, none⟩ (.slice xa cnt xc)) rfl (by kernel_rfl) (by rfl) (fun K hK => ?_) ?_
                  · go_simp
                    exact hK.out
                  refine Z.done (by kernel_rfl) ?_ _
                  have hB4 : Below w1.heap.size w1 (wc.setCell ⟨w1.heap.size, 1, none⟩ (.slice xa cnt xc)) := (hbel.trans (hB3.mono hbel.size)).setCell (Nat.le_refl _) _
                  have N4 := N3.set 1 (.slice xa cnt xc)
                  clear n3 y3 c1
                  go_wp2_with fail
                  go_roundg (l.length - (k + 1))
                  case rel => exact ⟨k + 1, _, Tr.insV L t, rfl, by go_num, by omega, unhide hn2, by rw [Tr.insV_length]; omega, N4, unhide (HR3 _), hB4⟩
                  case measure => have := hg.out; omega
              · intro K hK
                go_simp
                exact hK.out
              · exact ⟨(((Below.refl wr.heap.size wr).alloc (by simp) _).drew.cell (by exact hN.lt)).trans c1, ((Below.refl wr.heap.size wr).alloc (by simp) _).drew⟩
              · simp only [Act.put, List.setIfInBounds_toArray, List.set_cons_zero, List.set_cons_succ]
                refine Z.ready (rs := [0]) (by kernel_rfl) (by simp) (Z.val_cons (i := 0) (d := 62) (v := .slice (some ⟨wr.heap.size + 1, 0, none⟩) 0 0) (w' := ((wr.alloc (.cells #[.string t] 9)).alloc (.cells #[] 9)).drew) rfl (by rfl) ?_ (fun _ => ?_) ?_ Z.All.nil)
                · intro K hK
                  go_simp
                  exact hK.out
                · exact ⟨((((Below.refl wr.heap.size wr).alloc (by simp) _).alloc (by simp) _).drew.cell (by exact hN.lt)).trans c1, (((Below.refl wr.heap.size wr).alloc (by simp) _).alloc (by simp) _).drew⟩
                · simp only [Act.put, List.setIfInBounds_toArray, List.set_cons_zero, List.set_cons_succ]
                  refine Z.ready (rs := [5]) (by kernel_rfl) (by simp) (Z.All.cons rfl (fun K hK => ?_) Z.All.nil)
                  have BLW : Below wr.heap.size wr (((wr.alloc (.cells #[.string t] 9)).alloc (.cells #[] 9)).drew) := (((Below.refl wr.heap.size wr).alloc (by simp) _).alloc (by simp) _).drew
                  refine Ap.step_append_row (((wr.alloc (.cells #[.string t] 9)).alloc (.cells #[] 9)).drew) rfl (.tmp 62) (.tmp 66) 24 rfl wr.heap.size 9 t0 (.string ByteArray.empty) 16 Try.underlying24 ht0 hy0 hy1 hy2 rfl (.slice (some ⟨wr.heap.size + 1, 0, none⟩) 0 0) 0 [] rfl (Ap.owns_empty (by omega) (Ap.heapKE _ _ _)) (w1.heap.size + 1) 9 (.slice none 0 0) 0 [] rfl (World.ownsRow_nil _ _ _ _) (fun u hu => by cases hu) (by unfold maxLen; omega) (by omega) BLW.size ?_
                  intro v1 wa ho1 hg1
                  have hB1 : Below wr.heap.size wr wa := Below.grown BLW hg1 BLW.size (by intro q hq; simp only [Value.ownBlock, Option.some.injEq] at hq; omega)
                  have hk1 : wa.cell? ⟨wr.heap.size, 0, none⟩ = some (.string t) := (World.grownBy.cell_far hg1 ⟨wr.heap.size, 0, none⟩ (by simp <;> omega) (Ap.ne_own wr.heap.size (wr.heap.size + 1) 0 0 (by omega))).trans (Ap.cellKE _ _ _)
                  refine hK.out _ _ (fun _ => ⟨(hB1.cell (by exact hN.lt)).trans c1, hB1⟩) ?_
                  clear hK K
                  simp only [Act.put, List.setIfInBounds_toArray, List.set_cons_zero, List.set_cons_succ]
                  have HO1 := ho1
                  have HB1 := hB1
                  refine Z.ready (rs := [8]) (by kernel_rfl) (by simp) (Z.All.cons rfl (fun K hK => ?_) Z.All.nil)
                  refine Ap.step_append_any (wa) rfl (.tmp 67) (.tmp 69) 24 rfl wr.heap.size 9 t0 (.string ByteArray.empty) 1 16 Try.underlying24 ht0 hy0 hy1 hy2 rfl (by decide) v1 (0 + 0) _ rfl HO1 ⟨wr.heap.size, 0, none⟩ 1 1 [.string t] rfl rfl (Ap.one_of hk1) (by intro u hu; simp only [List.mem_cons, List.not_mem_nil, or_false] at hu; subst hu; rfl) (by unfold maxLen; omega) (by omega) HB1.size ?_
                  intro v2 wb ho2 hg2
                  have hB2 : Below wr.heap.size wr wb := Below.grown HB1 hg2 HB1.size (Tr.owns_base HO1)
                  refine hK.out _ _ (fun _ => ⟨(hB2.cell (by exact hN.lt)).trans c1, hB2⟩) ?_
                  clear hK K
                  simp only [Act.put, List.setIfInBounds_toArray, List.set_cons_zero, List.set_cons_succ]
                  refine Z.ready (rs := [13]) (by kernel_rfl) (by simp) (Z.All.cons rfl (fun K hK => ?_) Z.All.nil)
                  refine Ap.step_append_row wb rfl (.tmp 70) (.tmp 74) 24 rfl wr.heap.size 9 t0 (.string ByteArray.empty) 16 Try.underlying24 ht0 hy0 hy1 hy2 rfl v2 ((0 + 0) + 1) _ rfl ho2 (w1.heap.size + 1) 9 (.slice none 0 0) 0 [] rfl (World.ownsRow_nil _ _ _ _) (fun u hu => by cases hu) (by unfold maxLen; omega) (by omega) hB2.size ?_
                  intro v3 wc ho3 hg3
                  have hB3 : Below wr.heap.size wr wc := Below.grown hB2 hg3 hB2.size (Tr.owns_base ho2)
                  have hS3 : (fun w' => w'.cell? ⟨w1.heap.size, 1, none⟩ = some (.slice none 0 0) ∧ Below wr.heap.size wr w') wc := ⟨(hB3.cell (by exact hN.lt)).trans c1, hB3⟩
                  obtain ⟨xa, xc, hx3⟩ := Tr.owns_slice ho3
                  have HR3 := fun x => hide (Tr.names_in0 hnil ho3 hN.lt (i := 1) (x := x))
                  generalize hcnt : ((0 + 0) + 1 + 0) = cnt at hx3
                  clear hcnt
                  subst hx3
                  refine hK.out _ _ (fun _ => hS3) ?_
                  clear hK K
                  simp only [Act.put, List.setIfInBounds_toArray, List.set_cons_zero, List.set_cons_succ]
                  refine Z.take (i := 14) (d := 76) (v := .pointer (some ⟨w1.heap.size, 1, none⟩)) rfl rfl (by kernel_rfl) (by kernel_rfl) (by kernel_rfl) (by kernel_rfl) (fun _ _ _ h => h) (Or.inl ⟨by rfl, ?_⟩) hS3 ?_
                  · intro w' hSw; obtain ⟨s1, _⟩ := hSw; go_simp
                  simp only [Act.put, List.setIfInBounds_toArray, List.set_cons_zero, List.set_cons_succ]
                  have N3 := hN.below hB3 hN.lt
                  have n3 := (nres_of N3).2
                  have y3 := N3.frozen 1
                  refine Z.last_at (w' := wc.setCell ⟨w1.heap.size, 1, none⟩ (.slice xa cnt xc)) rfl (by kernel_rfl) (by rfl) (fun K hK => ?_) ?_
                  · go_simp
                    exact hK.out
                  refine Z.done (by kernel_rfl) ?_ _
                  have hB4 : Below w1.heap.size w1 (wc.setCell ⟨w1.heap.size, 1, none⟩ (.slice xa cnt xc)) := (hbel.trans (hB3.mono hbel.size)).setCell (Nat.le_refl _) _
                  have N4 := N3.set 1 (.slice xa cnt xc)
                  clear n3 y3 c1
                  go_wp2_with fail
                  go_roundg (l.length - (k + 1))
                  case rel => exact ⟨k + 1, _, Tr.insV L t, rfl, by go_num, by omega, unhide hn2, by rw [Tr.insV_length]; omega, N4, unhide (HR3 _), hB4⟩
                  case measure => have := hg.out; omega
            · obtain ⟨hva, hvc⟩ : va = some ⟨g, 0, none⟩ ∧ vc = cap := by simpa using hgv
              subst va vc
              clear hgv
              have hj0 : (0 : Int) ≤ (j : Int) := by omega
              have hjc : (j : Int) ≤ (cap : Int) := by omega
              have hLc : (L.length : Int) ≤ (cap : Int) := by omega
              by_cases hjl : j < L.length
              · have hjlI : (j : Int) < (L.length : Int) := by omega
                have m0 := (unhide hcell) g cap (unhide HO) j hjl
                cases hle : Tr.less (L.getD j ByteArray.empty) t with
                | true =>
                  have hbl : Op.bytesLess (L.getD j ByteArray.empty).toList t.toList = true := hle
                  have hle2 : Hid (∀ i, i < j + 1 → Tr.less (L.getD i ByteArray.empty) t = true) := fun i hi => by
                    rcases Nat.lt_or_ge i j with h | h
                    · exact hless.out i h
                    · have hij : i = j := by omega
                      rw [hij]; exact hle
                  generalize L.getD j ByteArray.empty = u at m0 hbl
                  clear hle
                  go_wp2_with fail
                  go_roundg (L.length - (j + 1))
                  case rel => exact ⟨j + 1, rfl, by go_num, by omega, unhide hle2, rfl⟩
                  case measure => have := hgj.out; omega
                | false =>
                  have hbl : Op.bytesLess (L.getD j ByteArray.empty).toList t.toList = false := hle
                  have hah := (unhide hstop) j (by omega) hless.out (.inr hle)
                  have hjL : j ≤ L.length := by omega
                  have hjLI : (j : Int) ≤ (L.length : Int) := by omega
                  have hcj : cap ≠ j := by omega
                  generalize L.getD j ByteArray.empty = u at m0 hbl
                  clear hle
                  go_wp2_with fail
                  refine Z.region 15 (fun w' => w'.cell? ⟨w1.heap.size, 1, none⟩ = some (.slice (some ⟨g, 0, none⟩) L.length cap) ∧ Below wr.heap.size wr w') (by kernel_rfl) ⟨c1, (Below.refl _ _).drew⟩ (fun hHeld => ?_)
                  refine Z.take (i := 1) (d := 63) (v := .pointer (some ⟨w1.heap.size, 1, none⟩)) rfl rfl (by kernel_rfl) (by kernel_rfl) (by kernel_rfl) (by kernel_rfl) (fun _ _ _ h => h) (Or.inl ⟨by rfl, ?_⟩) hHeld ?_
                  · intro w' hSw; obtain ⟨s1, _⟩ := hSw; go_simp
                  simp only [Act.put, List.setIfInBounds_toArray, List.set_cons_zero, List.set_cons_succ]
                  refine Z.take (i := 2) (d := 64) (v := .slice (some ⟨g, 0, none⟩) L.length cap) rfl rfl (by kernel_rfl) (by kernel_rfl) (by kernel_rfl) (by kernel_rfl) (fun _ _ _ h => h) (Or.inl ⟨by rfl, ?_⟩) hHeld ?_
                  · intro w' hSw; obtain ⟨s1, _⟩ := hSw; go_simp
                  simp only [Act.put, List.setIfInBounds_toArray, List.set_cons_zero, List.set_cons_succ]
                  refine Z.take (i := 3) (d := 65) (v := .int .i64 j) rfl rfl (by kernel_rfl) (by kernel_rfl) (by kernel_rfl) (by kernel_rfl) (fun _ _ _ h => h) (Or.inl ⟨by rfl, ?_⟩) hHeld ?_
                  · intro w' hSw; obtain ⟨s1, _⟩ := hSw; go_simp
                  simp only [Act.put, List.setIfInBounds_toArray, List.set_cons_zero, List.set_cons_succ]
                  refine Z.take (i := 4) (d := 66) (v := .slice (some ⟨g, 0, none⟩) j cap) rfl rfl (by kernel_rfl) (by kernel_rfl) (by kernel_rfl) (by kernel_rfl) (fun _ _ _ h => h) (Or.inl ⟨by rfl, ?_⟩) hHeld ?_
                  · intro w' hSw; obtain ⟨s1, _⟩ := hSw; go_simp
                  simp only [Act.put, List.setIfInBounds_toArray, List.set_cons_zero, List.set_cons_succ]
                  refine Z.take (i := 6) (d := 68) (v := .string t) rfl rfl (by kernel_rfl) (by kernel_rfl) (by kernel_rfl) (by kernel_rfl) (fun _ _ _ h => h) (Or.inl ⟨by rfl, ?_⟩) hHeld ?_
                  · intro w' hSw; obtain ⟨s1, _⟩ := hSw; go_simp
                  simp only [Act.put, List.setIfInBounds_toArray, List.set_cons_zero, List.set_cons_succ]
                  refine Z.take (i := 9) (d := 71) (v := .pointer (some ⟨w1.heap.size, 1, none⟩)) rfl rfl (by kernel_rfl) (by kernel_rfl) (by kernel_rfl) (by kernel_rfl) (fun _ _ _ h => h) (Or.inl ⟨by rfl, ?_⟩) hHeld ?_
                  · intro w' hSw; obtain ⟨s1, _⟩ := hSw; go_simp
                  simp only [Act.put, List.setIfInBounds_toArray, List.set_cons_zero, List.set_cons_succ]
                  refine Z.take (i := 10) (d := 72) (v := .slice (some ⟨g, 0, none⟩) L.length cap) rfl rfl (by kernel_rfl) (by kernel_rfl) (by kernel_rfl) (by kernel_rfl) (fun _ _ _ h => h) (Or.inl ⟨by rfl, ?_⟩) hHeld ?_
                  · intro w' hSw; obtain ⟨s1, _⟩ := hSw; go_simp
                  simp only [Act.put, List.setIfInBounds_toArray, List.set_cons_zero, List.set_cons_succ]
                  refine Z.take (i := 11) (d := 73) (v := .int .i64 j) rfl rfl (by kernel_rfl) (by kernel_rfl) (by kernel_rfl) (by kernel_rfl) (fun _ _ _ h => h) (Or.inl ⟨by rfl, ?_⟩) hHeld ?_
                  · intro w' hSw; obtain ⟨s1, _⟩ := hSw; go_simp
                  simp only [Act.put, List.setIfInBounds_toArray, List.set_cons_zero, List.set_cons_succ]
                  refine Z.take (i := 12) (d := 74) (v := .slice (some ⟨g, j, none⟩) (L.length - j) (cap - j)) rfl rfl (by kernel_rfl) (by kernel_rfl) (by kernel_rfl) (by kernel_rfl) (fun _ _ _ h => h) (Or.inl ⟨by rfl, ?_⟩) hHeld ?_
                  · intro w' hSw; obtain ⟨s1, _⟩ := hSw; go_simp
                  simp only [Act.put, List.setIfInBounds_toArray, List.set_cons_zero, List.set_cons_succ]
                  refine Z.ready (rs := [0, 7]) (by kernel_rfl) (by simp) (Z.val_cons (i := 0) (d := 62) (v := .slice (some ⟨wr.heap.size, 0, none⟩) 0 0) (w' := (wr.alloc (.cells #[] 9)).drew) rfl (by rfl) ?_ (fun _ => ?_) ?_ (Z.val_cons (i := 7) (d := 69) (v := .slice (some ⟨wr.heap.size, 0, none⟩) 1 1) (w' := (wr.alloc (.cells #[.string t] 9)).drew) rfl (by rfl) ?_ (fun _ => ?_) ?_ Z.All.nil))
                  · intro K hK
                    go_simp
                    exact hK.out
                  · exact ⟨(((Below.refl wr.heap.size wr).alloc (by simp) _).drew.cell (by exact hN.lt)).trans c1, ((Below.refl wr.heap.size wr).alloc (by simp) _).drew⟩
                  · simp only [Act.put, List.setIfInBounds_toArray, List.set_cons_zero, List.set_cons_succ]
                    refine Z.ready (rs := [5, 7]) (by kernel_rfl) (by simp) (Z.All.cons rfl (fun K hK => ?_) (Z.val_cons (i := 7) (d := 69) (v := .slice (some ⟨wr.heap.size + 1, 0, none⟩) 1 1) (w' := ((wr.alloc (.cells #[] 9)).alloc (.cells #[.string t] 9)).drew) rfl (by rfl) ?_ (fun _ => ?_) ?_ Z.All.nil))
                    · skip
                      have BLW : Below wr.heap.size wr ((wr.alloc (.cells #[] 9)).drew) := ((Below.refl wr.heap.size wr).alloc (by simp) _).drew
                      refine Ap.step_append_row ((wr.alloc (.cells #[] 9)).drew) rfl (.tmp 62) (.tmp 66) 24 rfl wr.heap.size 9 t0 (.string ByteArray.empty) 16 Try.underlying24 ht0 hy0 hy1 hy2 rfl (.slice (some ⟨wr.heap.size, 0, none⟩) 0 0) 0 [] rfl (Ap.owns_empty (by omega) (Ap.heapE _ _)) (w1.heap.size + 1) 9 (.slice (some ⟨g, 0, none⟩) j cap) j ((L.map Value.string).take j) rfl (Tr.owns_first (Tr.owns_below (unhide HO) BLW) j hjL) (fun u hu => Tr.strs_plain L u (List.mem_of_mem_take hu)) (by unfold maxLen; omega) (by omega) BLW.size ?_
                      intro v1 wa ho1 hg1
                      have hB1 : Below wr.heap.size wr wa := Below.grown BLW hg1 BLW.size (by intro q hq; simp only [Value.ownBlock, Option.some.injEq] at hq; omega)
                      refine hK.out _ _ (fun _ => ⟨(hB1.cell (by exact hN.lt)).trans c1, hB1⟩) ?_
                      clear hK K
                      simp only [Act.put, List.setIfInBounds_toArray, List.set_cons_zero, List.set_cons_succ]
                      refine Z.ready (rs := [7]) (by kernel_rfl) (by simp) (Z.val_cons (i := 7) (d := 69) (v := .slice (some ⟨wa.heap.size, 0, none⟩) 1 1) (w' := wa.alloc (.cells #[.string t] 9)) rfl (by rfl) ?_ (fun _ => ?_) ?_ Z.All.nil)
                      · intro K hK
                        go_simp
                        exact hK.out
                      · exact ⟨((hB1.alloc hB1.size _).cell (by exact hN.lt)).trans c1, hB1.alloc hB1.size _⟩
                      · simp only [Act.put, List.setIfInBounds_toArray, List.set_cons_zero, List.set_cons_succ]
                        have HO1 := ho1.alloc (.cells #[.string t] 9)
                        have HB1 := hB1.alloc hB1.size (.cells #[.string t] 9)
                        refine Z.ready (rs := [8]) (by kernel_rfl) (by simp) (Z.All.cons rfl (fun K hK => ?_) Z.All.nil)
                        refine Ap.step_append_any (wa.alloc (.cells #[.string t] 9)) rfl (.tmp 67) (.tmp 69) 24 rfl wr.heap.size 9 t0 (.string ByteArray.empty) 1 16 Try.underlying24 ht0 hy0 hy1 hy2 rfl (by decide) v1 (0 + j) _ rfl HO1 ⟨wa.heap.size, 0, none⟩ 1 1 [.string t] rfl rfl (Ap.one_of (World.cell?_alloc_mark wa #[.string t] 9 (0, 0) 0)) (by intro u hu; simp only [List.mem_cons, List.not_mem_nil, or_false] at hu; subst hu; rfl) (by unfold maxLen; omega) (by omega) HB1.size ?_
                        intro v2 wb ho2 hg2
                        have hB2 : Below wr.heap.size wr wb := Below.grown HB1 hg2 HB1.size (Tr.owns_base HO1)
                        refine hK.out _ _ (fun _ => ⟨(hB2.cell (by exact hN.lt)).trans c1, hB2⟩) ?_
                        clear hK K
                        simp only [Act.put, List.setIfInBounds_toArray, List.set_cons_zero, List.set_cons_succ]
                        refine Z.ready (rs := [13]) (by kernel_rfl) (by simp) (Z.All.cons rfl (fun K hK => ?_) Z.All.nil)
                        refine Ap.step_append_any wb rfl (.tmp 70) (.tmp 74) 24 rfl wr.heap.size 9 t0 (.string ByteArray.empty) 1 16 Try.underlying24 ht0 hy0 hy1 hy2 rfl (by decide) v2 ((0 + j) + 1) _ rfl ho2 ⟨g, j, none⟩ (L.length - j) (cap - j) ((L.map Value.string).drop j) rfl (by simp) (Tr.owns_drop (Tr.owns_below (unhide HO) hB2) j) (fun u hu => Tr.strs_plain L u (List.mem_of_mem_drop hu)) (by unfold maxLen; omega) (by omega) hB2.size ?_
                        intro v3 wc ho3 hg3
                        have hB3 : Below wr.heap.size wr wc := Below.grown hB2 hg3 hB2.size (Tr.owns_base ho2)
                        have hS3 : (fun w' => w'.cell? ⟨w1.heap.size, 1, none⟩ = some (.slice (some ⟨g, 0, none⟩) L.length cap) ∧ Below wr.heap.size wr w') wc := ⟨(hB3.cell (by exact hN.lt)).trans c1, hB3⟩
                        obtain ⟨xa, xc, hx3⟩ := Tr.owns_slice ho3
                        have HR3 := fun x => hide (Tr.names_in hah ho3 hN.lt (i := 1) (x := x))
                        generalize hcnt : ((0 + j) + 1 + (L.length - j)) = cnt at hx3
                        clear hcnt
                        subst hx3
                        refine hK.out _ _ (fun _ => hS3) ?_
                        clear hK K
                        simp only [Act.put, List.setIfInBounds_toArray, List.set_cons_zero, List.set_cons_succ]
                        refine Z.take (i := 14) (d := 76) (v := .pointer (some ⟨w1.heap.size, 1, none⟩)) rfl rfl (by kernel_rfl) (by kernel_rfl) (by kernel_rfl) (by kernel_rfl) (fun _ _ _ h => h) (Or.inl ⟨by rfl, ?_⟩) hS3 ?_
                        · intro w' hSw; obtain ⟨s1, _⟩ := hSw; go_simp
                        simp only [Act.put, List.setIfInBounds_toArray, List.set_cons_zero, List.set_cons_succ]
                        have N3 := hN.below hB3 hN.lt
                        have n3 := (nres_of N3).2
                        have y3 := N3.frozen 1
                        refine Z.last_at (w' := wc.setCell ⟨w1.heap.size, 1, none⟩ (.slice xa cnt xc)) rfl (by kernel_rfl) (by rfl) (fun K hK => ?_) ?_
                        · go_simp
                          exact hK.out
                        refine Z.done (by kernel_rfl) ?_ _
                        have hB4 : Below w1.heap.size w1 (wc.setCell ⟨w1.heap.size, 1, none⟩ (.slice xa cnt xc)) := (hbel.trans (hB3.mono hbel.size)).setCell (Nat.le_refl _) _
                        have N4 := N3.set 1 (.slice xa cnt xc)
                        clear n3 y3 c1
                        go_wp2_with fail
                        go_roundg (l.length - (k + 1))
                        case rel => exact ⟨k + 1, _, Tr.insV L t, rfl, by go_num, by omega, unhide hn2, by rw [Tr.insV_length]; omega, N4, unhide (HR3 _), hB4⟩
                        case measure => have := hg.out; omega
                    · intro K hK
                      go_simp
                      exact hK.out
                    · exact ⟨((((Below.refl wr.heap.size wr).alloc (by simp) _).alloc (by simp) _).drew.cell (by exact hN.lt)).trans c1, (((Below.refl wr.heap.size wr).alloc (by simp) _).alloc (by simp) _).drew⟩
                    · simp only [Act.put, List.setIfInBounds_toArray, List.set_cons_zero, List.set_cons_succ]
                      refine Z.ready (rs := [5]) (by kernel_rfl) (by simp) (Z.All.cons rfl (fun K hK => ?_) Z.All.nil)
                      have BLW : Below wr.heap.size wr (((wr.alloc (.cells #[] 9)).alloc (.cells #[.string t] 9)).drew) := (((Below.refl wr.heap.size wr).alloc (by simp) _).alloc (by simp) _).drew
                      refine Ap.step_append_row (((wr.alloc (.cells #[] 9)).alloc (.cells #[.string t] 9)).drew) rfl (.tmp 62) (.tmp 66) 24 rfl wr.heap.size 9 t0 (.string ByteArray.empty) 16 Try.underlying24 ht0 hy0 hy1 hy2 rfl (.slice (some ⟨wr.heap.size, 0, none⟩) 0 0) 0 [] rfl (Ap.owns_empty (by omega) (Ap.heapEK _ _ _)) (w1.heap.size + 1) 9 (.slice (some ⟨g, 0, none⟩) j cap) j ((L.map Value.string).take j) rfl (Tr.owns_first (Tr.owns_below (unhide HO) BLW) j hjL) (fun u hu => Tr.strs_plain L u (List.mem_of_mem_take hu)) (by unfold maxLen; omega) (by omega) BLW.size ?_
                      intro v1 wa ho1 hg1
                      have hB1 : Below wr.heap.size wr wa := Below.grown BLW hg1 BLW.size (by intro q hq; simp only [Value.ownBlock, Option.some.injEq] at hq; omega)
                      have hk1 : wa.cell? ⟨wr.heap.size + 1, 0, none⟩ = some (.string t) := (World.grownBy.cell_far hg1 ⟨wr.heap.size + 1, 0, none⟩ (by simp) (Ap.ne_own (wr.heap.size + 1) wr.heap.size 0 0 (by omega))).trans (Ap.cellEK _ _ _)
                      refine hK.out _ _ (fun _ => ⟨(hB1.cell (by exact hN.lt)).trans c1, hB1⟩) ?_
                      clear hK K
                      simp only [Act.put, List.setIfInBounds_toArray, List.set_cons_zero, List.set_cons_succ]
                      have HO1 := ho1
                      have HB1 := hB1
                      refine Z.ready (rs := [8]) (by kernel_rfl) (by simp) (Z.All.cons rfl (fun K hK => ?_) Z.All.nil)
                      refine Ap.step_append_any (wa) rfl (.tmp 67) (.tmp 69) 24 rfl wr.heap.size 9 t0 (.string ByteArray.empty) 1 16 Try.underlying24 ht0 hy0 hy1 hy2 rfl (by decide) v1 (0 + j) _ rfl HO1 ⟨wr.heap.size + 1, 0, none⟩ 1 1 [.string t] rfl rfl (Ap.one_of hk1) (by intro u hu; simp only [List.mem_cons, List.not_mem_nil, or_false] at hu; subst hu; rfl) (by unfold maxLen; omega) (by omega) HB1.size ?_
                      intro v2 wb ho2 hg2
                      have hB2 : Below wr.heap.size wr wb := Below.grown HB1 hg2 HB1.size (Tr.owns_base HO1)
                      refine hK.out _ _ (fun _ => ⟨(hB2.cell (by exact hN.lt)).trans c1, hB2⟩) ?_
                      clear hK K
                      simp only [Act.put, List.setIfInBounds_toArray, List.set_cons_zero, List.set_cons_succ]
                      refine Z.ready (rs := [13]) (by kernel_rfl) (by simp) (Z.All.cons rfl (fun K hK => ?_) Z.All.nil)
                      refine Ap.step_append_any wb rfl (.tmp 70) (.tmp 74) 24 rfl wr.heap.size 9 t0 (.string ByteArray.empty) 1 16 Try.underlying24 ht0 hy0 hy1 hy2 rfl (by decide) v2 ((0 + j) + 1) _ rfl ho2 ⟨g, j, none⟩ (L.length - j) (cap - j) ((L.map Value.string).drop j) rfl (by simp) (Tr.owns_drop (Tr.owns_below (unhide HO) hB2) j) (fun u hu => Tr.strs_plain L u (List.mem_of_mem_drop hu)) (by unfold maxLen; omega) (by omega) hB2.size ?_
                      intro v3 wc ho3 hg3
                      have hB3 : Below wr.heap.size wr wc := Below.grown hB2 hg3 hB2.size (Tr.owns_base ho2)
                      have hS3 : (fun w' => w'.cell? ⟨w1.heap.size, 1, none⟩ = some (.slice (some ⟨g, 0, none⟩) L.length cap) ∧ Below wr.heap.size wr w') wc := ⟨(hB3.cell (by exact hN.lt)).trans c1, hB3⟩
                      obtain ⟨xa, xc, hx3⟩ := Tr.owns_slice ho3
                      have HR3 := fun x => hide (Tr.names_in hah ho3 hN.lt (i := 1) (x := x))
                      generalize hcnt : ((0 + j) + 1 + (L.length - j)) = cnt at hx3
                      clear hcnt
                      subst hx3
                      refine hK.out _ _ (fun _ => hS3) ?_
                      clear hK K
                      simp only [Act.put, List.setIfInBounds_toArray, List.set_cons_zero, List.set_cons_succ]
                      refine Z.take (i := 14) (d := 76) (v := .pointer (some ⟨w1.heap.size, 1, none⟩)) rfl rfl (by kernel_rfl) (by kernel_rfl) (by kernel_rfl) (by kernel_rfl) (fun _ _ _ h => h) (Or.inl ⟨by rfl, ?_⟩) hS3 ?_
                      · intro w' hSw; obtain ⟨s1, _⟩ := hSw; go_simp
                      simp only [Act.put, List.setIfInBounds_toArray, List.set_cons_zero, List.set_cons_succ]
                      have N3 := hN.below hB3 hN.lt
                      have n3 := (nres_of N3).2
                      have y3 := N3.frozen 1
                      refine Z.last_at (w' := wc.setCell ⟨w1.heap.size, 1, none⟩ (.slice xa cnt xc)) rfl (by kernel_rfl) (by rfl) (fun K hK => ?_) ?_
                      · go_simp
                        exact hK.out
                      refine Z.done (by kernel_rfl) ?_ _
                      have hB4 : Below w1.heap.size w1 (wc.setCell ⟨w1.heap.size, 1, none⟩ (.slice xa cnt xc)) := (hbel.trans (hB3.mono hbel.size)).setCell (Nat.le_refl _) _
                      have N4 := N3.set 1 (.slice xa cnt xc)
                      clear n3 y3 c1
                      go_wp2_with fail
                      go_roundg (l.length - (k + 1))
                      case rel => exact ⟨k + 1, _, Tr.insV L t, rfl, by go_num, by omega, unhide hn2, by rw [Tr.insV_length]; omega, N4, unhide (HR3 _), hB4⟩
                      case measure => have := hg.out; omega
                  · intro K hK
                    go_simp
                    exact hK.out
                  · exact ⟨(((Below.refl wr.heap.size wr).alloc (by simp) _).drew.cell (by exact hN.lt)).trans c1, ((Below.refl wr.heap.size wr).alloc (by simp) _).drew⟩
                  · simp only [Act.put, List.setIfInBounds_toArray, List.set_cons_zero, List.set_cons_succ]
                    refine Z.ready (rs := [0]) (by kernel_rfl) (by simp) (Z.val_cons (i := 0) (d := 62) (v := .slice (some ⟨wr.heap.size + 1, 0, none⟩) 0 0) (w' := ((wr.alloc (.cells #[.string t] 9)).alloc (.cells #[] 9)).drew) rfl (by rfl) ?_ (fun _ => ?_) ?_ Z.All.nil)
                    · intro K hK
                      go_simp
                      exact hK.out
                    · exact ⟨((((Below.refl wr.heap.size wr).alloc (by simp) _).alloc (by simp) _).drew.cell (by exact hN.lt)).trans c1, (((Below.refl wr.heap.size wr).alloc (by simp) _).alloc (by simp) _).drew⟩
                    · simp only [Act.put, List.setIfInBounds_toArray, List.set_cons_zero, List.set_cons_succ]
                      refine Z.ready (rs := [5]) (by kernel_rfl) (by simp) (Z.All.cons rfl (fun K hK => ?_) Z.All.nil)
                      have BLW : Below wr.heap.size wr (((wr.alloc (.cells #[.string t] 9)).alloc (.cells #[] 9)).drew) := (((Below.refl wr.heap.size wr).alloc (by simp) _).alloc (by simp) _).drew
                      refine Ap.step_append_row (((wr.alloc (.cells #[.string t] 9)).alloc (.cells #[] 9)).drew) rfl (.tmp 62) (.tmp 66) 24 rfl wr.heap.size 9 t0 (.string ByteArray.empty) 16 Try.underlying24 ht0 hy0 hy1 hy2 rfl (.slice (some ⟨wr.heap.size + 1, 0, none⟩) 0 0) 0 [] rfl (Ap.owns_empty (by omega) (Ap.heapKE _ _ _)) (w1.heap.size + 1) 9 (.slice (some ⟨g, 0, none⟩) j cap) j ((L.map Value.string).take j) rfl (Tr.owns_first (Tr.owns_below (unhide HO) BLW) j hjL) (fun u hu => Tr.strs_plain L u (List.mem_of_mem_take hu)) (by unfold maxLen; omega) (by omega) BLW.size ?_
                      intro v1 wa ho1 hg1
                      have hB1 : Below wr.heap.size wr wa := Below.grown BLW hg1 BLW.size (by intro q hq; simp only [Value.ownBlock, Option.some.injEq] at hq; omega)
                      have hk1 : wa.cell? ⟨wr.heap.size, 0, none⟩ = some (.string t) := (World.grownBy.cell_far hg1 ⟨wr.heap.size, 0, none⟩ (by simp <;> omega) (Ap.ne_own wr.heap.size (wr.heap.size + 1) 0 0 (by omega))).trans (Ap.cellKE _ _ _)
                      refine hK.out _ _ (fun _ => ⟨(hB1.cell (by exact hN.lt)).trans c1, hB1⟩) ?_
                      clear hK K
                      simp only [Act.put, List.setIfInBounds_toArray, List.set_cons_zero, List.set_cons_succ]
                      have HO1 := ho1
                      have HB1 := hB1
                      refine Z.ready (rs := [8]) (by kernel_rfl) (by simp) (Z.All.cons rfl (fun K hK => ?_) Z.All.nil)
                      refine Ap.step_append_any (wa) rfl (.tmp 67) (.tmp 69) 24 rfl wr.heap.size 9 t0 (.string ByteArray.empty) 1 16 Try.underlying24 ht0 hy0 hy1 hy2 rfl (by decide) v1 (0 + j) _ rfl HO1 ⟨wr.heap.size, 0, none⟩ 1 1 [.string t] rfl rfl (Ap.one_of hk1) (by intro u hu; simp only [List.mem_cons, List.not_mem_nil, or_false] at hu; subst hu; rfl) (by unfold maxLen; omega) (by omega) HB1.size ?_
                      intro v2 wb ho2 hg2
                      have hB2 : Below wr.heap.size wr wb := Below.grown HB1 hg2 HB1.size (Tr.owns_base HO1)
                      refine hK.out _ _ (fun _ => ⟨(hB2.cell (by exact hN.lt)).trans c1, hB2⟩) ?_
                      clear hK K
                      simp only [Act.put, List.setIfInBounds_toArray, List.set_cons_zero, List.set_cons_succ]
                      refine Z.ready (rs := [13]) (by kernel_rfl) (by simp) (Z.All.cons rfl (fun K hK => ?_) Z.All.nil)
                      refine Ap.step_append_any wb rfl (.tmp 70) (.tmp 74) 24 rfl wr.heap.size 9 t0 (.string ByteArray.empty) 1 16 Try.underlying24 ht0 hy0 hy1 hy2 rfl (by decide) v2 ((0 + j) + 1) _ rfl ho2 ⟨g, j, none⟩ (L.length - j) (cap - j) ((L.map Value.string).drop j) rfl (by simp) (Tr.owns_drop (Tr.owns_below (unhide HO) hB2) j) (fun u hu => Tr.strs_plain L u (List.mem_of_mem_drop hu)) (by unfold maxLen; omega) (by omega) hB2.size ?_
                      intro v3 wc ho3 hg3
                      have hB3 : Below wr.heap.size wr wc := Below.grown hB2 hg3 hB2.size (Tr.owns_base ho2)
                      have hS3 : (fun w' => w'.cell? ⟨w1.heap.size, 1, none⟩ = some (.slice (some ⟨g, 0, none⟩) L.length cap) ∧ Below wr.heap.size wr w') wc := ⟨(hB3.cell (by exact hN.lt)).trans c1, hB3⟩
                      obtain ⟨xa, xc, hx3⟩ := Tr.owns_slice ho3
                      have HR3 := fun x => hide (Tr.names_in hah ho3 hN.lt (i := 1) (x := x))
                      generalize hcnt : ((0 + j) + 1 + (L.length - j)) = cnt at hx3
                      clear hcnt
                      subst hx3
                      refine hK.out _ _ (fun _ => hS3) ?_
                      clear hK K
                      simp only [Act.put, List.setIfInBounds_toArray, List.set_cons_zero, List.set_cons_succ]
                      refine Z.take (i := 14) (d := 76) (v := .pointer (some ⟨w1.heap.size, 1, none⟩)) rfl rfl (by kernel_rfl) (by kernel_rfl) (by kernel_rfl) (by kernel_rfl) (fun _ _ _ h => h) (Or.inl ⟨by rfl, ?_⟩) hS3 ?_
                      · intro w' hSw; obtain ⟨s1, _⟩ := hSw; go_simp
                      simp only [Act.put, List.setIfInBounds_toArray, List.set_cons_zero, List.set_cons_succ]
                      have N3 := hN.below hB3 hN.lt
                      have n3 := (nres_of N3).2
                      have y3 := N3.frozen 1
                      refine Z.last_at (w' := wc.setCell ⟨w1.heap.size, 1, none⟩ (.slice xa cnt xc)) rfl (by kernel_rfl) (by rfl) (fun K hK => ?_) ?_
                      · go_simp
                        exact hK.out
                      refine Z.done (by kernel_rfl) ?_ _
                      have hB4 : Below w1.heap.size w1 (wc.setCell ⟨w1.heap.size, 1, none⟩ (.slice xa cnt xc)) := (hbel.trans (hB3.mono hbel.size)).setCell (Nat.le_refl _) _
                      have N4 := N3.set 1 (.slice xa cnt xc)
                      clear n3 y3 c1
                      go_wp2_with fail
                      go_roundg (l.length - (k + 1))
                      case rel => exact ⟨k + 1, _, Tr.insV L t, rfl, by go_num, by omega, unhide hn2, by rw [Tr.insV_length]; omega, N4, unhide (HR3 _), hB4⟩
                      case measure => have := hg.out; omega
              · have hje : j = L.length := by omega
                have hah := (unhide hstop) j (by omega) hless.out (.inl hje)
                subst hje
                have hjL : L.length ≤ L.length := Nat.le_refl _
                have hnl : ¬ (L.length : Int) < (L.length : Int) := by omega
                by_cases hcj : cap = L.length
                · subst hcj
                  go_wp2_with fail
                  refine Z.region 15 (fun w' => w'.cell? ⟨w1.heap.size, 1, none⟩ = some (.slice (some ⟨g, 0, none⟩) L.length L.length) ∧ Below wr.heap.size wr w') (by kernel_rfl) ⟨c1, (Below.refl _ _).drew⟩ (fun hHeld => ?_)
                  refine Z.take (i := 1) (d := 63) (v := .pointer (some ⟨w1.heap.size, 1, none⟩)) rfl rfl (by kernel_rfl) (by kernel_rfl) (by kernel_rfl) (by kernel_rfl) (fun _ _ _ h => h) (Or.inl ⟨by rfl, ?_⟩) hHeld ?_
                  · intro w' hSw; obtain ⟨s1, _⟩ := hSw; go_simp
                  simp only [Act.put, List.setIfInBounds_toArray, List.set_cons_zero, List.set_cons_succ]
                  refine Z.take (i := 2) (d := 64) (v := .slice (some ⟨g, 0, none⟩) L.length L.length) rfl rfl (by kernel_rfl) (by kernel_rfl) (by kernel_rfl) (by kernel_rfl) (fun _ _ _ h => h) (Or.inl ⟨by rfl, ?_⟩) hHeld ?_
                  · intro w' hSw; obtain ⟨s1, _⟩ := hSw; go_simp
                  simp only [Act.put, List.setIfInBounds_toArray, List.set_cons_zero, List.set_cons_succ]
                  refine Z.take (i := 3) (d := 65) (v := .int .i64 L.length) rfl rfl (by kernel_rfl) (by kernel_rfl) (by kernel_rfl) (by kernel_rfl) (fun _ _ _ h => h) (Or.inl ⟨by rfl, ?_⟩) hHeld ?_
                  · intro w' hSw; obtain ⟨s1, _⟩ := hSw; go_simp
                  simp only [Act.put, List.setIfInBounds_toArray, List.set_cons_zero, List.set_cons_succ]
                  refine Z.take (i := 4) (d := 66) (v := .slice (some ⟨g, 0, none⟩) L.length L.length) rfl rfl (by kernel_rfl) (by kernel_rfl) (by kernel_rfl) (by kernel_rfl) (fun _ _ _ h => h) (Or.inl ⟨by rfl, ?_⟩) hHeld ?_
                  · intro w' hSw; obtain ⟨s1, _⟩ := hSw; go_simp
                  simp only [Act.put, List.setIfInBounds_toArray, List.set_cons_zero, List.set_cons_succ]
                  refine Z.take (i := 6) (d := 68) (v := .string t) rfl rfl (by kernel_rfl) (by kernel_rfl) (by kernel_rfl) (by kernel_rfl) (fun _ _ _ h => h) (Or.inl ⟨by rfl, ?_⟩) hHeld ?_
                  · intro w' hSw; obtain ⟨s1, _⟩ := hSw; go_simp
                  simp only [Act.put, List.setIfInBounds_toArray, List.set_cons_zero, List.set_cons_succ]
                  refine Z.take (i := 9) (d := 71) (v := .pointer (some ⟨w1.heap.size, 1, none⟩)) rfl rfl (by kernel_rfl) (by kernel_rfl) (by kernel_rfl) (by kernel_rfl) (fun _ _ _ h => h) (Or.inl ⟨by rfl, ?_⟩) hHeld ?_
                  · intro w' hSw; obtain ⟨s1, _⟩ := hSw; go_simp
                  simp only [Act.put, List.setIfInBounds_toArray, List.set_cons_zero, List.set_cons_succ]
                  refine Z.take (i := 10) (d := 72) (v := .slice (some ⟨g, 0, none⟩) L.length L.length) rfl rfl (by kernel_rfl) (by kernel_rfl) (by kernel_rfl) (by kernel_rfl) (fun _ _ _ h => h) (Or.inl ⟨by rfl, ?_⟩) hHeld ?_
                  · intro w' hSw; obtain ⟨s1, _⟩ := hSw; go_simp
                  simp only [Act.put, List.setIfInBounds_toArray, List.set_cons_zero, List.set_cons_succ]
                  refine Z.take (i := 11) (d := 73) (v := .int .i64 L.length) rfl rfl (by kernel_rfl) (by kernel_rfl) (by kernel_rfl) (by kernel_rfl) (fun _ _ _ h => h) (Or.inl ⟨by rfl, ?_⟩) hHeld ?_
                  · intro w' hSw; obtain ⟨s1, _⟩ := hSw; go_simp
                  simp only [Act.put, List.setIfInBounds_toArray, List.set_cons_zero, List.set_cons_succ]
                  refine Z.take (i := 12) (d := 74) (v := .slice (some ⟨g, 0, none⟩) 0 (0)) rfl rfl (by kernel_rfl) (by kernel_rfl) (by kernel_rfl) (by kernel_rfl) (fun _ _ _ h => h) (Or.inl ⟨by rfl, ?_⟩) hHeld ?_
                  · intro w' hSw; obtain ⟨s1, _⟩ := hSw; go_simp
                  simp only [Act.put, List.setIfInBounds_toArray, List.set_cons_zero, List.set_cons_succ]
                  refine Z.ready (rs := [0, 7]) (by kernel_rfl) (by simp) (Z.val_cons (i := 0) (d := 62) (v := .slice (some ⟨wr.heap.size, 0, none⟩) 0 0) (w' := (wr.alloc (.cells #[] 9)).drew) rfl (by rfl) ?_ (fun _ => ?_) ?_ (Z.val_cons (i := 7) (d := 69) (v := .slice (some ⟨wr.heap.size, 0, none⟩) 1 1) (w' := (wr.alloc (.cells #[.string t] 9)).drew) rfl (by rfl) ?_ (fun _ => ?_) ?_ Z.All.nil))
                  · intro K hK
                    go_simp
                    exact hK.out
                  · exact ⟨(((Below.refl wr.heap.size wr).alloc (by simp) _).drew.cell (by exact hN.lt)).trans c1, ((Below.refl wr.heap.size wr).alloc (by simp) _).drew⟩
                  · simp only [Act.put, List.setIfInBounds_toArray, List.set_cons_zero, List.set_cons_succ]
                    refine Z.ready (rs := [5, 7]) (by kernel_rfl) (by simp) (Z.All.cons rfl (fun K hK => ?_) (Z.val_cons (i := 7) (d := 69) (v := .slice (some ⟨wr.heap.size + 1, 0, none⟩) 1 1) (w' := ((wr.alloc (.cells #[] 9)).alloc (.cells #[.string t] 9)).drew) rfl (by rfl) ?_ (fun _ => ?_) ?_ Z.All.nil))
                    · skip
                      have BLW : Below wr.heap.size wr ((wr.alloc (.cells #[] 9)).drew) := ((Below.refl wr.heap.size wr).alloc (by simp) _).drew
                      refine Ap.step_append_row ((wr.alloc (.cells #[] 9)).drew) rfl (.tmp 62) (.tmp 66) 24 rfl wr.heap.size 9 t0 (.string ByteArray.empty) 16 Try.underlying24 ht0 hy0 hy1 hy2 rfl (.slice (some ⟨wr.heap.size, 0, none⟩) 0 0) 0 [] rfl (Ap.owns_empty (by omega) (Ap.heapE _ _)) (w1.heap.size + 1) 9 (.slice (some ⟨g, 0, none⟩) L.length L.length) L.length ((L.map Value.string).take L.length) rfl (Tr.owns_first (Tr.owns_below (unhide HO) BLW) L.length hjL) (fun u hu => Tr.strs_plain L u (List.mem_of_mem_take hu)) (by unfold maxLen; omega) (by omega) BLW.size ?_
                      intro v1 wa ho1 hg1
                      have hB1 : Below wr.heap.size wr wa := Below.grown BLW hg1 BLW.size (by intro q hq; simp only [Value.ownBlock, Option.some.injEq] at hq; omega)
                      refine hK.out _ _ (fun _ => ⟨(hB1.cell (by exact hN.lt)).trans c1, hB1⟩) ?_
                      clear hK K
                      simp only [Act.put, List.setIfInBounds_toArray, List.set_cons_zero, List.set_cons_succ]
                      refine Z.ready (rs := [7]) (by kernel_rfl) (by simp) (Z.val_cons (i := 7) (d := 69) (v := .slice (some ⟨wa.heap.size, 0, none⟩) 1 1) (w' := wa.alloc (.cells #[.string t] 9)) rfl (by rfl) ?_ (fun _ => ?_) ?_ Z.All.nil)
                      · intro K hK
                        go_simp
                        exact hK.out
                      · exact ⟨((hB1.alloc hB1.size _).cell (by exact hN.lt)).trans c1, hB1.alloc hB1.size _⟩
                      · simp only [Act.put, List.setIfInBounds_toArray, List.set_cons_zero, List.set_cons_succ]
                        have HO1 := ho1.alloc (.cells #[.string t] 9)
                        have HB1 := hB1.alloc hB1.size (.cells #[.string t] 9)
                        refine Z.ready (rs := [8]) (by kernel_rfl) (by simp) (Z.All.cons rfl (fun K hK => ?_) Z.All.nil)
                        refine Ap.step_append_any (wa.alloc (.cells #[.string t] 9)) rfl (.tmp 67) (.tmp 69) 24 rfl wr.heap.size 9 t0 (.string ByteArray.empty) 1 16 Try.underlying24 ht0 hy0 hy1 hy2 rfl (by decide) v1 (0 + L.length) _ rfl HO1 ⟨wa.heap.size, 0, none⟩ 1 1 [.string t] rfl rfl (Ap.one_of (World.cell?_alloc_mark wa #[.string t] 9 (0, 0) 0)) (by intro u hu; simp only [List.mem_cons, List.not_mem_nil, or_false] at hu; subst hu; rfl) (by unfold maxLen; omega) (by omega) HB1.size ?_
                        intro v2 wb ho2 hg2
                        have hB2 : Below wr.heap.size wr wb := Below.grown HB1 hg2 HB1.size (Tr.owns_base HO1)
                        refine hK.out _ _ (fun _ => ⟨(hB2.cell (by exact hN.lt)).trans c1, hB2⟩) ?_
                        clear hK K
                        simp only [Act.put, List.setIfInBounds_toArray, List.set_cons_zero, List.set_cons_succ]
                        refine Z.ready (rs := [13]) (by kernel_rfl) (by simp) (Z.All.cons rfl (fun K hK => ?_) Z.All.nil)
                        refine Ap.step_append_any wb rfl (.tmp 70) (.tmp 74) 24 rfl wr.heap.size 9 t0 (.string ByteArray.empty) 1 16 Try.underlying24 ht0 hy0 hy1 hy2 rfl (by decide) v2 ((0 + L.length) + 1) _ rfl ho2 ⟨g, 0, none⟩ 0 (0) [] rfl rfl (fun j u hu => by simp at hu) (fun u hu => by cases hu) (by unfold maxLen; omega) (by omega) hB2.size ?_
                        intro v3 wc ho3 hg3
                        have hB3 : Below wr.heap.size wr wc := Below.grown hB2 hg3 hB2.size (Tr.owns_base ho2)
                        have hS3 : (fun w' => w'.cell? ⟨w1.heap.size, 1, none⟩ = some (.slice (some ⟨g, 0, none⟩) L.length L.length) ∧ Below wr.heap.size wr w') wc := ⟨(hB3.cell (by exact hN.lt)).trans c1, hB3⟩
                        obtain ⟨xa, xc, hx3⟩ := Tr.owns_slice ho3
                        have HR3 := fun x => hide (Tr.names_in1 hah ho3 hN.lt (i := 1) (x := x))
                        generalize hcnt : ((0 + L.length) + 1 + 0) = cnt at hx3
                        clear hcnt
                        subst hx3
                        refine hK.out _ _ (fun _ => hS3) ?_
                        clear hK K
                        simp only [Act.put, List.setIfInBounds_toArray, List.set_cons_zero, List.set_cons_succ]
                        refine Z.take (i := 14) (d := 76) (v := .pointer (some ⟨w1.heap.size, 1, none⟩)) rfl rfl (by kernel_rfl) (by kernel_rfl) (by kernel_rfl) (by kernel_rfl) (fun _ _ _ h => h) (Or.inl ⟨by rfl, ?_⟩) hS3 ?_
                        · intro w' hSw; obtain ⟨s1, _⟩ := hSw; go_simp
                        simp only [Act.put, List.setIfInBounds_toArray, List.set_cons_zero, List.set_cons_succ]
                        have N3 := hN.below hB3 hN.lt
                        have n3 := (nres_of N3).2
                        have y3 := N3.frozen 1
                        refine Z.last_at (w' := wc.setCell ⟨w1.heap.size, 1, none⟩ (.slice xa cnt xc)) rfl (by kernel_rfl) (by rfl) (fun K hK => ?_) ?_
                        · go_simp
                          exact hK.out
                        refine Z.done (by kernel_rfl) ?_ _
                        have hB4 : Below w1.heap.size w1 (wc.setCell ⟨w1.heap.size, 1, none⟩ (.slice xa cnt xc)) := (hbel.trans (hB3.mono hbel.size)).setCell (Nat.le_refl _) _
                        have N4 := N3.set 1 (.slice xa cnt xc)
                        clear n3 y3 c1
                        go_wp2_with fail
                        go_roundg (l.length - (k + 1))
                        case rel => exact ⟨k + 1, _, Tr.insV L t, rfl, by go_num, by omega, unhide hn2, by rw [Tr.insV_length]; omega, N4, unhide (HR3 _), hB4⟩
                        case measure => have := hg.out; omega
                    · intro K hK
                      go_simp
                      exact hK.out
                    · exact ⟨((((Below.refl wr.heap.size wr).alloc (by simp) _).alloc (by simp) _).drew.cell (by exact hN.lt)).trans c1, (((Below.refl wr.heap.size wr).alloc (by simp) _).alloc (by simp) _).drew⟩
                    · simp only [Act.put, List.setIfInBounds_toArray, List.set_cons_zero, List.set_cons_succ]
                      refine Z.ready (rs := [5]) (by kernel_rfl) (by simp) (Z.All.cons rfl (fun K hK => ?_) Z.All.nil)
                      have BLW : Below wr.heap.size wr (((wr.alloc (.cells #[] 9)).alloc (.cells #[.string t] 9)).drew) := (((Below.refl wr.heap.size wr).alloc (by simp) _).alloc (by simp) _).drew
                      refine Ap.step_append_row (((wr.alloc (.cells #[] 9)).alloc (.cells #[.string t] 9)).drew) rfl (.tmp 62) (.tmp 66) 24 rfl wr.heap.size 9 t0 (.string ByteArray.empty) 16 Try.underlying24 ht0 hy0 hy1 hy2 rfl (.slice (some ⟨wr.heap.size, 0, none⟩) 0 0) 0 [] rfl (Ap.owns_empty (by omega) (Ap.heapEK _ _ _)) (w1.heap.size + 1) 9 (.slice (some ⟨g, 0, none⟩) L.length L.length) L.length ((L.map Value.string).take L.length) rfl (Tr.owns_first (Tr.owns_below (unhide HO) BLW) L.length hjL) (fun u hu => Tr.strs_plain L u (List.mem_of_mem_take hu)) (by unfold maxLen; omega) (by omega) BLW.size ?_
                      intro v1 wa ho1 hg1
                      have hB1 : Below wr.heap.size wr wa := Below.grown BLW hg1 BLW.size (by intro q hq; simp only [Value.ownBlock, Option.some.injEq] at hq; omega)
                      have hk1 : wa.cell? ⟨wr.heap.size + 1, 0, none⟩ = some (.string t) := (World.grownBy.cell_far hg1 ⟨wr.heap.size + 1, 0, none⟩ (by simp) (Ap.ne_own (wr.heap.size + 1) wr.heap.size 0 0 (by omega))).trans (Ap.cellEK _ _ _)
                      refine hK.out _ _ (fun _ => ⟨(hB1.cell (by exact hN.lt)).trans c1, hB1⟩) ?_
                      clear hK K
                      simp only [Act.put, List.setIfInBounds_toArray, List.set_cons_zero, List.set_cons_succ]
                      have HO1 := ho1
                      have HB1 := hB1
                      refine Z.ready (rs := [8]) (by kernel_rfl) (by simp) (Z.All.cons rfl (fun K hK => ?_) Z.All.nil)
                      refine Ap.step_append_any (wa) rfl (.tmp 67) (.tmp 69) 24 rfl wr.heap.size 9 t0 (.string ByteArray.empty) 1 16 Try.underlying24 ht0 hy0 hy1 hy2 rfl (by decide) v1 (0 + L.length) _ rfl HO1 ⟨wr.heap.size + 1, 0, none⟩ 1 1 [.string t] rfl rfl (Ap.one_of hk1) (by intro u hu; simp only [List.mem_cons, List.not_mem_nil, or_false] at hu; subst hu; rfl) (by unfold maxLen; omega) (by omega) HB1.size ?_
                      intro v2 wb ho2 hg2
                      have hB2 : Below wr.heap.size wr wb := Below.grown HB1 hg2 HB1.size (Tr.owns_base HO1)
                      refine hK.out _ _ (fun _ => ⟨(hB2.cell (by exact hN.lt)).trans c1, hB2⟩) ?_
                      clear hK K
                      simp only [Act.put, List.setIfInBounds_toArray, List.set_cons_zero, List.set_cons_succ]
                      refine Z.ready (rs := [13]) (by kernel_rfl) (by simp) (Z.All.cons rfl (fun K hK => ?_) Z.All.nil)
                      refine Ap.step_append_any wb rfl (.tmp 70) (.tmp 74) 24 rfl wr.heap.size 9 t0 (.string ByteArray.empty) 1 16 Try.underlying24 ht0 hy0 hy1 hy2 rfl (by decide) v2 ((0 + L.length) + 1) _ rfl ho2 ⟨g, 0, none⟩ 0 (0) [] rfl rfl (fun j u hu => by simp at hu) (fun u hu => by cases hu) (by unfold maxLen; omega) (by omega) hB2.size ?_
                      intro v3 wc ho3 hg3
                      have hB3 : Below wr.heap.size wr wc := Below.grown hB2 hg3 hB2.size (Tr.owns_base ho2)
                      have hS3 : (fun w' => w'.cell? ⟨w1.heap.size, 1, none⟩ = some (.slice (some ⟨g, 0, none⟩) L.length L.length) ∧ Below wr.heap.size wr w') wc := ⟨(hB3.cell (by exact hN.lt)).trans c1, hB3⟩
                      obtain ⟨xa, xc, hx3⟩ := Tr.owns_slice ho3
                      have HR3 := fun x => hide (Tr.names_in1 hah ho3 hN.lt (i := 1) (x := x))
                      generalize hcnt : ((0 + L.length) + 1 + 0) = cnt at hx3
                      clear hcnt
                      subst hx3
                      refine hK.out _ _ (fun _ => hS3) ?_
                      clear hK K
                      simp only [Act.put, List.setIfInBounds_toArray, List.set_cons_zero, List.set_cons_succ]
                      refine Z.take (i := 14) (d := 76) (v := .pointer (some ⟨w1.heap.size, 1, none⟩)) rfl rfl (by kernel_rfl) (by kernel_rfl) (by kernel_rfl) (by kernel_rfl) (fun _ _ _ h => h) (Or.inl ⟨by rfl, ?_⟩) hS3 ?_
                      · intro w' hSw; obtain ⟨s1, _⟩ := hSw; go_simp
                      simp only [Act.put, List.setIfInBounds_toArray, List.set_cons_zero, List.set_cons_succ]
                      have N3 := hN.below hB3 hN.lt
                      have n3 := (nres_of N3).2
                      have y3 := N3.frozen 1
                      refine Z.last_at (w' := wc.setCell ⟨w1.heap.size, 1, none⟩ (.slice xa cnt xc)) rfl (by kernel_rfl) (by rfl) (fun K hK => ?_) ?_
                      · go_simp
                        exact hK.out
                      refine Z.done (by kernel_rfl) ?_ _
                      have hB4 : Below w1.heap.size w1 (wc.setCell ⟨w1.heap.size, 1, none⟩ (.slice xa cnt xc)) := (hbel.trans (hB3.mono hbel.size)).setCell (Nat.le_refl _) _
                      have N4 := N3.set 1 (.slice xa cnt xc)
                      clear n3 y3 c1
                      go_wp2_with fail
                      go_roundg (l.length - (k + 1))
                      case rel => exact ⟨k + 1, _, Tr.insV L t, rfl, by go_num, by omega, unhide hn2, by rw [Tr.insV_length]; omega, N4, unhide (HR3 _), hB4⟩
                      case measure => have := hg.out; omega
                  · intro K hK
                    go_simp
                    exact hK.out
                  · exact ⟨(((Below.refl wr.heap.size wr).alloc (by simp) _).drew.cell (by exact hN.lt)).trans c1, ((Below.refl wr.heap.size wr).alloc (by simp) _).drew⟩
                  · simp only [Act.put, List.setIfInBounds_toArray, List.set_cons_zero, List.set_cons_succ]
                    refine Z.ready (rs := [0]) (by kernel_rfl) (by simp) (Z.val_cons (i := 0) (d := 62) (v := .slice (some ⟨wr.heap.size + 1, 0, none⟩) 0 0) (w' := ((wr.alloc (.cells #[.string t] 9)).alloc (.cells #[] 9)).drew) rfl (by rfl) ?_ (fun _ => ?_) ?_ Z.All.nil)
                    · intro K hK
                      go_simp
                      exact hK.out
                    · exact ⟨((((Below.refl wr.heap.size wr).alloc (by simp) _).alloc (by simp) _).drew.cell (by exact hN.lt)).trans c1, (((Below.refl wr.heap.size wr).alloc (by simp) _).alloc (by simp) _).drew⟩
                    · simp only [Act.put, List.setIfInBounds_toArray, List.set_cons_zero, List.set_cons_succ]
                      refine Z.ready (rs := [5]) (by kernel_rfl) (by simp) (Z.All.cons rfl (fun K hK => ?_) Z.All.nil)
                      have BLW : Below wr.heap.size wr (((wr.alloc (.cells #[.string t] 9)).alloc (.cells #[] 9)).drew) := (((Below.refl wr.heap.size wr).alloc (by simp) _).alloc (by simp) _).drew
                      refine Ap.step_append_row (((wr.alloc (.cells #[.string t] 9)).alloc (.cells #[] 9)).drew) rfl (.tmp 62) (.tmp 66) 24 rfl wr.heap.size 9 t0 (.string ByteArray.empty) 16 Try.underlying24 ht0 hy0 hy1 hy2 rfl (.slice (some ⟨wr.heap.size + 1, 0, none⟩) 0 0) 0 [] rfl (Ap.owns_empty (by omega) (Ap.heapKE _ _ _)) (w1.heap.size + 1) 9 (.slice (some ⟨g, 0, none⟩) L.length L.length) L.length ((L.map Value.string).take L.length) rfl (Tr.owns_first (Tr.owns_below (unhide HO) BLW) L.length hjL) (fun u hu => Tr.strs_plain L u (List.mem_of_mem_take hu)) (by unfold maxLen; omega) (by omega) BLW.size ?_
                      intro v1 wa ho1 hg1
                      have hB1 : Below wr.heap.size wr wa := Below.grown BLW hg1 BLW.size (by intro q hq; simp only [Value.ownBlock, Option.some.injEq] at hq; omega)
                      have hk1 : wa.cell? ⟨wr.heap.size, 0, none⟩ = some (.string t) := (World.grownBy.cell_far hg1 ⟨wr.heap.size, 0, none⟩ (by simp <;> omega) (Ap.ne_own wr.heap.size (wr.heap.size + 1) 0 0 (by omega))).trans (Ap.cellKE _ _ _)
                      refine hK.out _ _ (fun _ => ⟨(hB1.cell (by exact hN.lt)).trans c1, hB1⟩) ?_
                      clear hK K
                      simp only [Act.put, List.setIfInBounds_toArray, List.set_cons_zero, List.set_cons_succ]
                      have HO1 := ho1
                      have HB1 := hB1
                      refine Z.ready (rs := [8]) (by kernel_rfl) (by simp) (Z.All.cons rfl (fun K hK => ?_) Z.All.nil)
                      refine Ap.step_append_any (wa) rfl (.tmp 67) (.tmp 69) 24 rfl wr.heap.size 9 t0 (.string ByteArray.empty) 1 16 Try.underlying24 ht0 hy0 hy1 hy2 rfl (by decide) v1 (0 + L.length) _ rfl HO1 ⟨wr.heap.size, 0, none⟩ 1 1 [.string t] rfl rfl (Ap.one_of hk1) (by intro u hu; simp only [List.mem_cons, List.not_mem_nil, or_false] at hu; subst hu; rfl) (by unfold maxLen; omega) (by omega) HB1.size ?_
                      intro v2 wb ho2 hg2
                      have hB2 : Below wr.heap.size wr wb := Below.grown HB1 hg2 HB1.size (Tr.owns_base HO1)
                      refine hK.out _ _ (fun _ => ⟨(hB2.cell (by exact hN.lt)).trans c1, hB2⟩) ?_
                      clear hK K
                      simp only [Act.put, List.setIfInBounds_toArray, List.set_cons_zero, List.set_cons_succ]
                      refine Z.ready (rs := [13]) (by kernel_rfl) (by simp) (Z.All.cons rfl (fun K hK => ?_) Z.All.nil)
                      refine Ap.step_append_any wb rfl (.tmp 70) (.tmp 74) 24 rfl wr.heap.size 9 t0 (.string ByteArray.empty) 1 16 Try.underlying24 ht0 hy0 hy1 hy2 rfl (by decide) v2 ((0 + L.length) + 1) _ rfl ho2 ⟨g, 0, none⟩ 0 (0) [] rfl rfl (fun j u hu => by simp at hu) (fun u hu => by cases hu) (by unfold maxLen; omega) (by omega) hB2.size ?_
                      intro v3 wc ho3 hg3
                      have hB3 : Below wr.heap.size wr wc := Below.grown hB2 hg3 hB2.size (Tr.owns_base ho2)
                      have hS3 : (fun w' => w'.cell? ⟨w1.heap.size, 1, none⟩ = some (.slice (some ⟨g, 0, none⟩) L.length L.length) ∧ Below wr.heap.size wr w') wc := ⟨(hB3.cell (by exact hN.lt)).trans c1, hB3⟩
                      obtain ⟨xa, xc, hx3⟩ := Tr.owns_slice ho3
                      have HR3 := fun x => hide (Tr.names_in1 hah ho3 hN.lt (i := 1) (x := x))
                      generalize hcnt : ((0 + L.length) + 1 + 0) = cnt at hx3
                      clear hcnt
                      subst hx3
                      refine hK.out _ _ (fun _ => hS3) ?_
                      clear hK K
                      simp only [Act.put, List.setIfInBounds_toArray, List.set_cons_zero, List.set_cons_succ]
                      refine Z.take (i := 14) (d := 76) (v := .pointer (some ⟨w1.heap.size, 1, none⟩)) rfl rfl (by kernel_rfl) (by kernel_rfl) (by kernel_rfl) (by kernel_rfl) (fun _ _ _ h => h) (Or.inl ⟨by rfl, ?_⟩) hS3 ?_
                      · intro w' hSw; obtain ⟨s1, _⟩ := hSw; go_simp
                      simp only [Act.put, List.setIfInBounds_toArray, List.set_cons_zero, List.set_cons_succ]
                      have N3 := hN.below hB3 hN.lt
                      have n3 := (nres_of N3).2
                      have y3 := N3.frozen 1
                      refine Z.last_at (w' := wc.setCell ⟨w1.heap.size, 1, none⟩ (.slice xa cnt xc)) rfl (by kernel_rfl) (by rfl) (fun K hK => ?_) ?_
                      · go_simp
                        exact hK.out
                      refine Z.done (by kernel_rfl) ?_ _
                      have hB4 : Below w1.heap.size w1 (wc.setCell ⟨w1.heap.size, 1, none⟩ (.slice xa cnt xc)) := (hbel.trans (hB3.mono hbel.size)).setCell (Nat.le_refl _) _
                      have N4 := N3.set 1 (.slice xa cnt xc)
                      clear n3 y3 c1
                      go_wp2_with fail
                      go_roundg (l.length - (k + 1))
                      case rel => exact ⟨k + 1, _, Tr.insV L t, rfl, by go_num, by omega, unhide hn2, by rw [Tr.insV_length]; omega, N4, unhide (HR3 _), hB4⟩
                      case measure => have := hg.out; omega
                · go_wp2_with fail
                  refine Z.region 15 (fun w' => w'.cell? ⟨w1.heap.size, 1, none⟩ = some (.slice (some ⟨g, 0, none⟩) L.length cap) ∧ Below wr.heap.size wr w') (by kernel_rfl) ⟨c1, (Below.refl _ _).drew⟩ (fun hHeld => ?_)
                  refine Z.take (i := 1) (d := 63) (v := .pointer (some ⟨w1.heap.size, 1, none⟩)) rfl rfl (by kernel_rfl) (by kernel_rfl) (by kernel_rfl) (by kernel_rfl) (fun _ _ _ h => h) (Or.inl ⟨by rfl, ?_⟩) hHeld ?_
                  · intro w' hSw; obtain ⟨s1, _⟩ := hSw; go_simp
                  simp only [Act.put, List.setIfInBounds_toArray, List.set_cons_zero, List.set_cons_succ]
                  refine Z.take (i := 2) (d := 64) (v := .slice (some ⟨g, 0, none⟩) L.length cap) rfl rfl (by kernel_rfl) (by kernel_rfl) (by kernel_rfl) (by kernel_rfl) (fun _ _ _ h => h) (Or.inl ⟨by rfl, ?_⟩) hHeld ?_
                  · intro w' hSw; obtain ⟨s1, _⟩ := hSw; go_simp
                  simp only [Act.put, List.setIfInBounds_toArray, List.set_cons_zero, List.set_cons_succ]
                  refine Z.take (i := 3) (d := 65) (v := .int .i64 L.length) rfl rfl (by kernel_rfl) (by kernel_rfl) (by kernel_rfl) (by kernel_rfl) (fun _ _ _ h => h) (Or.inl ⟨by rfl, ?_⟩) hHeld ?_
                  · intro w' hSw; obtain ⟨s1, _⟩ := hSw; go_simp
                  simp only [Act.put, List.setIfInBounds_toArray, List.set_cons_zero, List.set_cons_succ]
                  refine Z.take (i := 4) (d := 66) (v := .slice (some ⟨g, 0, none⟩) L.length cap) rfl rfl (by kernel_rfl) (by kernel_rfl) (by kernel_rfl) (by kernel_rfl) (fun _ _ _ h => h) (Or.inl ⟨by rfl, ?_⟩) hHeld ?_
                  · intro w' hSw; obtain ⟨s1, _⟩ := hSw; go_simp
                  simp only [Act.put, List.setIfInBounds_toArray, List.set_cons_zero, List.set_cons_succ]
                  refine Z.take (i := 6) (d := 68) (v := .string t) rfl rfl (by kernel_rfl) (by kernel_rfl) (by kernel_rfl) (by kernel_rfl) (fun _ _ _ h => h) (Or.inl ⟨by rfl, ?_⟩) hHeld ?_
                  · intro w' hSw; obtain ⟨s1, _⟩ := hSw; go_simp
                  simp only [Act.put, List.setIfInBounds_toArray, List.set_cons_zero, List.set_cons_succ]
                  refine Z.take (i := 9) (d := 71) (v := .pointer (some ⟨w1.heap.size, 1, none⟩)) rfl rfl (by kernel_rfl) (by kernel_rfl) (by kernel_rfl) (by kernel_rfl) (fun _ _ _ h => h) (Or.inl ⟨by rfl, ?_⟩) hHeld ?_
                  · intro w' hSw; obtain ⟨s1, _⟩ := hSw; go_simp
                  simp only [Act.put, List.setIfInBounds_toArray, List.set_cons_zero, List.set_cons_succ]
                  refine Z.take (i := 10) (d := 72) (v := .slice (some ⟨g, 0, none⟩) L.length cap) rfl rfl (by kernel_rfl) (by kernel_rfl) (by kernel_rfl) (by kernel_rfl) (fun _ _ _ h => h) (Or.inl ⟨by rfl, ?_⟩) hHeld ?_
                  · intro w' hSw; obtain ⟨s1, _⟩ := hSw; go_simp
                  simp only [Act.put, List.setIfInBounds_toArray, List.set_cons_zero, List.set_cons_succ]
                  refine Z.take (i := 11) (d := 73) (v := .int .i64 L.length) rfl rfl (by kernel_rfl) (by kernel_rfl) (by kernel_rfl) (by kernel_rfl) (fun _ _ _ h => h) (Or.inl ⟨by rfl, ?_⟩) hHeld ?_
                  · intro w' hSw; obtain ⟨s1, _⟩ := hSw; go_simp
                  simp only [Act.put, List.setIfInBounds_toArray, List.set_cons_zero, List.set_cons_succ]
                  refine Z.take (i := 12) (d := 74) (v := .slice (some ⟨g, L.length, none⟩) 0 (cap - L.length)) rfl rfl (by kernel_rfl) (by kernel_rfl) (by kernel_rfl) (by kernel_rfl) (fun _ _ _ h => h) (Or.inl ⟨by rfl, ?_⟩) hHeld ?_
                  · intro w' hSw; obtain ⟨s1, _⟩ := hSw; go_simp
                  simp only [Act.put, List.setIfInBounds_toArray, List.set_cons_zero, List.set_cons_succ]
                  refine Z.ready (rs := [0, 7]) (by kernel_rfl) (by simp) (Z.val_cons (i := 0) (d := 62) (v := .slice (some ⟨wr.heap.size, 0, none⟩) 0 0) (w' := (wr.alloc (.cells #[] 9)).drew) rfl (by rfl) ?_ (fun _ => ?_) ?_ (Z.val_cons (i := 7) (d := 69) (v := .slice (some ⟨wr.heap.size, 0, none⟩) 1 1) (w' := (wr.alloc (.cells #[.string t] 9)).drew) rfl (by rfl) ?_ (fun _ => ?_) ?_ Z.All.nil))
                  · intro K hK
                    go_simp
                    exact hK.out
                  · exact ⟨(((Below.refl wr.heap.size wr).alloc (by simp) _).drew.cell (by exact hN.lt)).trans c1, ((Below.refl wr.heap.size wr).alloc (by simp) _).drew⟩
                  · simp only [Act.put, List.setIfInBounds_toArray, List.set_cons_zero, List.set_cons_succ]
                    refine Z.ready (rs := [5, 7]) (by kernel_rfl) (by simp) (Z.All.cons rfl (fun K hK => ?_) (Z.val_cons (i := 7) (d := 69) (v := .slice (some ⟨wr.heap.size + 1, 0, none⟩) 1 1) (w' := ((wr.alloc (.cells #[] 9)).alloc (.cells #[.string t] 9)).drew) rfl (by rfl) ?_ (fun _ => ?_) ?_ Z.All.nil))
                    · skip
                      have BLW : Below wr.heap.size wr ((wr.alloc (.cells #[] 9)).drew) := ((Below.refl wr.heap.size wr).alloc (by simp) _).drew
                      refine Ap.step_append_row ((wr.alloc (.cells #[] 9)).drew) rfl (.tmp 62) (.tmp 66) 24 rfl wr.heap.size 9 t0 (.string ByteArray.empty) 16 Try.underlying24 ht0 hy0 hy1 hy2 rfl (.slice (some ⟨wr.heap.size, 0, none⟩) 0 0) 0 [] rfl (Ap.owns_empty (by omega) (Ap.heapE _ _)) (w1.heap.size + 1) 9 (.slice (some ⟨g, 0, none⟩) L.length cap) L.length ((L.map Value.string).take L.length) rfl (Tr.owns_first (Tr.owns_below (unhide HO) BLW) L.length hjL) (fun u hu => Tr.strs_plain L u (List.mem_of_mem_take hu)) (by unfold maxLen; omega) (by omega) BLW.size ?_
                      intro v1 wa ho1 hg1
                      have hB1 : Below wr.heap.size wr wa := Below.grown BLW hg1 BLW.size (by intro q hq; simp only [Value.ownBlock, Option.some.injEq] at hq; omega)
                      refine hK.out _ _ (fun _ => ⟨(hB1.cell (by exact hN.lt)).trans c1, hB1⟩) ?_
                      clear hK K
                      simp only [Act.put, List.setIfInBounds_toArray, List.set_cons_zero, List.set_cons_succ]
                      refine Z.ready (rs := [7]) (by kernel_rfl) (by simp) (Z.val_cons (i := 7) (d := 69) (v := .slice (some ⟨wa.heap.size, 0, none⟩) 1 1) (w' := wa.alloc (.cells #[.string t] 9)) rfl (by rfl) ?_ (fun _ => ?_) ?_ Z.All.nil)
                      · intro K hK
                        go_simp
                        exact hK.out
                      · exact ⟨((hB1.alloc hB1.size _).cell (by exact hN.lt)).trans c1, hB1.alloc hB1.size _⟩
                      · simp only [Act.put, List.setIfInBounds_toArray, List.set_cons_zero, List.set_cons_succ]
                        have HO1 := ho1.alloc (.cells #[.string t] 9)
                        have HB1 := hB1.alloc hB1.size (.cells #[.string t] 9)
                        refine Z.ready (rs := [8]) (by kernel_rfl) (by simp) (Z.All.cons rfl (fun K hK => ?_) Z.All.nil)
                        refine Ap.step_append_any (wa.alloc (.cells #[.string t] 9)) rfl (.tmp 67) (.tmp 69) 24 rfl wr.heap.size 9 t0 (.string ByteArray.empty) 1 16 Try.underlying24 ht0 hy0 hy1 hy2 rfl (by decide) v1 (0 + L.length) _ rfl HO1 ⟨wa.heap.size, 0, none⟩ 1 1 [.string t] rfl rfl (Ap.one_of (World.cell?_alloc_mark wa #[.string t] 9 (0, 0) 0)) (by intro u hu; simp only [List.mem_cons, List.not_mem_nil, or_false] at hu; subst hu; rfl) (by unfold maxLen; omega) (by omega) HB1.size ?_
                        intro v2 wb ho2 hg2
                        have hB2 : Below wr.heap.size wr wb := Below.grown HB1 hg2 HB1.size (Tr.owns_base HO1)
                        refine hK.out _ _ (fun _ => ⟨(hB2.cell (by exact hN.lt)).trans c1, hB2⟩) ?_
                        clear hK K
                        simp only [Act.put, List.setIfInBounds_toArray, List.set_cons_zero, List.set_cons_succ]
                        refine Z.ready (rs := [13]) (by kernel_rfl) (by simp) (Z.All.cons rfl (fun K hK => ?_) Z.All.nil)
                        refine Ap.step_append_any wb rfl (.tmp 70) (.tmp 74) 24 rfl wr.heap.size 9 t0 (.string ByteArray.empty) 1 16 Try.underlying24 ht0 hy0 hy1 hy2 rfl (by decide) v2 ((0 + L.length) + 1) _ rfl ho2 ⟨g, L.length, none⟩ 0 (cap - L.length) [] rfl rfl (fun j u hu => by simp at hu) (fun u hu => by cases hu) (by unfold maxLen; omega) (by omega) hB2.size ?_
                        intro v3 wc ho3 hg3
                        have hB3 : Below wr.heap.size wr wc := Below.grown hB2 hg3 hB2.size (Tr.owns_base ho2)
                        have hS3 : (fun w' => w'.cell? ⟨w1.heap.size, 1, none⟩ = some (.slice (some ⟨g, 0, none⟩) L.length cap) ∧ Below wr.heap.size wr w') wc := ⟨(hB3.cell (by exact hN.lt)).trans c1, hB3⟩
                        obtain ⟨xa, xc, hx3⟩ := Tr.owns_slice ho3
                        have HR3 := fun x => hide (Tr.names_in1 hah ho3 hN.lt (i := 1) (x := x))
                        generalize hcnt : ((0 + L.length) + 1 + 0) = cnt at hx3
                        clear hcnt
                        subst hx3
                        refine hK.out _ _ (fun _ => hS3) ?_
                        clear hK K
                        simp only [Act.put, List.setIfInBounds_toArray, List.set_cons_zero, List.set_cons_succ]
                        refine Z.take (i := 14) (d := 76) (v := .pointer (some ⟨w1.heap.size, 1, none⟩)) rfl rfl (by kernel_rfl) (by kernel_rfl) (by kernel_rfl) (by kernel_rfl) (fun _ _ _ h => h) (Or.inl ⟨by rfl, ?_⟩) hS3 ?_
                        · intro w' hSw; obtain ⟨s1, _⟩ := hSw; go_simp
                        simp only [Act.put, List.setIfInBounds_toArray, List.set_cons_zero, List.set_cons_succ]
                        have N3 := hN.below hB3 hN.lt
                        have n3 := (nres_of N3).2
                        have y3 := N3.frozen 1
                        refine Z.last_at (w' := wc.setCell ⟨w1.heap.size, 1, none⟩ (.slice xa cnt xc)) rfl (by kernel_rfl) (by rfl) (fun K hK => ?_) ?_
                        · go_simp
                          exact hK.out
                        refine Z.done (by kernel_rfl) ?_ _
                        have hB4 : Below w1.heap.size w1 (wc.setCell ⟨w1.heap.size, 1, none⟩ (.slice xa cnt xc)) := (hbel.trans (hB3.mono hbel.size)).setCell (Nat.le_refl _) _
                        have N4 := N3.set 1 (.slice xa cnt xc)
                        clear n3 y3 c1
                        go_wp2_with fail
                        go_roundg (l.length - (k + 1))
                        case rel => exact ⟨k + 1, _, Tr.insV L t, rfl, by go_num, by omega, unhide hn2, by rw [Tr.insV_length]; omega, N4, unhide (HR3 _), hB4⟩
                        case measure => have := hg.out; omega
                    · intro K hK
                      go_simp
                      exact hK.out
                    · exact ⟨((((Below.refl wr.heap.size wr).alloc (by simp) _).alloc (by simp) _).drew.cell (by exact hN.lt)).trans c1, (((Below.refl wr.heap.size wr).alloc (by simp) _).alloc (by simp) _).drew⟩
                    · simp only [Act.put, List.setIfInBounds_toArray, List.set_cons_zero, List.set_cons_succ]
                      refine Z.ready (rs := [5]) (by kernel_rfl) (by simp) (Z.All.cons rfl (fun K hK => ?_) Z.All.nil)
                      have BLW : Below wr.heap.size wr (((wr.alloc (.cells #[] 9)).alloc (.cells #[.string t] 9)).drew) := (((Below.refl wr.heap.size wr).alloc (by simp) _).alloc (by simp) _).drew
                      refine Ap.step_append_row (((wr.alloc (.cells #[] 9)).alloc (.cells #[.string t] 9)).drew) rfl (.tmp 62) (.tmp 66) 24 rfl wr.heap.size 9 t0 (.string ByteArray.empty) 16 Try.underlying24 ht0 hy0 hy1 hy2 rfl (.slice (some ⟨wr.heap.size, 0, none⟩) 0 0) 0 [] rfl (Ap.owns_empty (by omega) (Ap.heapEK _ _ _)) (w1.heap.size + 1) 9 (.slice (some ⟨g, 0, none⟩) L.length cap) L.length ((L.map Value.string).take L.length) rfl (Tr.owns_first (Tr.owns_below (unhide HO) BLW) L.length hjL) (fun u hu => Tr.strs_plain L u (List.mem_of_mem_take hu)) (by unfold maxLen; omega) (by omega) BLW.size ?_
                      intro v1 wa ho1 hg1
                      have hB1 : Below wr.heap.size wr wa := Below.grown BLW hg1 BLW.size (by intro q hq; simp only [Value.ownBlock, Option.some.injEq] at hq; omega)
                      have hk1 : wa.cell? ⟨wr.heap.size + 1, 0, none⟩ = some (.string t) := (World.grownBy.cell_far hg1 ⟨wr.heap.size + 1, 0, none⟩ (by simp) (Ap.ne_own (wr.heap.size + 1) wr.heap.size 0 0 (by omega))).trans (Ap.cellEK _ _ _)
                      refine hK.out _ _ (fun _ => ⟨(hB1.cell (by exact hN.lt)).trans c1, hB1⟩) ?_
                      clear hK K
                      simp only [Act.put, List.setIfInBounds_toArray, List.set_cons_zero, List.set_cons_succ]
                      have HO1 := ho1
                      have HB1 := hB1
                      refine Z.ready (rs := [8]) (by kernel_rfl) (by simp) (Z.All.cons rfl (fun K hK => ?_) Z.All.nil)
                      refine Ap.step_append_any (wa) rfl (.tmp 67) (.tmp 69) 24 rfl wr.heap.size 9 t0 (.string ByteArray.empty) 1 16 Try.underlying24 ht0 hy0 hy1 hy2 rfl (by decide) v1 (0 + L.length) _ rfl HO1 ⟨wr.heap.size + 1, 0, none⟩ 1 1 [.string t] rfl rfl (Ap.one_of hk1) (by intro u hu; simp only [List.mem_cons, List.not_mem_nil, or_false] at hu; subst hu; rfl) (by unfold maxLen; omega) (by omega) HB1.size ?_
                      intro v2 wb ho2 hg2
                      have hB2 : Below wr.heap.size wr wb := Below.grown HB1 hg2 HB1.size (Tr.owns_base HO1)
                      refine hK.out _ _ (fun _ => ⟨(hB2.cell (by exact hN.lt)).trans c1, hB2⟩) ?_
                      clear hK K
                      simp only [Act.put, List.setIfInBounds_toArray, List.set_cons_zero, List.set_cons_succ]
                      refine Z.ready (rs := [13]) (by kernel_rfl) (by simp) (Z.All.cons rfl (fun K hK => ?_) Z.All.nil)
                      refine Ap.step_append_any wb rfl (.tmp 70) (.tmp 74) 24 rfl wr.heap.size 9 t0 (.string ByteArray.empty) 1 16 Try.underlying24 ht0 hy0 hy1 hy2 rfl (by decide) v2 ((0 + L.length) + 1) _ rfl ho2 ⟨g, L.length, none⟩ 0 (cap - L.length) [] rfl rfl (fun j u hu => by simp at hu) (fun u hu => by cases hu) (by unfold maxLen; omega) (by omega) hB2.size ?_
                      intro v3 wc ho3 hg3
                      have hB3 : Below wr.heap.size wr wc := Below.grown hB2 hg3 hB2.size (Tr.owns_base ho2)
                      have hS3 : (fun w' => w'.cell? ⟨w1.heap.size, 1, none⟩ = some (.slice (some ⟨g, 0, none⟩) L.length cap) ∧ Below wr.heap.size wr w') wc := ⟨(hB3.cell (by exact hN.lt)).trans c1, hB3⟩
                      obtain ⟨xa, xc, hx3⟩ := Tr.owns_slice ho3
                      have HR3 := fun x => hide (Tr.names_in1 hah ho3 hN.lt (i := 1) (x := x))
                      generalize hcnt : ((0 + L.length) + 1 + 0) = cnt at hx3
                      clear hcnt
                      subst hx3
                      refine hK.out _ _ (fun _ => hS3) ?_
                      clear hK K
                      simp only [Act.put, List.setIfInBounds_toArray, List.set_cons_zero, List.set_cons_succ]
                      refine Z.take (i := 14) (d := 76) (v := .pointer (some ⟨w1.heap.size, 1, none⟩)) rfl rfl (by kernel_rfl) (by kernel_rfl) (by kernel_rfl) (by kernel_rfl) (fun _ _ _ h => h) (Or.inl ⟨by rfl, ?_⟩) hS3 ?_
                      · intro w' hSw; obtain ⟨s1, _⟩ := hSw; go_simp
                      simp only [Act.put, List.setIfInBounds_toArray, List.set_cons_zero, List.set_cons_succ]
                      have N3 := hN.below hB3 hN.lt
                      have n3 := (nres_of N3).2
                      have y3 := N3.frozen 1
                      refine Z.last_at (w' := wc.setCell ⟨w1.heap.size, 1, none⟩ (.slice xa cnt xc)) rfl (by kernel_rfl) (by rfl) (fun K hK => ?_) ?_
                      · go_simp
                        exact hK.out
                      refine Z.done (by kernel_rfl) ?_ _
                      have hB4 : Below w1.heap.size w1 (wc.setCell ⟨w1.heap.size, 1, none⟩ (.slice xa cnt xc)) := (hbel.trans (hB3.mono hbel.size)).setCell (Nat.le_refl _) _
                      have N4 := N3.set 1 (.slice xa cnt xc)
                      clear n3 y3 c1
                      go_wp2_with fail
                      go_roundg (l.length - (k + 1))
                      case rel => exact ⟨k + 1, _, Tr.insV L t, rfl, by go_num, by omega, unhide hn2, by rw [Tr.insV_length]; omega, N4, unhide (HR3 _), hB4⟩
                      case measure => have := hg.out; omega
                  · intro K hK
                    go_simp
                    exact hK.out
                  · exact ⟨(((Below.refl wr.heap.size wr).alloc (by simp) _).drew.cell (by exact hN.lt)).trans c1, ((Below.refl wr.heap.size wr).alloc (by simp) _).drew⟩
                  · simp only [Act.put, List.setIfInBounds_toArray, List.set_cons_zero, List.set_cons_succ]
                    refine Z.ready (rs := [0]) (by kernel_rfl) (by simp) (Z.val_cons (i := 0) (d := 62) (v := .slice (some ⟨wr.heap.size + 1, 0, none⟩) 0 0) (w' := ((wr.alloc (.cells #[.string t] 9)).alloc (.cells #[] 9)).drew) rfl (by rfl) ?_ (fun _ => ?_) ?_ Z.All.nil)
                    · intro K hK
                      go_simp
                      exact hK.out
                    · exact ⟨((((Below.refl wr.heap.size wr).alloc (by simp) _).alloc (by simp) _).drew.cell (by exact hN.lt)).trans c1, (((Below.refl wr.heap.size wr).alloc (by simp) _).alloc (by simp) _).drew⟩
                    · simp only [Act.put, List.setIfInBounds_toArray, List.set_cons_zero, List.set_cons_succ]
                      refine Z.ready (rs := [5]) (by kernel_rfl) (by simp) (Z.All.cons rfl (fun K hK => ?_) Z.All.nil)
                      have BLW : Below wr.heap.size wr (((wr.alloc (.cells #[.string t] 9)).alloc (.cells #[] 9)).drew) := (((Below.refl wr.heap.size wr).alloc (by simp) _).alloc (by simp) _).drew
                      refine Ap.step_append_row (((wr.alloc (.cells #[.string t] 9)).alloc (.cells #[] 9)).drew) rfl (.tmp 62) (.tmp 66) 24 rfl wr.heap.size 9 t0 (.string ByteArray.empty) 16 Try.underlying24 ht0 hy0 hy1 hy2 rfl (.slice (some ⟨wr.heap.size + 1, 0, none⟩) 0 0) 0 [] rfl (Ap.owns_empty (by omega) (Ap.heapKE _ _ _)) (w1.heap.size + 1) 9 (.slice (some ⟨g, 0, none⟩) L.length cap) L.length ((L.map Value.string).take L.length) rfl (Tr.owns_first (Tr.owns_below (unhide HO) BLW) L.length hjL) (fun u hu => Tr.strs_plain L u (List.mem_of_mem_take hu)) (by unfold maxLen; omega) (by omega) BLW.size ?_
                      intro v1 wa ho1 hg1
                      have hB1 : Below wr.heap.size wr wa := Below.grown BLW hg1 BLW.size (by intro q hq; simp only [Value.ownBlock, Option.some.injEq] at hq; omega)
                      have hk1 : wa.cell? ⟨wr.heap.size, 0, none⟩ = some (.string t) := (World.grownBy.cell_far hg1 ⟨wr.heap.size, 0, none⟩ (by simp <;> omega) (Ap.ne_own wr.heap.size (wr.heap.size + 1) 0 0 (by omega))).trans (Ap.cellKE _ _ _)
                      refine hK.out _ _ (fun _ => ⟨(hB1.cell (by exact hN.lt)).trans c1, hB1⟩) ?_
                      clear hK K
                      simp only [Act.put, List.setIfInBounds_toArray, List.set_cons_zero, List.set_cons_succ]
                      have HO1 := ho1
                      have HB1 := hB1
                      refine Z.ready (rs := [8]) (by kernel_rfl) (by simp) (Z.All.cons rfl (fun K hK => ?_) Z.All.nil)
                      refine Ap.step_append_any (wa) rfl (.tmp 67) (.tmp 69) 24 rfl wr.heap.size 9 t0 (.string ByteArray.empty) 1 16 Try.underlying24 ht0 hy0 hy1 hy2 rfl (by decide) v1 (0 + L.length) _ rfl HO1 ⟨wr.heap.size, 0, none⟩ 1 1 [.string t] rfl rfl (Ap.one_of hk1) (by intro u hu; simp only [List.mem_cons, List.not_mem_nil, or_false] at hu; subst hu; rfl) (by unfold maxLen; omega) (by omega) HB1.size ?_
                      intro v2 wb ho2 hg2
                      have hB2 : Below wr.heap.size wr wb := Below.grown HB1 hg2 HB1.size (Tr.owns_base HO1)
                      refine hK.out _ _ (fun _ => ⟨(hB2.cell (by exact hN.lt)).trans c1, hB2⟩) ?_
                      clear hK K
                      simp only [Act.put, List.setIfInBounds_toArray, List.set_cons_zero, List.set_cons_succ]
                      refine Z.ready (rs := [13]) (by kernel_rfl) (by simp) (Z.All.cons rfl (fun K hK => ?_) Z.All.nil)
                      refine Ap.step_append_any wb rfl (.tmp 70) (.tmp 74) 24 rfl wr.heap.size 9 t0 (.string ByteArray.empty) 1 16 Try.underlying24 ht0 hy0 hy1 hy2 rfl (by decide) v2 ((0 + L.length) + 1) _ rfl ho2 ⟨g, L.length, none⟩ 0 (cap - L.length) [] rfl rfl (fun j u hu => by simp at hu) (fun u hu => by cases hu) (by unfold maxLen; omega) (by omega) hB2.size ?_
                      intro v3 wc ho3 hg3
                      have hB3 : Below wr.heap.size wr wc := Below.grown hB2 hg3 hB2.size (Tr.owns_base ho2)
                      have hS3 : (fun w' => w'.cell? ⟨w1.heap.size, 1, none⟩ = some (.slice (some ⟨g, 0, none⟩) L.length cap) ∧ Below wr.heap.size wr w') wc := ⟨(hB3.cell (by exact hN.lt)).trans c1, hB3⟩
                      obtain ⟨xa, xc, hx3⟩ := Tr.owns_slice ho3
                      have HR3 := fun x => hide (Tr.names_in1 hah ho3 hN.lt (i := 1) (x := x))
                      generalize hcnt : ((0 + L.length) + 1 + 0) = cnt at hx3
                      clear hcnt
                      subst hx3
                      refine hK.out _ _ (fun _ => hS3) ?_
                      clear hK K
                      simp only [Act.put, List.setIfInBounds_toArray, List.set_cons_zero, List.set_cons_succ]
                      refine Z.take (i := 14) (d := 76) (v := .pointer (some ⟨w1.heap.size, 1, none⟩)) rfl rfl (by kernel_rfl) (by kernel_rfl) (by kernel_rfl) (by kernel_rfl) (fun _ _ _ h => h) (Or.inl ⟨by rfl, ?_⟩) hS3 ?_
                      · intro w' hSw; obtain ⟨s1, _⟩ := hSw; go_simp
                      simp only [Act.put, List.setIfInBounds_toArray, List.set_cons_zero, List.set_cons_succ]
                      have N3 := hN.below hB3 hN.lt
                      have n3 := (nres_of N3).2
                      have y3 := N3.frozen 1
                      refine Z.last_at (w' := wc.setCell ⟨w1.heap.size, 1, none⟩ (.slice xa cnt xc)) rfl (by kernel_rfl) (by rfl) (fun K hK => ?_) ?_
                      · go_simp
                        exact hK.out
                      refine Z.done (by kernel_rfl) ?_ _
                      have hB4 : Below w1.heap.size w1 (wc.setCell ⟨w1.heap.size, 1, none⟩ (.slice xa cnt xc)) := (hbel.trans (hB3.mono hbel.size)).setCell (Nat.le_refl _) _
                      have N4 := N3.set 1 (.slice xa cnt xc)
                      clear n3 y3 c1
                      go_wp2_with fail
                      go_roundg (l.length - (k + 1))
                      case rel => exact ⟨k + 1, _, Tr.insV L t, rfl, by go_num, by omega, unhide hn2, by rw [Tr.insV_length]; omega, N4, unhide (HR3 _), hB4⟩
                      case measure => have := hg.out; omega
    · have hke : k = l.length := by omega
      have HROW0 := hide (show wr.ownsRow (w1.heap.size + 1) 9 1 (.slice va L.length vc) (Tr.varsK l l.length).length ((Tr.varsK l l.length).map Value.string) by rw [← hke, ← hL.out]; exact unhide HO)
      obtain ⟨e0, e1⟩ := nres_of hN
      have OX := O1.below hbel O1.lt
      subst hke
      clear O1 hN
      obtain ⟨c0, c1⟩ := nres_of OX
      have z0 := OX.frozen 0
      have z1 := OX.frozen 1
      have O2 := hide ((OX.set 0 (.int .i64 0)).set 1 (.slice va L.length vc))
      clear OX
      go_wp2_with fail
      obtain ⟨q0, q1⟩ := nres_of (x := 0) (v := .slice va L.length vc) (unhide O2)
      clear c0 c1 z0 z1 O2
      have B2 : Below w.heap.size w ((wr.setCell ⟨w.heap.size, 0, none⟩ (.int .i64 0)).setCell ⟨w.heap.size, 1, none⟩ (.slice va L.length vc)) := (BW.setCell (Nat.le_refl _) _).setCell (Nat.le_refl _) _
      have HROW : ((wr.setCell ⟨w.heap.size, 0, none⟩ (.int .i64 0)).setCell ⟨w.heap.size, 1, none⟩ (.slice va L.length vc)).ownsRow (w.heap.size + 1) 9 1 (.slice va L.length vc) (Tr.varsK l l.length).length ((Tr.varsK l l.length).map Value.string) := Tr.owns_set2 (unhide HROW0) hlt1
      generalize (wr.setCell ⟨w.heap.size, 0, none⟩ (.int .i64 0)).setCell ⟨w.heap.size, 1, none⟩ (.slice va L.length vc) = WW at *
      refine bodyPost_ret (v := .agg #[.int .i64 0, .slice va L.length vc]) (by simp [results, Try.results10, go_sem, q0, q1]; try rfl) rfl ⟨_, by rw [unhide fin], by rw [unhide fin]; exact HROW, B2⟩

end Go.Proofs.Ytokcefcjkjhnbaa
