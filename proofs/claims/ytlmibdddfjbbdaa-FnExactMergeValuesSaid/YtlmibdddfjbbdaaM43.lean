/-
  spec.l1Object of texts and lists that lie anywhere.
-/
import Derived.Test.YtlmibdddfjbbdaaM24
import Derived.Test.YtlmibdddfjbbdaaM25
import Derived.Test.YtlmibdddfjbbdaaM27
import Derived.BigRegion
import Derived.Deep.DeepCutAuto
import Derived.Deep.Slices
import Derived.RegionTactic
namespace Go.Proofs.Ytlmibdddfjbbdaa
open Go.RowKit Go.WideShapes
set_option linter.unusedVariables false
set_option linter.unusedSimpArgs false

/-- What the loops of l1Object hold: two rows of the call's own, each in a block of its own. -/
structure Two (w wr : World) (ks : List ByteArray) (lv : Nat → Value) (L : List Nat) (s5 s6 : Value) (nb nc vb vc : Nat) : Prop where
  e5 : s5 = .slice (some ⟨nb, 0, none⟩) L.length nc
  e6 : s6 = .slice (some ⟨vb, 0, none⟩) L.length vc
  n : wr.ownsRow w.heap.size 9 1 (.slice (some ⟨nb, 0, none⟩) L.length nc) L.length (namesV ks L)
  v : wr.ownsRow w.heap.size 24 1 (.slice (some ⟨vb, 0, none⟩) L.length vc) L.length (valsV lv L)
  ne : nb ≠ vb
  b : Below w.heap.size w wr

theorem Two.drewN {w wr : World} {ks : List ByteArray} {lv : Nat → Value} {L : List Nat} {s5 s6 : Value} {nb nc vb vc : Nat} (h : Two w wr ks lv L s5 s6 nb nc vb vc) (q : Nat) : Two w (wr.drewN q) ks lv L s5 s6 nb nc vb vc :=
  ⟨h.e5, h.e6, h.n, h.v, h.ne, below_drewN h.b q⟩

set_option maxRecDepth 100000 in
set_option maxHeartbeats 40000000 in
theorem l1ObjectW_any (kg gl kc lc : Nat) (ks : List ByteArray) (ps : List (List M.Cl)) (w : World) (hklt : kg < w.heap.size) (hglt : gl < w.heap.size) (hkc : ks.length ≤ kc) (hlc : ps.length ≤ lc) (hK : ∀ i, i < ks.length → w.cell? ⟨kg, i, none⟩ = some (.string (ks.getD i ByteArray.empty))) (hL : ∀ i, i < ps.length → ∃ t : Nat × Nat × Nat, w.cell? ⟨gl, i, none⟩ = some (.slice (some ⟨t.1, t.2.1, none⟩) (ps.getD i []).length t.2.2) ∧ t.1 < w.heap.size ∧ Row w t.1 t.2.1 (ps.getD i [])) (hlen : ks.length = ps.length) (hn : ks.length ≤ 4096) (hv : ∀ j, j < ps.length → 1 ≤ (ps.getD j []).length) (ht : tot ps ps.length ≤ 1048570) :
    Calls Try.prog 31 #[.slice (some ⟨kg, 0, none⟩) ks.length kc, .slice (some ⟨gl, 0, none⟩) ps.length lc] w fun e w' => ∃ s, e = .returned s ∧ Res w' w.heap.size s (objV ks ps) ∧ Below w.heap.size w w' := by
  have hle1 : ks.length ≤ ps.length := by omega
  have hle2 : ps.length ≤ ks.length := by omega
  haveI : Inhabited Nat := ⟨0⟩
  obtain ⟨β, δ, γ, hβ⟩ : ∃ β δ γ : Nat → Nat, ∀ i, i < ps.length → w.cell? ⟨gl, i, none⟩ = some (.slice (some ⟨β i, δ i, none⟩) (ps.getD i []).length (γ i)) ∧ β i < w.heap.size ∧ Row w (β i) (δ i) (ps.getD i []) := by
    obtain ⟨σ, hσ⟩ := Go.Deep.choose_lt (n := ps.length) hL
    exact ⟨fun i => (σ i).1, fun i => (σ i).2.1, fun i => (σ i).2.2, hσ⟩
  obtain ⟨lv, hlv⟩ : ∃ lv : Nat → Value, lv = fun p => .slice (some ⟨β p, δ p, none⟩) (ps.getD p []).length (γ p) := ⟨_, rfl⟩
  have HLV := hide hlv
  have HB := hide hβ
  have HK := hide hK
  have HV := hide hv
  clear hK hL hv hlen hβ hlv
  obtain ⟨i1, hi1, hy0, hy1, hy2⟩ := info_parts Try.info9
  obtain ⟨i2, hi2, hw0, hw1, hw2⟩ := info_parts Try.info24
  go_enter Try.func31, Try.ntmps31
  go_wp2_with fail
  go_loopg [5, 6, 7] ks.length (fun gh s5 s6 s7 wr => ∃ (i nb nc vb vc : Nat), Hid (gh = ks.length - i) ∧ s7 = .int .i64 i ∧ i ≤ ks.length ∧ Two w wr ks lv (St.stand ks i) s5 s6 nb nc vb vc)
  case atStart =>
    refine ⟨0, w.heap.size, 0, w.heap.size + 1, 0, rfl, rfl, by omega, rfl, rfl, owns_empty (Nat.le_refl _) ?_, owns_empty (by omega) ?_, by omega, ?_⟩
    · exact heapEE1 _ _ _
    · exact heapEE2 _ _ _
    · exact ((Below.refl _ _).alloc (Nat.le_refl _) _).alloc (by simp) _
  case round =>
    obtain ⟨i, nb, nc, vb, vc, hg, rfl, hi, T⟩ := hrel
    have e5 := T.e5
    have e6 := T.e6
    subst e5 e6
    have hsl := St.stand_length ks i
    have hsuc : St.stand ks (i + 1) = St.insP ks (St.stand ks i) i := rfl
    have HSUC := hide hsuc
    clear hsuc
    by_cases hlt : i < ks.length
    · generalize St.stand ks i = L at *
      go_wp2_with fail
      go_loopg [8] L.length (fun gh s8 wr2 => ∃ k : Nat, Hid (gh = L.length - k) ∧ s8 = .int .i64 k ∧ k ≤ L.length ∧ Hid (∀ j, j < k → St.R ks (L.getD j 0) i) ∧ Two w wr2 ks lv L (.slice (some ⟨nb, 0, none⟩) L.length nc) (.slice (some ⟨vb, 0, none⟩) L.length vc) nb nc vb vc)
      case atStart => exact ⟨0, rfl, rfl, by omega, fun j hj => by omega, T⟩
      case round =>
        clear T
        obtain ⟨k, hg2, rfl, hk, hR, T2⟩ := hrel
        obtain ⟨ha1, ha2, ha3, ha4⟩ := owns_at T2.n
        have fk := fun q => show (wr.drewN q).cell? ⟨kg, i, none⟩ = some (.string (ks.getD i ByteArray.empty)) from (T2.b.cell (p := ⟨kg, i, none⟩) hklt).trans ((unhide HK) i hlt)
        have hiz : (i : Int) < (ks.length : Int) := by omega
        by_cases hkl : k < L.length
        · have hkz : (k : Int) < (L.length : Int) := by omega
          have hkd : decide ((k : Int) < (L.length : Int)) = true := decide_eq_true hkz
          have fn := fun q => show (wr.drewN q).cell? ⟨nb, k, none⟩ = some (.string (ks.getD (L.getD k 0) ByteArray.empty)) from (owns_cell T2.n hkl).1.trans (namesV_get ks L k hkl)
          have hlt2 : St.R ks (L.getD k 0) i = (Op.bytesLess (ks.getD (L.getD k 0) ByteArray.empty).toList (ks.getD i ByteArray.empty).toList = true) := rfl
          have heq2 : (St.kl ks (L.getD k 0) = St.kl ks i) = ((ks.getD (L.getD k 0) ByteArray.empty).toList = (ks.getD i ByteArray.empty).toList) := rfl
          have HLT := hide hlt2
          have HEQ := hide heq2
          clear hlt2 heq2
          obtain ⟨x, hx⟩ : ∃ x, x = ks.getD (L.getD k 0) ByteArray.empty := ⟨_, rfl⟩
          obtain ⟨y, hy⟩ : ∃ y, y = ks.getD i ByteArray.empty := ⟨_, rfl⟩
          rw [← hx, ← hy] at HLT HEQ
          rw [← hx] at fn
          rw [← hy] at fk
          have HY := hide hy
          clear hx hy
          cases hv : Op.bytesLess x.toList y.toList with
          | true =>
            have hR2 := hide (show ∀ j, j < k + 1 → St.R ks (L.getD j 0) i from fun j hj => by
              by_cases e : j = k
              · rw [e, unhide HLT]; exact hv
              · exact hR.out j (by omega))
            go_wp2_with fail
            go_quiet (fail)
            have T3 := T2.drewN nq
            clear fk fn T2
            go_wp2_with fail
            go_roundg (L.length - (k + 1))
            case rel => exact ⟨k + 1, rfl, by go_num, by omega, unhide hR2, T3⟩
            case measure => have := hg2.out; omega
          | false =>
            have hnR := hide (show ¬ St.R ks (L.getD k 0) i by rw [unhide HLT, hv]; simp)
            cases he : (x.toList == y.toList) with
            | true =>
              have hel : St.kl ks (L.getD k 0) = St.kl ks i := by rw [unhide HEQ]; simpa using he
              have hins := hide ((unhide HSUC).trans (insP_eq ks L i k hkl hR.out hel))
              have HNS := hide (namesV_set ks L k i hkl hel)
              clear hel
              go_wp2_with fail
              go_quiet (fail)
              replace fk := fun q => show ((wr.drewN nq).drewN q).cell? ⟨kg, i, none⟩ = some (.string y) from fk 0
              replace fn := fun q => show ((wr.drewN nq).drewN q).cell? ⟨nb, k, none⟩ = some (.string x) from fn 0
              replace T2 := T2.drewN nq
              generalize wr.drewN nq = wr at *
              go_wp2_with fail
              go_quiet (fail)
              replace T2 := T2.drewN nq
              clear fn fk
              generalize wr.drewN nq = wr at *
              have g0 := (T2.b.cell (p := ⟨gl, i, none⟩) hglt).trans ((unhide HB) i (by omega)).1
              have hli := hide (show lv i = .slice (some ⟨β i, δ i, none⟩) (ps.getD i []).length (γ i) by rw [unhide HLV])
              obtain ⟨v1, v2, v3, v4, v5⟩ := owns_cell T2.v hkl
              replace v1 := v1.trans (valsV_get lv L k hkl)
              have hiz2 : (i : Int) < (ps.length : Int) := by omega
              have hkd2 : k < vc := by omega
              generalize (ps.getD i []).length = pl at *
              generalize β i = bi at *
              generalize δ i = di at *
              generalize γ i = ci at *
              have hT := hide (show Two w (wr.setCell ⟨vb, k, none⟩ (.slice (some ⟨bi, di, none⟩) pl ci)) ks lv (St.stand ks (i + 1)) (.slice (some ⟨nb, 0, none⟩) L.length nc) (.slice (some ⟨vb, 0, none⟩) L.length vc) nb nc vb vc from by
                rw [unhide hins]
                have hl : (L.set k i).length = L.length := by simp
                exact ⟨by rw [hl], by rw [hl], by rw [hl, unhide HNS]; exact owns_setOther T2.n T2.ne, by rw [hl, valsV_set, unhide hli]; exact owns_set T2.v, T2.ne, T2.b.setCell (p := ⟨vb, k, none⟩) v4 _⟩)
              clear T2
              generalize lv (L.getD k 0) = ov at *
              go_wp2_with fail
              go_roundg (ks.length - (i + 1))
              case rel => exact ⟨i + 1, nb, nc, vb, vc, rfl, by go_num, by omega, unhide hT⟩
              case measure => have := hg.out; omega
            | false =>
              have hins := hide ((unhide HSUC).trans (insP_new ks L i k hk hR.out (fun _ => ⟨unhide hnR, by rw [ne_eq, unhide HEQ]; simpa using he⟩)))
              go_wp2_with fail
              go_quiet (fail)
              replace fk := fun q => show ((wr.drewN nq).drewN q).cell? ⟨kg, i, none⟩ = some (.string y) from fk 0
              replace fn := fun q => show ((wr.drewN nq).drewN q).cell? ⟨nb, k, none⟩ = some (.string x) from fn 0
              replace T2 := T2.drewN nq
              generalize wr.drewN nq = wr at *
              go_wp2_with fail
              go_quiet (fail)
              replace fk := fun q => show ((wr.drewN nq).drewN q).cell? ⟨kg, i, none⟩ = some (.string y) from fk 0
              replace T2 := T2.drewN nq
              clear fn
              generalize wr.drewN nq = wr at *
              have f0 : wr.cell? ⟨kg, i, none⟩ = some (.string y) := fk 0
              have hkb : kg < wr.heap.size := Nat.lt_of_lt_of_le hklt T2.b.size
              have KEEPn := hide (show ∀ W, Below wr.heap.size wr W → (W.cell? ⟨kg, i, none⟩ = some (.string y) ∧ Below wr.heap.size wr W) from fun W hb => ⟨(hb.cell (by exact hkb)).trans f0, hb⟩)
              have hkL : (k : Int) ≤ (L.length : Int) := by omega
              have hkn : (k : Int) ≤ (nc : Int) := by omega
              have hkn2 : k ≤ nc := by omega
              have hnk : ¬ nc = k := by omega

              clear fk
              have N62n := hide (show ∀ W, Below wr.heap.size wr W → ∀ j u, ((namesV ks L).take k)[j]? = some u → W.cell? ((⟨nb, 0, none⟩ : Addr).add j) = some u from fun W hb j u hu => by
                have hj : j < k := by
                  have := (List.getElem?_eq_some_iff.1 hu).1
                  rw [List.length_take] at this; omega
                rw [add_plain, Nat.zero_add, hb.cell (by exact (owns_cell T2.n (show j < L.length by omega)).2.2.1), (owns_cell T2.n (show j < L.length by omega)).1, ← hu, List.getElem?_take, if_pos hj])
              have N72n := hide (show ∀ W, Below wr.heap.size wr W → ∀ j u, ((namesV ks L).drop k)[j]? = some u → W.cell? ((⟨nb, k, none⟩ : Addr).add j) = some u from fun W hb j u hu => by
                have hj : k + j < L.length := by
                  have := (List.getElem?_eq_some_iff.1 hu).1
                  rw [List.length_drop, namesV_length] at this; omega
                rw [add_plain, hb.cell (by exact (owns_cell T2.n hj).2.2.1), (owns_cell T2.n hj).1, ← hu, List.getElem?_drop])
              have P1n := hide (show ∀ u ∈ (namesV ks L).take k, u.oneCell' = true from fun u hu => namesV_plain ks L u (List.mem_of_mem_take hu))
              have P2n := hide (show ∀ u ∈ (namesV ks L).drop k, u.oneCell' = true from fun u hu => namesV_plain ks L u (List.mem_of_mem_drop hu))
              have L1n := hide (show ((namesV ks L).take k).length = k * 1 by rw [List.length_take, namesV_length]; omega)
              have L2n := hide (show ((namesV ks L).drop k).length = (L.length - k) * 1 by rw [List.length_drop, namesV_length]; omega)
              go_wp2_with fail
              go_cut [5] (fun s5 wc => ∃ nb2 nc2 : Nat, s5 = .slice (some ⟨nb2, 0, none⟩) (L.length + 1) nc2 ∧ wc.ownsRow wr.heap.size 9 1 (.slice (some ⟨nb2, 0, none⟩) (L.length + 1) nc2) (L.length + 1) (namesV ks (L.take k ++ [i] ++ L.drop k)) ∧ Below wr.heap.size wr wc)
              case first =>
                go_region_held_law (fun w' => w'.cell? ⟨kg, i, none⟩ = some (.string y) ∧ Below wr.heap.size wr w')
                  (first | assumption | exact (unhide KEEPn) _ (by assumption) | exact (unhide KEEPn) _ (Below.refl _ _).drew | exact (unhide KEEPn) _ (below_alloc (And.right (by assumption))))
                  (first
                    | (refine step_append_any ((wr.alloc (.cells #[] 9)).drew) rfl (.tmp 59) (.tmp 62) 48 rfl wr.heap.size 9 i1 (.string ByteArray.empty) 1 16 Try.underlying48 hi1 hy0 hy1 hy2 rfl (by decide) (.slice (some ⟨wr.heap.size, 0, none⟩) 0 0) 0 [] rfl (owns_empty (by omega) (heapE _ _)) _ _ _ ((namesV ks L).take k) rfl (unhide L1n) ((unhide N62n) _ (by exact And.right (by assumption))) (unhide P1n) (by unfold maxLen; omega) (by omega) (Below.size (B := wr.heap.size) (by exact And.right (by assumption))) ?_
                       intro v1 w1 ho1 hg1
                       have hB1 : Below wr.heap.size wr w1 := Below.grown (by exact And.right (by assumption)) hg1 (Below.size (B := wr.heap.size) (by exact And.right (by assumption))) (by intro q hq; simp only [Value.ownBlock, Option.some.injEq] at hq; omega))
                    | (refine step_append_any (((wr.alloc (.cells #[] 9)).alloc (.cells #[.string y] 9)).drew) rfl (.tmp 59) (.tmp 62) 48 rfl wr.heap.size 9 i1 (.string ByteArray.empty) 1 16 Try.underlying48 hi1 hy0 hy1 hy2 rfl (by decide) (.slice (some ⟨wr.heap.size, 0, none⟩) 0 0) 0 [] rfl (owns_empty (by omega) (heapEK _ _ _)) _ _ _ ((namesV ks L).take k) rfl (unhide L1n) ((unhide N62n) _ (by exact And.right (by assumption))) (unhide P1n) (by unfold maxLen; omega) (by omega) (Below.size (B := wr.heap.size) (by exact And.right (by assumption))) ?_
                       intro v1 w1 ho1 hg1
                       have hB1 : Below wr.heap.size wr w1 := Below.grown (by exact And.right (by assumption)) hg1 (Below.size (B := wr.heap.size) (by exact And.right (by assumption))) (by intro q hq; simp only [Value.ownBlock, Option.some.injEq] at hq; omega)
                       have hk1 : w1.cell? ⟨wr.heap.size + 1, 0, none⟩ = some (.string y) := (World.grownBy.cell_far hg1 ⟨wr.heap.size + 1, 0, none⟩ (by simp) (ne_own (wr.heap.size + 1) wr.heap.size 0 0 (by omega))).trans (cellEK _ _ _))
                    | (refine step_append_any (((wr.alloc (.cells #[.string y] 9)).alloc (.cells #[] 9)).drew) rfl (.tmp 59) (.tmp 62) 48 rfl wr.heap.size 9 i1 (.string ByteArray.empty) 1 16 Try.underlying48 hi1 hy0 hy1 hy2 rfl (by decide) (.slice (some ⟨wr.heap.size + 1, 0, none⟩) 0 0) 0 [] rfl (owns_empty (by omega) (heapKE _ _ _)) _ _ _ ((namesV ks L).take k) rfl (unhide L1n) ((unhide N62n) _ (by exact And.right (by assumption))) (unhide P1n) (by unfold maxLen; omega) (by omega) (Below.size (B := wr.heap.size) (by exact And.right (by assumption))) ?_
                       intro v1 w1 ho1 hg1
                       have hB1 : Below wr.heap.size wr w1 := Below.grown (by exact And.right (by assumption)) hg1 (Below.size (B := wr.heap.size) (by exact And.right (by assumption))) (by intro q hq; simp only [Value.ownBlock, Option.some.injEq] at hq; omega)
                       have hk1 : w1.cell? ⟨wr.heap.size, 0, none⟩ = some (.string y) := (World.grownBy.cell_far hg1 ⟨wr.heap.size, 0, none⟩ (by simp <;> omega) (ne_own wr.heap.size (wr.heap.size + 1) 0 0 (by omega))).trans (cellKE _ _ _))
                    | (refine step_append_any _ rfl (.tmp 63) (.tmp 68) 48 rfl wr.heap.size 9 i1 (.string ByteArray.empty) 1 16 Try.underlying48 hi1 hy0 hy1 hy2 rfl (by decide) _ (0 + k) _ rfl (by first | exact ho1 | exact ho1.alloc _) _ _ _ [.string y] rfl rfl (one_of (by first | assumption | exact World.cell?_alloc_mark _ _ _ _ _ | simp)) (by intro u hu; simp only [List.mem_cons, List.not_mem_nil, or_false] at hu; subst hu; first | rfl | (rw [unhide HLV]; rfl)) (by unfold maxLen; omega) (by omega) (Below.size (B := wr.heap.size) (by exact And.right (by assumption))) ?_
                       intro v2 w2 ho2 hg2
                       have hB2 : Below wr.heap.size wr w2 := Below.grown (by exact And.right (by assumption)) hg2 (Below.size (B := wr.heap.size) (by exact And.right (by assumption))) (ownsRow_base ho1))
                    | (refine step_append_any _ rfl (.tmp 69) (.tmp 72) 48 rfl wr.heap.size 9 i1 (.string ByteArray.empty) 1 16 Try.underlying48 hi1 hy0 hy1 hy2 rfl (by decide) _ (0 + k + 1) _ rfl ho2 _ _ _ ((namesV ks L).drop k) rfl (by first | exact unhide L2n | (rw [unhide L2n]; congr 1; omega)) ((unhide N72n) _ (by exact And.right (by assumption))) (unhide P2n) (by unfold maxLen; omega) (by omega) (Below.size (B := wr.heap.size) (by exact And.right (by assumption))) ?_
                       intro vn wn ho3 hg3
                       have hB3n : Below wr.heap.size wr wn := Below.grown (by exact And.right (by assumption)) hg3 (Below.size (B := wr.heap.size) (by exact And.right (by assumption))) (ownsRow_base ho2)))
                all_goals
                  have hN := hide (names_ins ks L k i y ho3 hk (unhide HY))
                  have hF := (unhide hN).form (by omega)
                  obtain ⟨nb2, nc2, rfl, _, _⟩ := hF
                  clear ho3
                  go_simp
                  go_wp2_with fail
                  go_meet
                  case rel => exact ⟨nb2, nc2, rfl, unhide hN, hB3n⟩
              case rest =>
                obtain ⟨nb2, nc2, rfl, hN, hBn⟩ := hcut
                have OV := owns_below T2.v hBn
                have hBc : Below w.heap.size w wc := T2.b.trans (hBn.mono T2.b.size)
                have hgl2 : gl < wc.heap.size := Nat.lt_of_lt_of_le hglt hBc.size
                obtain ⟨hv1, hv2, hv3, hv4⟩ := owns_at OV
                obtain ⟨hq1, hq2, hq3, hq4⟩ := owns_at hN
                have g0 := (hBc.cell (p := ⟨gl, i, none⟩) hglt).trans ((unhide HB) i (by omega)).1
                have hli := hide (show lv i = .slice (some ⟨β i, δ i, none⟩) (ps.getD i []).length (γ i) by rw [unhide HLV])
                have HPL := hide (show ∀ p, (lv p).oneCell' = true by rw [unhide HLV]; intro p; rfl)
                generalize (ps.getD i []).length = pl at *
                generalize β i = bi at *
                generalize δ i = di at *
                generalize γ i = ci at *
                have KEEPv := hide (show ∀ W, Below wc.heap.size wc W → (W.cell? ⟨gl, i, none⟩ = some (.slice (some ⟨bi, di, none⟩) pl ci) ∧ Below wc.heap.size wc W) from fun W hb => ⟨(hb.cell (by exact hgl2)).trans g0, hb⟩)
                have hiz2 : (i : Int) < (ps.length : Int) := by omega
                have hkv : (k : Int) ≤ (vc : Int) := by omega
                have hkv2 : k ≤ vc := by omega
                have hvk : ¬ vc = k := by omega
                have N62v := hide (show ∀ W, Below wc.heap.size wc W → ∀ j u, ((valsV lv L).take k)[j]? = some u → W.cell? ((⟨vb, 0, none⟩ : Addr).add j) = some u from fun W hb j u hu => by
                  have hj : j < k := by
                    have := (List.getElem?_eq_some_iff.1 hu).1
                    rw [List.length_take] at this; omega
                  rw [add_plain, Nat.zero_add, hb.cell (by exact (owns_cell OV (show j < L.length by omega)).2.2.1), (owns_cell OV (show j < L.length by omega)).1, ← hu, List.getElem?_take, if_pos hj])
                have N72v := hide (show ∀ W, Below wc.heap.size wc W → ∀ j u, ((valsV lv L).drop k)[j]? = some u → W.cell? ((⟨vb, k, none⟩ : Addr).add j) = some u from fun W hb j u hu => by
                  have hj : k + j < L.length := by
                    have := (List.getElem?_eq_some_iff.1 hu).1
                    rw [List.length_drop, valsV_length] at this; omega
                  rw [add_plain, hb.cell (by exact (owns_cell OV hj).2.2.1), (owns_cell OV hj).1, ← hu, List.getElem?_drop])
                have P1v := hide (show ∀ u ∈ (valsV lv L).take k, u.oneCell' = true from fun u hu => valsV_plain lv L (unhide HPL) u (List.mem_of_mem_take hu))
                have P2v := hide (show ∀ u ∈ (valsV lv L).drop k, u.oneCell' = true from fun u hu => valsV_plain lv L (unhide HPL) u (List.mem_of_mem_drop hu))
                have L1v := hide (show ((valsV lv L).take k).length = k * 1 by rw [List.length_take, valsV_length]; omega)
                have L2v := hide (show ((valsV lv L).drop k).length = (L.length - k) * 1 by rw [List.length_drop, valsV_length]; omega)
                go_wp2_with fail
                go_region_held_law (fun w' => w'.cell? ⟨gl, i, none⟩ = some (.slice (some ⟨bi, di, none⟩) pl ci) ∧ Below wc.heap.size wc w')
                  (first | assumption | exact (unhide KEEPv) _ (by assumption) | exact (unhide KEEPv) _ (Below.refl _ _).drew | exact (unhide KEEPv) _ (below_alloc (And.right (by assumption))))
                  (first
                    | (refine step_append_any ((wc.alloc (.cells #[] 24)).drew) rfl (.tmp 74) (.tmp 77) 44 rfl wc.heap.size 24 i2 (.slice none 0 0) 1 24 Try.underlying44 hi2 hw0 hw1 hw2 rfl (by decide) (.slice (some ⟨wc.heap.size, 0, none⟩) 0 0) 0 [] rfl (owns_empty (by omega) (heapE _ _)) _ _ _ ((valsV lv L).take k) rfl (unhide L1v) ((unhide N62v) _ (by exact And.right (by assumption))) (unhide P1v) (by unfold maxLen; omega) (by omega) (Below.size (B := wc.heap.size) (by exact And.right (by assumption))) ?_
                       intro v1 w1 ho1 hg1
                       have hB1 : Below wc.heap.size wc w1 := Below.grown (by exact And.right (by assumption)) hg1 (Below.size (B := wc.heap.size) (by exact And.right (by assumption))) (by intro q hq; simp only [Value.ownBlock, Option.some.injEq] at hq; omega))
                    | (refine step_append_any (((wc.alloc (.cells #[] 24)).alloc (.cells #[.slice (some ⟨bi, di, none⟩) pl ci] 24)).drew) rfl (.tmp 74) (.tmp 77) 44 rfl wc.heap.size 24 i2 (.slice none 0 0) 1 24 Try.underlying44 hi2 hw0 hw1 hw2 rfl (by decide) (.slice (some ⟨wc.heap.size, 0, none⟩) 0 0) 0 [] rfl (owns_empty (by omega) (heapEK _ _ _)) _ _ _ ((valsV lv L).take k) rfl (unhide L1v) ((unhide N62v) _ (by exact And.right (by assumption))) (unhide P1v) (by unfold maxLen; omega) (by omega) (Below.size (B := wc.heap.size) (by exact And.right (by assumption))) ?_
                       intro v1 w1 ho1 hg1
                       have hB1 : Below wc.heap.size wc w1 := Below.grown (by exact And.right (by assumption)) hg1 (Below.size (B := wc.heap.size) (by exact And.right (by assumption))) (by intro q hq; simp only [Value.ownBlock, Option.some.injEq] at hq; omega)
                       have hk1 : w1.cell? ⟨wc.heap.size + 1, 0, none⟩ = some (.slice (some ⟨bi, di, none⟩) pl ci) := (World.grownBy.cell_far hg1 ⟨wc.heap.size + 1, 0, none⟩ (by simp) (ne_own (wc.heap.size + 1) wc.heap.size 0 0 (by omega))).trans (cellEK _ _ _))
                    | (refine step_append_any (((wc.alloc (.cells #[.slice (some ⟨bi, di, none⟩) pl ci] 24)).alloc (.cells #[] 24)).drew) rfl (.tmp 74) (.tmp 77) 44 rfl wc.heap.size 24 i2 (.slice none 0 0) 1 24 Try.underlying44 hi2 hw0 hw1 hw2 rfl (by decide) (.slice (some ⟨wc.heap.size + 1, 0, none⟩) 0 0) 0 [] rfl (owns_empty (by omega) (heapKE _ _ _)) _ _ _ ((valsV lv L).take k) rfl (unhide L1v) ((unhide N62v) _ (by exact And.right (by assumption))) (unhide P1v) (by unfold maxLen; omega) (by omega) (Below.size (B := wc.heap.size) (by exact And.right (by assumption))) ?_
                       intro v1 w1 ho1 hg1
                       have hB1 : Below wc.heap.size wc w1 := Below.grown (by exact And.right (by assumption)) hg1 (Below.size (B := wc.heap.size) (by exact And.right (by assumption))) (by intro q hq; simp only [Value.ownBlock, Option.some.injEq] at hq; omega)
                       have hk1 : w1.cell? ⟨wc.heap.size, 0, none⟩ = some (.slice (some ⟨bi, di, none⟩) pl ci) := (World.grownBy.cell_far hg1 ⟨wc.heap.size, 0, none⟩ (by simp <;> omega) (ne_own wc.heap.size (wc.heap.size + 1) 0 0 (by omega))).trans (cellKE _ _ _))
                    | (refine step_append_any _ rfl (.tmp 78) (.tmp 83) 44 rfl wc.heap.size 24 i2 (.slice none 0 0) 1 24 Try.underlying44 hi2 hw0 hw1 hw2 rfl (by decide) _ (0 + k) _ rfl (by first | exact ho1 | exact ho1.alloc _) _ _ _ [.slice (some ⟨bi, di, none⟩) pl ci] rfl rfl (one_of (by first | assumption | exact World.cell?_alloc_mark _ _ _ _ _ | simp)) (by intro u hu; simp only [List.mem_cons, List.not_mem_nil, or_false] at hu; subst hu; first | rfl | (rw [unhide HLV]; rfl)) (by unfold maxLen; omega) (by omega) (Below.size (B := wc.heap.size) (by exact And.right (by assumption))) ?_
                       intro v2 w2 ho2 hg2
                       have hB2 : Below wc.heap.size wc w2 := Below.grown (by exact And.right (by assumption)) hg2 (Below.size (B := wc.heap.size) (by exact And.right (by assumption))) (ownsRow_base ho1))
                    | (refine step_append_any _ rfl (.tmp 84) (.tmp 87) 44 rfl wc.heap.size 24 i2 (.slice none 0 0) 1 24 Try.underlying44 hi2 hw0 hw1 hw2 rfl (by decide) _ (0 + k + 1) _ rfl ho2 _ _ _ ((valsV lv L).drop k) rfl (by first | exact unhide L2v | (rw [unhide L2v]; congr 1; omega)) ((unhide N72v) _ (by exact And.right (by assumption))) (unhide P2v) (by unfold maxLen; omega) (by omega) (Below.size (B := wc.heap.size) (by exact And.right (by assumption))) ?_
                       intro vv wv ho3 hg3
                       have hB3v : Below wc.heap.size wc wv := Below.grown (by exact And.right (by assumption)) hg3 (Below.size (B := wc.heap.size) (by exact And.right (by assumption))) (ownsRow_base ho2)))
                all_goals
                  have hV := hide (vals_ins lv L k i ho3 hk (unhide hli))
                  have hF := (unhide hV).form (by omega)
                  obtain ⟨vb2, vc2, rfl, hvb2, _⟩ := hF
                  have hT := hide (show Two w wv ks lv (St.stand ks (i + 1)) (.slice (some ⟨nb2, 0, none⟩) (L.length + 1) nc2) (.slice (some ⟨vb2, 0, none⟩) (L.length + 1) vc2) nb2 nc2 vb2 vc2 from by
                    rw [unhide hins]
                    have hl : (L.take k ++ [i] ++ L.drop k).length = L.length + 1 := by simp; omega
                    exact ⟨by rw [hl], by rw [hl], by rw [hl]; exact owns_below (ownsRow_mono hN T2.b.size) hB3v, by rw [hl]; exact ownsRow_mono (unhide hV) hBc.size, by omega, hBc.trans (hB3v.mono hBc.size)⟩)
                  clear ho3 hN hV T2 OV
                  go_wp2_with fail
                  go_roundg (ks.length - (i + 1))
                  case rel => exact ⟨i + 1, nb2, nc2, vb2, vc2, rfl, by go_num, by omega, unhide hT⟩
                  case measure => have := hg.out; omega
        · have hkz : ¬ (k : Int) < (L.length : Int) := by omega
          have hkd : decide ((k : Int) < (L.length : Int)) = false := decide_eq_false hkz
          have hins := hide ((unhide HSUC).trans (insP_new ks L i k hk hR.out (fun h => absurd h hkl)))
          obtain ⟨y, hy⟩ : ∃ y, y = ks.getD i ByteArray.empty := ⟨_, rfl⟩
          rw [← hy] at fk
          have HY := hide hy
          clear hy
          go_wp2_with fail
          go_quiet (fail)
          replace fk := fun q => show ((wr.drewN nq).drewN q).cell? ⟨kg, i, none⟩ = some (.string y) from fk 0
          replace T2 := T2.drewN nq
          generalize wr.drewN nq = wr at *
          go_wp2_with fail
          go_quiet (fail)
          replace fk := fun q => show ((wr.drewN nq).drewN q).cell? ⟨kg, i, none⟩ = some (.string y) from fk 0
          replace T2 := T2.drewN nq
          generalize wr.drewN nq = wr at *
          have f0 : wr.cell? ⟨kg, i, none⟩ = some (.string y) := fk 0
          have hkb : kg < wr.heap.size := Nat.lt_of_lt_of_le hklt T2.b.size
          have KEEPn := hide (show ∀ W, Below wr.heap.size wr W → (W.cell? ⟨kg, i, none⟩ = some (.string y) ∧ Below wr.heap.size wr W) from fun W hb => ⟨(hb.cell (by exact hkb)).trans f0, hb⟩)
          have hkL : (k : Int) ≤ (L.length : Int) := by omega
          have hkn : (k : Int) ≤ (nc : Int) := by omega
          have hkn2 : k ≤ nc := by omega

          clear fk
          have N62n := hide (show ∀ W, Below wr.heap.size wr W → ∀ j u, ((namesV ks L).take k)[j]? = some u → W.cell? ((⟨nb, 0, none⟩ : Addr).add j) = some u from fun W hb j u hu => by
            have hj : j < k := by
              have := (List.getElem?_eq_some_iff.1 hu).1
              rw [List.length_take] at this; omega
            rw [add_plain, Nat.zero_add, hb.cell (by exact (owns_cell T2.n (show j < L.length by omega)).2.2.1), (owns_cell T2.n (show j < L.length by omega)).1, ← hu, List.getElem?_take, if_pos hj])
          have N72n := hide (show ∀ (W : World) (ad : Addr) j u, ((namesV ks L).drop k)[j]? = some u → W.cell? (ad.add j) = some u from fun W ad j u hu => by rw [List.drop_eq_nil_of_le (by rw [namesV_length]; omega)] at hu; simp at hu)
          have P1n := hide (show ∀ u ∈ (namesV ks L).take k, u.oneCell' = true from fun u hu => namesV_plain ks L u (List.mem_of_mem_take hu))
          have P2n := hide (show ∀ u ∈ (namesV ks L).drop k, u.oneCell' = true from fun u hu => namesV_plain ks L u (List.mem_of_mem_drop hu))
          have L1n := hide (show ((namesV ks L).take k).length = k * 1 by rw [List.length_take, namesV_length]; omega)
          have L2n := hide (show ((namesV ks L).drop k).length = (L.length - k) * 1 by rw [List.length_drop, namesV_length]; omega)
          go_wp2_with fail
          go_cut [5] (fun s5 wc => ∃ nb2 nc2 : Nat, s5 = .slice (some ⟨nb2, 0, none⟩) (L.length + 1) nc2 ∧ wc.ownsRow wr.heap.size 9 1 (.slice (some ⟨nb2, 0, none⟩) (L.length + 1) nc2) (L.length + 1) (namesV ks (L.take k ++ [i] ++ L.drop k)) ∧ Below wr.heap.size wr wc)
          case first =>
            by_cases hnk : k = nc
            · subst hnk
              go_region_held_law (fun w' => w'.cell? ⟨kg, i, none⟩ = some (.string y) ∧ Below wr.heap.size wr w')
                (first | assumption | exact (unhide KEEPn) _ (by assumption) | exact (unhide KEEPn) _ (Below.refl _ _).drew | exact (unhide KEEPn) _ (below_alloc (And.right (by assumption))))
                (first
                  | (refine step_append_any ((wr.alloc (.cells #[] 9)).drew) rfl (.tmp 59) (.tmp 62) 48 rfl wr.heap.size 9 i1 (.string ByteArray.empty) 1 16 Try.underlying48 hi1 hy0 hy1 hy2 rfl (by decide) (.slice (some ⟨wr.heap.size, 0, none⟩) 0 0) 0 [] rfl (owns_empty (by omega) (heapE _ _)) _ _ _ ((namesV ks L).take k) rfl (unhide L1n) ((unhide N62n) _ (by exact And.right (by assumption))) (unhide P1n) (by unfold maxLen; omega) (by omega) (Below.size (B := wr.heap.size) (by exact And.right (by assumption))) ?_
                     intro v1 w1 ho1 hg1
                     have hB1 : Below wr.heap.size wr w1 := Below.grown (by exact And.right (by assumption)) hg1 (Below.size (B := wr.heap.size) (by exact And.right (by assumption))) (by intro q hq; simp only [Value.ownBlock, Option.some.injEq] at hq; omega))
                  | (refine step_append_any (((wr.alloc (.cells #[] 9)).alloc (.cells #[.string y] 9)).drew) rfl (.tmp 59) (.tmp 62) 48 rfl wr.heap.size 9 i1 (.string ByteArray.empty) 1 16 Try.underlying48 hi1 hy0 hy1 hy2 rfl (by decide) (.slice (some ⟨wr.heap.size, 0, none⟩) 0 0) 0 [] rfl (owns_empty (by omega) (heapEK _ _ _)) _ _ _ ((namesV ks L).take k) rfl (unhide L1n) ((unhide N62n) _ (by exact And.right (by assumption))) (unhide P1n) (by unfold maxLen; omega) (by omega) (Below.size (B := wr.heap.size) (by exact And.right (by assumption))) ?_
                     intro v1 w1 ho1 hg1
                     have hB1 : Below wr.heap.size wr w1 := Below.grown (by exact And.right (by assumption)) hg1 (Below.size (B := wr.heap.size) (by exact And.right (by assumption))) (by intro q hq; simp only [Value.ownBlock, Option.some.injEq] at hq; omega)
                     have hk1 : w1.cell? ⟨wr.heap.size + 1, 0, none⟩ = some (.string y) := (World.grownBy.cell_far hg1 ⟨wr.heap.size + 1, 0, none⟩ (by simp) (ne_own (wr.heap.size + 1) wr.heap.size 0 0 (by omega))).trans (cellEK _ _ _))
                  | (refine step_append_any (((wr.alloc (.cells #[.string y] 9)).alloc (.cells #[] 9)).drew) rfl (.tmp 59) (.tmp 62) 48 rfl wr.heap.size 9 i1 (.string ByteArray.empty) 1 16 Try.underlying48 hi1 hy0 hy1 hy2 rfl (by decide) (.slice (some ⟨wr.heap.size + 1, 0, none⟩) 0 0) 0 [] rfl (owns_empty (by omega) (heapKE _ _ _)) _ _ _ ((namesV ks L).take k) rfl (unhide L1n) ((unhide N62n) _ (by exact And.right (by assumption))) (unhide P1n) (by unfold maxLen; omega) (by omega) (Below.size (B := wr.heap.size) (by exact And.right (by assumption))) ?_
                     intro v1 w1 ho1 hg1
                     have hB1 : Below wr.heap.size wr w1 := Below.grown (by exact And.right (by assumption)) hg1 (Below.size (B := wr.heap.size) (by exact And.right (by assumption))) (by intro q hq; simp only [Value.ownBlock, Option.some.injEq] at hq; omega)
                     have hk1 : w1.cell? ⟨wr.heap.size, 0, none⟩ = some (.string y) := (World.grownBy.cell_far hg1 ⟨wr.heap.size, 0, none⟩ (by simp <;> omega) (ne_own wr.heap.size (wr.heap.size + 1) 0 0 (by omega))).trans (cellKE _ _ _))
                  | (refine step_append_any _ rfl (.tmp 63) (.tmp 68) 48 rfl wr.heap.size 9 i1 (.string ByteArray.empty) 1 16 Try.underlying48 hi1 hy0 hy1 hy2 rfl (by decide) _ (0 + k) _ rfl (by first | exact ho1 | exact ho1.alloc _) _ _ _ [.string y] rfl rfl (one_of (by first | assumption | exact World.cell?_alloc_mark _ _ _ _ _ | simp)) (by intro u hu; simp only [List.mem_cons, List.not_mem_nil, or_false] at hu; subst hu; first | rfl | (rw [unhide HLV]; rfl)) (by unfold maxLen; omega) (by omega) (Below.size (B := wr.heap.size) (by exact And.right (by assumption))) ?_
                     intro v2 w2 ho2 hg2
                     have hB2 : Below wr.heap.size wr w2 := Below.grown (by exact And.right (by assumption)) hg2 (Below.size (B := wr.heap.size) (by exact And.right (by assumption))) (ownsRow_base ho1))
                  | (refine step_append_any _ rfl (.tmp 69) (.tmp 72) 48 rfl wr.heap.size 9 i1 (.string ByteArray.empty) 1 16 Try.underlying48 hi1 hy0 hy1 hy2 rfl (by decide) _ (0 + k + 1) _ rfl ho2 _ _ _ ((namesV ks L).drop k) rfl (by first | exact unhide L2n | (rw [unhide L2n]; congr 1; omega)) ((unhide N72n) _ _) (unhide P2n) (by unfold maxLen; omega) (by omega) (Below.size (B := wr.heap.size) (by exact And.right (by assumption))) ?_
                     intro vn wn ho3 hg3
                     have hB3n : Below wr.heap.size wr wn := Below.grown (by exact And.right (by assumption)) hg3 (Below.size (B := wr.heap.size) (by exact And.right (by assumption))) (ownsRow_base ho2)))
              all_goals
                have hN := hide (names_ins ks L k i y (by first | exact ho3 | (rw [show L.length - k = 0 by omega]; exact ho3)) hk (unhide HY))
                have hF := (unhide hN).form (by omega)
                obtain ⟨nb2, nc2, rfl, _, _⟩ := hF
                clear ho3
                go_simp
                go_wp2_with fail
                go_meet
                case rel => exact ⟨nb2, nc2, rfl, unhide hN, hB3n⟩
            · have hnk2 : ¬ nc = k := fun h => hnk h.symm
              go_region_held_law (fun w' => w'.cell? ⟨kg, i, none⟩ = some (.string y) ∧ Below wr.heap.size wr w')
                (first | assumption | exact (unhide KEEPn) _ (by assumption) | exact (unhide KEEPn) _ (Below.refl _ _).drew | exact (unhide KEEPn) _ (below_alloc (And.right (by assumption))))
                (first
                  | (refine step_append_any ((wr.alloc (.cells #[] 9)).drew) rfl (.tmp 59) (.tmp 62) 48 rfl wr.heap.size 9 i1 (.string ByteArray.empty) 1 16 Try.underlying48 hi1 hy0 hy1 hy2 rfl (by decide) (.slice (some ⟨wr.heap.size, 0, none⟩) 0 0) 0 [] rfl (owns_empty (by omega) (heapE _ _)) _ _ _ ((namesV ks L).take k) rfl (unhide L1n) ((unhide N62n) _ (by exact And.right (by assumption))) (unhide P1n) (by unfold maxLen; omega) (by omega) (Below.size (B := wr.heap.size) (by exact And.right (by assumption))) ?_
                     intro v1 w1 ho1 hg1
                     have hB1 : Below wr.heap.size wr w1 := Below.grown (by exact And.right (by assumption)) hg1 (Below.size (B := wr.heap.size) (by exact And.right (by assumption))) (by intro q hq; simp only [Value.ownBlock, Option.some.injEq] at hq; omega))
                  | (refine step_append_any (((wr.alloc (.cells #[] 9)).alloc (.cells #[.string y] 9)).drew) rfl (.tmp 59) (.tmp 62) 48 rfl wr.heap.size 9 i1 (.string ByteArray.empty) 1 16 Try.underlying48 hi1 hy0 hy1 hy2 rfl (by decide) (.slice (some ⟨wr.heap.size, 0, none⟩) 0 0) 0 [] rfl (owns_empty (by omega) (heapEK _ _ _)) _ _ _ ((namesV ks L).take k) rfl (unhide L1n) ((unhide N62n) _ (by exact And.right (by assumption))) (unhide P1n) (by unfold maxLen; omega) (by omega) (Below.size (B := wr.heap.size) (by exact And.right (by assumption))) ?_
                     intro v1 w1 ho1 hg1
                     have hB1 : Below wr.heap.size wr w1 := Below.grown (by exact And.right (by assumption)) hg1 (Below.size (B := wr.heap.size) (by exact And.right (by assumption))) (by intro q hq; simp only [Value.ownBlock, Option.some.injEq] at hq; omega)
                     have hk1 : w1.cell? ⟨wr.heap.size + 1, 0, none⟩ = some (.string y) := (World.grownBy.cell_far hg1 ⟨wr.heap.size + 1, 0, none⟩ (by simp) (ne_own (wr.heap.size + 1) wr.heap.size 0 0 (by omega))).trans (cellEK _ _ _))
                  | (refine step_append_any (((wr.alloc (.cells #[.string y] 9)).alloc (.cells #[] 9)).drew) rfl (.tmp 59) (.tmp 62) 48 rfl wr.heap.size 9 i1 (.string ByteArray.empty) 1 16 Try.underlying48 hi1 hy0 hy1 hy2 rfl (by decide) (.slice (some ⟨wr.heap.size + 1, 0, none⟩) 0 0) 0 [] rfl (owns_empty (by omega) (heapKE _ _ _)) _ _ _ ((namesV ks L).take k) rfl (unhide L1n) ((unhide N62n) _ (by exact And.right (by assumption))) (unhide P1n) (by unfold maxLen; omega) (by omega) (Below.size (B := wr.heap.size) (by exact And.right (by assumption))) ?_
                     intro v1 w1 ho1 hg1
                     have hB1 : Below wr.heap.size wr w1 := Below.grown (by exact And.right (by assumption)) hg1 (Below.size (B := wr.heap.size) (by exact And.right (by assumption))) (by intro q hq; simp only [Value.ownBlock, Option.some.injEq] at hq; omega)
                     have hk1 : w1.cell? ⟨wr.heap.size, 0, none⟩ = some (.string y) := (World.grownBy.cell_far hg1 ⟨wr.heap.size, 0, none⟩ (by simp <;> omega) (ne_own wr.heap.size (wr.heap.size + 1) 0 0 (by omega))).trans (cellKE _ _ _))
                  | (refine step_append_any _ rfl (.tmp 63) (.tmp 68) 48 rfl wr.heap.size 9 i1 (.string ByteArray.empty) 1 16 Try.underlying48 hi1 hy0 hy1 hy2 rfl (by decide) _ (0 + k) _ rfl (by first | exact ho1 | exact ho1.alloc _) _ _ _ [.string y] rfl rfl (one_of (by first | assumption | exact World.cell?_alloc_mark _ _ _ _ _ | simp)) (by intro u hu; simp only [List.mem_cons, List.not_mem_nil, or_false] at hu; subst hu; first | rfl | (rw [unhide HLV]; rfl)) (by unfold maxLen; omega) (by omega) (Below.size (B := wr.heap.size) (by exact And.right (by assumption))) ?_
                     intro v2 w2 ho2 hg2
                     have hB2 : Below wr.heap.size wr w2 := Below.grown (by exact And.right (by assumption)) hg2 (Below.size (B := wr.heap.size) (by exact And.right (by assumption))) (ownsRow_base ho1))
                  | (refine step_append_any _ rfl (.tmp 69) (.tmp 72) 48 rfl wr.heap.size 9 i1 (.string ByteArray.empty) 1 16 Try.underlying48 hi1 hy0 hy1 hy2 rfl (by decide) _ (0 + k + 1) _ rfl ho2 _ _ _ ((namesV ks L).drop k) rfl (by first | exact unhide L2n | (rw [unhide L2n]; congr 1; omega)) ((unhide N72n) _ _) (unhide P2n) (by unfold maxLen; omega) (by omega) (Below.size (B := wr.heap.size) (by exact And.right (by assumption))) ?_
                     intro vn wn ho3 hg3
                     have hB3n : Below wr.heap.size wr wn := Below.grown (by exact And.right (by assumption)) hg3 (Below.size (B := wr.heap.size) (by exact And.right (by assumption))) (ownsRow_base ho2)))
              all_goals
                have hN := hide (names_ins ks L k i y (by first | exact ho3 | (rw [show L.length - k = 0 by omega]; exact ho3)) hk (unhide HY))
                have hF := (unhide hN).form (by omega)
                obtain ⟨nb2, nc2, rfl, _, _⟩ := hF
                clear ho3
                go_simp
                go_wp2_with fail
                go_meet
                case rel => exact ⟨nb2, nc2, rfl, unhide hN, hB3n⟩
          case rest =>
            obtain ⟨nb2, nc2, rfl, hN, hBn⟩ := hcut
            have OV := owns_below T2.v hBn
            have hBc : Below w.heap.size w wc := T2.b.trans (hBn.mono T2.b.size)
            have hgl2 : gl < wc.heap.size := Nat.lt_of_lt_of_le hglt hBc.size
            obtain ⟨hv1, hv2, hv3, hv4⟩ := owns_at OV
            obtain ⟨hq1, hq2, hq3, hq4⟩ := owns_at hN
            have g0 := (hBc.cell (p := ⟨gl, i, none⟩) hglt).trans ((unhide HB) i (by omega)).1
            have hli := hide (show lv i = .slice (some ⟨β i, δ i, none⟩) (ps.getD i []).length (γ i) by rw [unhide HLV])
            have HPL := hide (show ∀ p, (lv p).oneCell' = true by rw [unhide HLV]; intro p; rfl)
            generalize (ps.getD i []).length = pl at *
            generalize β i = bi at *
            generalize δ i = di at *
            generalize γ i = ci at *
            have KEEPv := hide (show ∀ W, Below wc.heap.size wc W → (W.cell? ⟨gl, i, none⟩ = some (.slice (some ⟨bi, di, none⟩) pl ci) ∧ Below wc.heap.size wc W) from fun W hb => ⟨(hb.cell (by exact hgl2)).trans g0, hb⟩)
            have hiz2 : (i : Int) < (ps.length : Int) := by omega
            have hkv : (k : Int) ≤ (vc : Int) := by omega
            have hkv2 : k ≤ vc := by omega
            have N62v := hide (show ∀ W, Below wc.heap.size wc W → ∀ j u, ((valsV lv L).take k)[j]? = some u → W.cell? ((⟨vb, 0, none⟩ : Addr).add j) = some u from fun W hb j u hu => by
              have hj : j < k := by
                have := (List.getElem?_eq_some_iff.1 hu).1
                rw [List.length_take] at this; omega
              rw [add_plain, Nat.zero_add, hb.cell (by exact (owns_cell OV (show j < L.length by omega)).2.2.1), (owns_cell OV (show j < L.length by omega)).1, ← hu, List.getElem?_take, if_pos hj])
            have N72v := hide (show ∀ (W : World) (ad : Addr) j u, ((valsV lv L).drop k)[j]? = some u → W.cell? (ad.add j) = some u from fun W ad j u hu => by rw [List.drop_eq_nil_of_le (by rw [valsV_length]; omega)] at hu; simp at hu)
            have P1v := hide (show ∀ u ∈ (valsV lv L).take k, u.oneCell' = true from fun u hu => valsV_plain lv L (unhide HPL) u (List.mem_of_mem_take hu))
            have P2v := hide (show ∀ u ∈ (valsV lv L).drop k, u.oneCell' = true from fun u hu => valsV_plain lv L (unhide HPL) u (List.mem_of_mem_drop hu))
            have L1v := hide (show ((valsV lv L).take k).length = k * 1 by rw [List.length_take, valsV_length]; omega)
            have L2v := hide (show ((valsV lv L).drop k).length = (L.length - k) * 1 by rw [List.length_drop, valsV_length]; omega)
            by_cases hvk : k = vc
            · subst hvk
              go_wp2_with fail
              go_region_held_law (fun w' => w'.cell? ⟨gl, i, none⟩ = some (.slice (some ⟨bi, di, none⟩) pl ci) ∧ Below wc.heap.size wc w')
                (first | assumption | exact (unhide KEEPv) _ (by assumption) | exact (unhide KEEPv) _ (Below.refl _ _).drew | exact (unhide KEEPv) _ (below_alloc (And.right (by assumption))))
                (first
                  | (refine step_append_any ((wc.alloc (.cells #[] 24)).drew) rfl (.tmp 74) (.tmp 77) 44 rfl wc.heap.size 24 i2 (.slice none 0 0) 1 24 Try.underlying44 hi2 hw0 hw1 hw2 rfl (by decide) (.slice (some ⟨wc.heap.size, 0, none⟩) 0 0) 0 [] rfl (owns_empty (by omega) (heapE _ _)) _ _ _ ((valsV lv L).take k) rfl (unhide L1v) ((unhide N62v) _ (by exact And.right (by assumption))) (unhide P1v) (by unfold maxLen; omega) (by omega) (Below.size (B := wc.heap.size) (by exact And.right (by assumption))) ?_
                     intro v1 w1 ho1 hg1
                     have hB1 : Below wc.heap.size wc w1 := Below.grown (by exact And.right (by assumption)) hg1 (Below.size (B := wc.heap.size) (by exact And.right (by assumption))) (by intro q hq; simp only [Value.ownBlock, Option.some.injEq] at hq; omega))
                  | (refine step_append_any (((wc.alloc (.cells #[] 24)).alloc (.cells #[.slice (some ⟨bi, di, none⟩) pl ci] 24)).drew) rfl (.tmp 74) (.tmp 77) 44 rfl wc.heap.size 24 i2 (.slice none 0 0) 1 24 Try.underlying44 hi2 hw0 hw1 hw2 rfl (by decide) (.slice (some ⟨wc.heap.size, 0, none⟩) 0 0) 0 [] rfl (owns_empty (by omega) (heapEK _ _ _)) _ _ _ ((valsV lv L).take k) rfl (unhide L1v) ((unhide N62v) _ (by exact And.right (by assumption))) (unhide P1v) (by unfold maxLen; omega) (by omega) (Below.size (B := wc.heap.size) (by exact And.right (by assumption))) ?_
                     intro v1 w1 ho1 hg1
                     have hB1 : Below wc.heap.size wc w1 := Below.grown (by exact And.right (by assumption)) hg1 (Below.size (B := wc.heap.size) (by exact And.right (by assumption))) (by intro q hq; simp only [Value.ownBlock, Option.some.injEq] at hq; omega)
                     have hk1 : w1.cell? ⟨wc.heap.size + 1, 0, none⟩ = some (.slice (some ⟨bi, di, none⟩) pl ci) := (World.grownBy.cell_far hg1 ⟨wc.heap.size + 1, 0, none⟩ (by simp) (ne_own (wc.heap.size + 1) wc.heap.size 0 0 (by omega))).trans (cellEK _ _ _))
                  | (refine step_append_any (((wc.alloc (.cells #[.slice (some ⟨bi, di, none⟩) pl ci] 24)).alloc (.cells #[] 24)).drew) rfl (.tmp 74) (.tmp 77) 44 rfl wc.heap.size 24 i2 (.slice none 0 0) 1 24 Try.underlying44 hi2 hw0 hw1 hw2 rfl (by decide) (.slice (some ⟨wc.heap.size + 1, 0, none⟩) 0 0) 0 [] rfl (owns_empty (by omega) (heapKE _ _ _)) _ _ _ ((valsV lv L).take k) rfl (unhide L1v) ((unhide N62v) _ (by exact And.right (by assumption))) (unhide P1v) (by unfold maxLen; omega) (by omega) (Below.size (B := wc.heap.size) (by exact And.right (by assumption))) ?_
                     intro v1 w1 ho1 hg1
                     have hB1 : Below wc.heap.size wc w1 := Below.grown (by exact And.right (by assumption)) hg1 (Below.size (B := wc.heap.size) (by exact And.right (by assumption))) (by intro q hq; simp only [Value.ownBlock, Option.some.injEq] at hq; omega)
                     have hk1 : w1.cell? ⟨wc.heap.size, 0, none⟩ = some (.slice (some ⟨bi, di, none⟩) pl ci) := (World.grownBy.cell_far hg1 ⟨wc.heap.size, 0, none⟩ (by simp <;> omega) (ne_own wc.heap.size (wc.heap.size + 1) 0 0 (by omega))).trans (cellKE _ _ _))
                  | (refine step_append_any _ rfl (.tmp 78) (.tmp 83) 44 rfl wc.heap.size 24 i2 (.slice none 0 0) 1 24 Try.underlying44 hi2 hw0 hw1 hw2 rfl (by decide) _ (0 + k) _ rfl (by first | exact ho1 | exact ho1.alloc _) _ _ _ [.slice (some ⟨bi, di, none⟩) pl ci] rfl rfl (one_of (by first | assumption | exact World.cell?_alloc_mark _ _ _ _ _ | simp)) (by intro u hu; simp only [List.mem_cons, List.not_mem_nil, or_false] at hu; subst hu; first | rfl | (rw [unhide HLV]; rfl)) (by unfold maxLen; omega) (by omega) (Below.size (B := wc.heap.size) (by exact And.right (by assumption))) ?_
                     intro v2 w2 ho2 hg2
                     have hB2 : Below wc.heap.size wc w2 := Below.grown (by exact And.right (by assumption)) hg2 (Below.size (B := wc.heap.size) (by exact And.right (by assumption))) (ownsRow_base ho1))
                  | (refine step_append_any _ rfl (.tmp 84) (.tmp 87) 44 rfl wc.heap.size 24 i2 (.slice none 0 0) 1 24 Try.underlying44 hi2 hw0 hw1 hw2 rfl (by decide) _ (0 + k + 1) _ rfl ho2 _ _ _ ((valsV lv L).drop k) rfl (by first | exact unhide L2v | (rw [unhide L2v]; congr 1; omega)) ((unhide N72v) _ _) (unhide P2v) (by unfold maxLen; omega) (by omega) (Below.size (B := wc.heap.size) (by exact And.right (by assumption))) ?_
                     intro vv wv ho3 hg3
                     have hB3v : Below wc.heap.size wc wv := Below.grown (by exact And.right (by assumption)) hg3 (Below.size (B := wc.heap.size) (by exact And.right (by assumption))) (ownsRow_base ho2)))
              all_goals
                have hV := hide (vals_ins lv L k i (by first | exact ho3 | (rw [show L.length - k = 0 by omega]; exact ho3)) hk (unhide hli))
                have hF := (unhide hV).form (by omega)
                obtain ⟨vb2, vc2, rfl, hvb2, _⟩ := hF
                have hT := hide (show Two w wv ks lv (St.stand ks (i + 1)) (.slice (some ⟨nb2, 0, none⟩) (L.length + 1) nc2) (.slice (some ⟨vb2, 0, none⟩) (L.length + 1) vc2) nb2 nc2 vb2 vc2 from by
                  rw [unhide hins]
                  have hl : (L.take k ++ [i] ++ L.drop k).length = L.length + 1 := by simp; omega
                  exact ⟨by rw [hl], by rw [hl], by rw [hl]; exact owns_below (ownsRow_mono hN T2.b.size) hB3v, by rw [hl]; exact ownsRow_mono (unhide hV) hBc.size, by omega, hBc.trans (hB3v.mono hBc.size)⟩)
                clear ho3 hN hV T2 OV
                go_wp2_with fail
                go_roundg (ks.length - (i + 1))
                case rel => exact ⟨i + 1, nb2, nc2, vb2, vc2, rfl, by go_num, by omega, unhide hT⟩
                case measure => have := hg.out; omega
            · have hvk2 : ¬ vc = k := fun h => hvk h.symm
              go_wp2_with fail
              go_region_held_law (fun w' => w'.cell? ⟨gl, i, none⟩ = some (.slice (some ⟨bi, di, none⟩) pl ci) ∧ Below wc.heap.size wc w')
                (first | assumption | exact (unhide KEEPv) _ (by assumption) | exact (unhide KEEPv) _ (Below.refl _ _).drew | exact (unhide KEEPv) _ (below_alloc (And.right (by assumption))))
                (first
                  | (refine step_append_any ((wc.alloc (.cells #[] 24)).drew) rfl (.tmp 74) (.tmp 77) 44 rfl wc.heap.size 24 i2 (.slice none 0 0) 1 24 Try.underlying44 hi2 hw0 hw1 hw2 rfl (by decide) (.slice (some ⟨wc.heap.size, 0, none⟩) 0 0) 0 [] rfl (owns_empty (by omega) (heapE _ _)) _ _ _ ((valsV lv L).take k) rfl (unhide L1v) ((unhide N62v) _ (by exact And.right (by assumption))) (unhide P1v) (by unfold maxLen; omega) (by omega) (Below.size (B := wc.heap.size) (by exact And.right (by assumption))) ?_
                     intro v1 w1 ho1 hg1
                     have hB1 : Below wc.heap.size wc w1 := Below.grown (by exact And.right (by assumption)) hg1 (Below.size (B := wc.heap.size) (by exact And.right (by assumption))) (by intro q hq; simp only [Value.ownBlock, Option.some.injEq] at hq; omega))
                  | (refine step_append_any (((wc.alloc (.cells #[] 24)).alloc (.cells #[.slice (some ⟨bi, di, none⟩) pl ci] 24)).drew) rfl (.tmp 74) (.tmp 77) 44 rfl wc.heap.size 24 i2 (.slice none 0 0) 1 24 Try.underlying44 hi2 hw0 hw1 hw2 rfl (by decide) (.slice (some ⟨wc.heap.size, 0, none⟩) 0 0) 0 [] rfl (owns_empty (by omega) (heapEK _ _ _)) _ _ _ ((valsV lv L).take k) rfl (unhide L1v) ((unhide N62v) _ (by exact And.right (by assumption))) (unhide P1v) (by unfold maxLen; omega) (by omega) (Below.size (B := wc.heap.size) (by exact And.right (by assumption))) ?_
                     intro v1 w1 ho1 hg1
                     have hB1 : Below wc.heap.size wc w1 := Below.grown (by exact And.right (by assumption)) hg1 (Below.size (B := wc.heap.size) (by exact And.right (by assumption))) (by intro q hq; simp only [Value.ownBlock, Option.some.injEq] at hq; omega)
                     have hk1 : w1.cell? ⟨wc.heap.size + 1, 0, none⟩ = some (.slice (some ⟨bi, di, none⟩) pl ci) := (World.grownBy.cell_far hg1 ⟨wc.heap.size + 1, 0, none⟩ (by simp) (ne_own (wc.heap.size + 1) wc.heap.size 0 0 (by omega))).trans (cellEK _ _ _))
                  | (refine step_append_any (((wc.alloc (.cells #[.slice (some ⟨bi, di, none⟩) pl ci] 24)).alloc (.cells #[] 24)).drew) rfl (.tmp 74) (.tmp 77) 44 rfl wc.heap.size 24 i2 (.slice none 0 0) 1 24 Try.underlying44 hi2 hw0 hw1 hw2 rfl (by decide) (.slice (some ⟨wc.heap.size + 1, 0, none⟩) 0 0) 0 [] rfl (owns_empty (by omega) (heapKE _ _ _)) _ _ _ ((valsV lv L).take k) rfl (unhide L1v) ((unhide N62v) _ (by exact And.right (by assumption))) (unhide P1v) (by unfold maxLen; omega) (by omega) (Below.size (B := wc.heap.size) (by exact And.right (by assumption))) ?_
                     intro v1 w1 ho1 hg1
                     have hB1 : Below wc.heap.size wc w1 := Below.grown (by exact And.right (by assumption)) hg1 (Below.size (B := wc.heap.size) (by exact And.right (by assumption))) (by intro q hq; simp only [Value.ownBlock, Option.some.injEq] at hq; omega)
                     have hk1 : w1.cell? ⟨wc.heap.size, 0, none⟩ = some (.slice (some ⟨bi, di, none⟩) pl ci) := (World.grownBy.cell_far hg1 ⟨wc.heap.size, 0, none⟩ (by simp <;> omega) (ne_own wc.heap.size (wc.heap.size + 1) 0 0 (by omega))).trans (cellKE _ _ _))
                  | (refine step_append_any _ rfl (.tmp 78) (.tmp 83) 44 rfl wc.heap.size 24 i2 (.slice none 0 0) 1 24 Try.underlying44 hi2 hw0 hw1 hw2 rfl (by decide) _ (0 + k) _ rfl (by first | exact ho1 | exact ho1.alloc _) _ _ _ [.slice (some ⟨bi, di, none⟩) pl ci] rfl rfl (one_of (by first | assumption | exact World.cell?_alloc_mark _ _ _ _ _ | simp)) (by intro u hu; simp only [List.mem_cons, List.not_mem_nil, or_false] at hu; subst hu; first | rfl | (rw [unhide HLV]; rfl)) (by unfold maxLen; omega) (by omega) (Below.size (B := wc.heap.size) (by exact And.right (by assumption))) ?_
                     intro v2 w2 ho2 hg2
                     have hB2 : Below wc.heap.size wc w2 := Below.grown (by exact And.right (by assumption)) hg2 (Below.size (B := wc.heap.size) (by exact And.right (by assumption))) (ownsRow_base ho1))
                  | (refine step_append_any _ rfl (.tmp 84) (.tmp 87) 44 rfl wc.heap.size 24 i2 (.slice none 0 0) 1 24 Try.underlying44 hi2 hw0 hw1 hw2 rfl (by decide) _ (0 + k + 1) _ rfl ho2 _ _ _ ((valsV lv L).drop k) rfl (by first | exact unhide L2v | (rw [unhide L2v]; congr 1; omega)) ((unhide N72v) _ _) (unhide P2v) (by unfold maxLen; omega) (by omega) (Below.size (B := wc.heap.size) (by exact And.right (by assumption))) ?_
                     intro vv wv ho3 hg3
                     have hB3v : Below wc.heap.size wc wv := Below.grown (by exact And.right (by assumption)) hg3 (Below.size (B := wc.heap.size) (by exact And.right (by assumption))) (ownsRow_base ho2)))
              all_goals
                have hV := hide (vals_ins lv L k i (by first | exact ho3 | (rw [show L.length - k = 0 by omega]; exact ho3)) hk (unhide hli))
                have hF := (unhide hV).form (by omega)
                obtain ⟨vb2, vc2, rfl, hvb2, _⟩ := hF
                have hT := hide (show Two w wv ks lv (St.stand ks (i + 1)) (.slice (some ⟨nb2, 0, none⟩) (L.length + 1) nc2) (.slice (some ⟨vb2, 0, none⟩) (L.length + 1) vc2) nb2 nc2 vb2 vc2 from by
                  rw [unhide hins]
                  have hl : (L.take k ++ [i] ++ L.drop k).length = L.length + 1 := by simp; omega
                  exact ⟨by rw [hl], by rw [hl], by rw [hl]; exact owns_below (ownsRow_mono hN T2.b.size) hB3v, by rw [hl]; exact ownsRow_mono (unhide hV) hBc.size, by omega, hBc.trans (hB3v.mono hBc.size)⟩)
                clear ho3 hN hV T2 OV
                go_wp2_with fail
                go_roundg (ks.length - (i + 1))
                case rel => exact ⟨i + 1, nb2, nc2, vb2, vc2, rfl, by go_num, by omega, unhide hT⟩
                case measure => have := hg.out; omega
    · have hie : i = ks.length := by omega
      subst hie
      have hfin := hide (show objV ks ps = objK ks ps (St.stand ks ks.length) (St.stand ks ks.length).length from rfl)
      have hst := hide (St.stand_lt ks ks.length)
      have hL200 := hide (fun k => objK_le ks ps (St.stand ks ks.length) (J.stand_nodup ks ks.length) (fun x hx => by have := (unhide hst) x hx; omega) k)
      generalize St.stand ks ks.length = L at *
      obtain ⟨ha1, ha2, ha3, ha4⟩ := owns_at T.n
      obtain ⟨i0, hi, hz0, hz1, hz2⟩ := info_parts Try.info41
      clear HSUC hlt hg
      have HFS := hide flat_setKey
      generalize wr = wo at *
      go_wp2_with fail
      go_loopg [9, 10] L.length (fun gh s9 s10 wr2 => ∃ k : Nat, Hid (gh = L.length - k) ∧ s10 = .int .i64 k ∧ k ≤ L.length ∧ wr2.ownsRow wo.heap.size 41 5 s9 (objK ks ps L k).length (flat (objK ks ps L k)) ∧ Below wo.heap.size wo wr2)
      case atStart => exact ⟨0, rfl, rfl, by omega, one_own wo wo.heap.size _ (headCl 6 L.length) rfl (Nat.le_refl _), (Below.refl _ _).alloc (Nat.le_refl _) _⟩
      case round =>
        obtain ⟨k, hg, rfl, hk, hown, hbel⟩ := hrel
        by_cases hlt : k < L.length
        · have hmem : L.getD k 0 ∈ L := by rw [List.getD_eq_getElem?_getD, List.getElem?_eq_getElem hlt]; exact List.getElem_mem _
          have hx := (unhide hst) _ hmem
          have hsucc := hide (objK_succ ks ps L k hlt)
          have hol := (unhide hL200) k
          obtain ⟨v1, v2, v3, v4, v5⟩ := owns_cell T.v hlt
          have hbal := hide (fun o => hbel.alloc hbel.size o)
          replace v1 := fun o => (((unhide hbal) o).cell (p := ⟨vb, k, none⟩) v3).trans (v1.trans (valsV_get lv L k hlt))
          obtain ⟨n1, n2, n3, n4, n5⟩ := owns_cell T.n hlt
          have hnm := hide (fun W (hb : Below wo.heap.size wo W) => (hb.cell (p := ⟨nb, k, none⟩) n3).trans (n1.trans (namesV_get ks L k hlt)))
          clear n1 n2 n4 n5 v2 v4
          obtain ⟨x, hxe⟩ : ∃ x, x = L.getD k 0 := ⟨_, rfl⟩
          rw [← hxe] at hx hsucc v1 hnm
          have hbx := ((unhide HB) x (by omega)).2.1
          have hro := hide (fun W (hb : Below wo.heap.size wo W) => (((unhide HB) x (by omega)).2.2.below T.b hbx).below hb (Nat.lt_of_lt_of_le hbx T.b.size))
          have hp := (unhide HV) x (by omega)
          have hpl : (ps.getD x []).length ≤ 1048570 := by have := tot_part ps x (by omega); omega
          have hpn : ps.getD x [] ≠ [] := by intro e; rw [e] at hp; simp at hp
          have hlx : lv x = .slice (some ⟨β x, δ x, none⟩) (ps.getD x []).length (γ x) := by rw [unhide HLV]
          rw [hlx] at v1
          clear hxe hmem hlx
          generalize ks.getD x ByteArray.empty = key at *
          generalize ps.getD x [] = p at *
          generalize β x = bx at *
          generalize δ x = dx at *
          generalize γ x = cx at *
          have hnews := hide (row_words ((unhide hro) _ ((unhide hbal) (.cells #[] 41))))
          have hone := hide (flat_one p)
          have HFL := hide (flat_length p)
          have hoe := hide (owns_empty5 wr 41)
          have hb63 : 0 + p.length ≤ maxLen := by unfold maxLen; omega
          have hby : (0 + p.length) * 56 ≤ 140737488355328 := by omega
          go_wp2_with (at_builtin; refine wpList_append_own _ rfl (.tmp 99) (.tmp 103) 24 rfl wr.heap.size 41 i0 _ 5 56 Try.underlying24 hi hz0 hz1 hz2 rfl (by decide) _ 0 [] rfl (unhide hoe) ⟨bx, dx, none⟩ p.length cx (flat p) rfl (unhide HFL) (unhide hnews) (unhide hone) hb63 hby (by simp) ?_)
          intro vm wm hom hgm _
          have hBm : Below wr.heap.size wr wm := ((Below.refl _ wr).alloc (Nat.le_refl _) _).grown hgm (by simp) (fun q hq => by simp only [Value.ownBlock, Option.some.injEq] at hq; omega)
          have hBo : Below wo.heap.size wo wm := hbel.trans (hBm.mono hbel.size)
          obtain ⟨mb, mc, rfl, hmb, hmlt⟩ := hom.form (by omega)
          have nn := (unhide hnm) wm hBo
          have hz := hom.frozenAt 3
          obtain ⟨u, hu⟩ := some_of_lt (xs := flat p) (j := 3) (by rw [unhide HFL]; omega)
          have hcm := (hom.cellAt 3 (by omega)).trans hu
          have hstm := hide ((hom.stored 3 (.string key)).1)
          have hfs := hide (show (flat p).set 3 (.string key) = flat (setKey p key) by have := (unhide HFS) [] p key hpn; simpa using this)
          rw [unhide hfs] at hstm
          have hown2 := hide (owns_below hown hBm)
          have hpl0 : (0 : Int) < (p.length : Int) := by omega
          have hown3 := hide (owns_setFar (owns_below hown hBm) mb 3 (.string key) (fun g hg => by have := owns_lt hown g hg; omega))
          have hbse := hide (ownsRow_base hown)
          have hnews3 := hide (show ∀ j u, (flat (setKey p key))[j]? = some u → (wm.setCell ⟨mb, 3, none⟩ (.string key)).cell? ((⟨mb, 0, none⟩ : Addr).add j) = some u from fun j u hu => by
            have hj := (List.getElem?_eq_some_iff.1 hu).1
            rw [flat_length, setKey_length] at hj
            rw [add_plain, Nat.zero_add]
            exact ((unhide hstm).cellAt j (by omega)).trans hu)
          have hone3 := hide (flat_one (setKey p key))
          have HFL3 := hide (show (flat (setKey p key)).length = p.length * 5 by rw [flat_length, setKey_length])
          have hsu := hide (show flat (objK ks ps L k) ++ flat (setKey p key) = flat (objK ks ps L (k + 1)) by rw [unhide hsucc, flat_append])
          have hsul := hide (show (objK ks ps L k).length + p.length = (objK ks ps L (k + 1)).length by rw [unhide hsucc, List.length_append, setKey_length])
          have hBs := hide (hBo.setCell (p := ⟨mb, 3, none⟩) (Nat.le_trans hbel.size hmb) (.string key))
          have hb633 : (objK ks ps L k).length + p.length ≤ maxLen := by unfold maxLen; omega
          have hby3 : ((objK ks ps L k).length + p.length) * 56 ≤ 140737488355328 := by omega
          have hbase3 : wo.heap.size ≤ (wm.setCell ⟨mb, 3, none⟩ (.string key)).heap.size := (unhide hBs).size
          generalize objK ks ps L k = OK at *
          clear hgm hom hu hnews hoe v1 hfs hown hstm hown2 hb63 hby hsucc
          go_wp2_with (at_builtin; refine wpList_append_own _ rfl (.tmp 112) (.tmp 113) 24 rfl wo.heap.size 41 i0 _ 5 56 Try.underlying24 hi hz0 hz1 hz2 rfl (by decide) _ OK.length _ rfl (unhide hown3) ⟨mb, 0, none⟩ p.length mc (flat (setKey p key)) rfl (unhide HFL3) (unhide hnews3) (unhide hone3) hb633 hby3 hbase3 ?_)
          intro v3' w3 ho3 hg3 _
          rw [unhide hsu, unhide hsul] at ho3
          have B3 : Below wo.heap.size wo w3 := (unhide hBs).grown hg3 hbase3 (unhide hbse)
          have HO3 := hide ho3
          clear ho3 hg3
          go_wp2_with fail
          go_roundg (L.length - (k + 1))
          case rel => exact ⟨k + 1, rfl, by go_num, by omega, unhide HO3, B3⟩
          case measure => have := hg.out; omega
        · have hke : k = L.length := by omega
          subst hke
          have hol := (unhide hL200) L.length
          have hlL : L.length ≤ 4096 := Nat.le_trans hsl hn
          have fin := hide (show Res wr w.heap.size u9 (objV ks ps) by rw [unhide hfin]; exact (res_of_owns hown (by omega)).mono T.b.size)
          have B9 : Below w.heap.size w wr := T.b.trans (hbel.mono T.b.size)
          clear hown
          go_wp2_with fail
          go_ret
          exact ⟨_, rfl, unhide fin, B9⟩

theorem objV_nil : objV [] [] = [headCl 6 0] := rfl
set_option maxHeartbeats 1000000 in
theorem l1Object_none (a a' : Option Addr) (kc lc : Nat) (w : World) :
    Calls Try.prog 31 #[.slice a 0 kc, .slice a' 0 lc] w fun e w' => ∃ s, e = .returned s ∧ Res w' w.heap.size s (objV [] []) ∧ Below w.heap.size w w' := by
  go_enter Try.func31, Try.ntmps31
  go_wp2_with fail
  refine wp_loop_rounds 1 ?_
  rw [rounds_succ]
  go_wp2_with fail
  refine wp_loop_rounds 1 ?_
  rw [rounds_succ]
  go_wp2_with fail
  go_ret
  refine ⟨_, rfl, ?_, ?_⟩
  · rw [objV_nil]; exact res_of_owns (one_own ((w.alloc _).alloc _) w.heap.size _ (headCl 6 0) (by simp) (by simp; omega)) (by simp)
  · exact (((Below.refl _ _).alloc (Nat.le_refl _) _).alloc (by simp) _).alloc (by simp; omega) _

theorem l1ObjectB_any (a a' : Option Addr) (kc lc : Nat) (ks : List ByteArray) (ps : List (List M.Cl)) (w : World) (hK : TV w a ks) (hL : LV w a' ps) (hkc : ks.length ≤ kc) (hlc : ps.length ≤ lc) (hlen : ks.length = ps.length) (hn : ks.length ≤ 4096) (hv : ∀ j, j < ps.length → 1 ≤ (ps.getD j []).length) (ht : tot ps ps.length ≤ 1048570) :
    Calls Try.prog 31 #[.slice a ks.length kc, .slice a' ps.length lc] w fun e w' => ∃ s, e = .returned s ∧ Res w' w.heap.size s (objV ks ps) ∧ Below w.heap.size w w' := by
  by_cases h0 : ks.length = 0
  · have h1 : ks = [] := List.length_eq_zero_iff.1 h0
    have h2 : ps = [] := List.length_eq_zero_iff.1 (by omega)
    subst h1 h2
    exact l1Object_none a a' kc lc w
  · obtain ⟨g, rfl, hg, _⟩ := hK 0 (by omega)
    obtain ⟨g', _, _, _, rfl, hg', _⟩ := hL 0 (by omega)
    refine l1ObjectW_any g g' kc lc ks ps w hg hg' hkc hlc (fun i hi => ?_) (fun i hi => ?_) hlen hn hv ht
    · obtain ⟨k, e, _, hk⟩ := hK i hi
      cases e
      exact hk
    · obtain ⟨k, b, off, c, e, _, hk, _, hb, hr⟩ := hL i hi
      cases e
      exact ⟨(b, off, c), hk, hb, hr⟩
end Go.Proofs.Ytlmibdddfjbbdaa
