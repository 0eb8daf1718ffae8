/-
  spec.l3Sort and spec.SortOf.
-/
import Derived.Test.YtmeofjefhkdbgaaQ43
namespace Go.Proofs.Ytmeofjefhkdbgaa
open Go.RowKit Go.WideShapes
set_option linter.unusedVariables false
set_option linter.unusedSimpArgs false

set_option maxRecDepth 100000 in
set_option maxHeartbeats 40000000 in
theorem l3Sort_arr (v : List M.Cl) (b off cap : Nat) (w : World) (hv : M.valueFault v = 0) (hrow : Row w b off v) (hb : b < w.heap.size) (hcap : v.length ≤ cap) (hok : ∀ c ∈ v, c.ok) (k5 : (v.getD 0 M.zero).kind = 5) :
    Calls Try.prog 28 #[.slice (some ⟨b, off, none⟩) v.length cap] w (Ans w (sortIn v)) := by
  have fin := hide (sort_5 k5)
  have hl1 := (M.fault_zero hv).1
  obtain ⟨w0, hw00⟩ : ∃ w0, w0 = w.alloc (.cells #[.int .i64 0, .slice none 0 0] 27) := ⟨_, rfl⟩
  have HR0 : Own w0 w.heap.size 27 [.int .i64 0, .slice none 0 0] := by rw [hw00]; exact ⟨_, heap_alloc_new _ _, rfl⟩
  have B00 : Below w.heap.size w w0 := by rw [hw00]; exact (Below.refl _ _).alloc (Nat.le_refl _) _
  obtain ⟨f0, _, _, _, _⟩ := (hrow.below B00 hb) 0 (by omega)
  simp only [Nat.zero_mul, Nat.add_zero] at f0
  rw [k5] at f0
  rw [hw00] at f0
  have HPF := hide (l1Parts_any v b off cap w0 hv (hrow.below B00 hb) (Nat.lt_of_lt_of_le hb B00.size) hcap hok)
  have hall := subs_all hv hok
  have h200 := hall.1
  have HVV := hide hall.2.1
  have HOKS := hide hall.2.2.1
  have HNE := hide hall.2.2.2
  have HF := hide (sorted_facts hv hok)
  obtain ⟨i2, hi2, hw0, hw1, hw2⟩ := info_parts Try.info24
  clear hall hv hrow hok k5
  go_enter Try.func28, Try.ntmps28
  go_wp2_with fail
  rw [← hw00]
  clear hw00 f0
  refine (unhide HPF).mono ?_
  rintro e1 wp ⟨s3, rfl, hs3, hb1⟩
  have B1 : Below w.heap.size w wp := B00.trans (hb1.mono B00.size)
  have hRp := HR0.below hb1 HR0.lt
  clear hb1 HPF HR0 B00
  generalize subs v 0 = ps at *
  obtain ⟨a3, c3, β, γ, hs3e, hc3, HP0⟩ := hs3.opened (unhide HNE)
  subst hs3e
  have HP := hide HP0
  clear hs3 HP0
  obtain ⟨lv, hlv⟩ : ∃ lv : Nat → Value, lv = fun p => .slice (some ⟨β p, 0, none⟩) (ps.getD p []).length (γ p) := ⟨_, rfl⟩
  have HLV := hide hlv
  have HPL := hide (show ∀ p, (lv p).oneCell' = true by rw [hlv]; intro p; rfl)
  clear hlv
  obtain ⟨n, hn⟩ : ∃ n, n = ps.length := ⟨_, rfl⟩
  have HN := hide hn
  rw [← hn] at hc3 h200 ⊢
  clear hn
  go_wp2_with fail
  go_loopg [4, 5] n (fun gh s4 s5 wr => ∃ (i vb vc : Nat), Hid (gh = n - i) ∧ s5 = .int .i64 i ∧ i ≤ n ∧ Hid (Sl wp wr lv (St.sortI ps i) s4 vb vc))
  case atStart =>
    exact ⟨0, wp.heap.size, 0, rfl, rfl, by omega, rfl, owns_empty (Nat.le_refl _) (heap_alloc_new _ _), (Below.refl _ _).alloc (Nat.le_refl _) _⟩
  case round =>
    obtain ⟨i, vb, vc, hg, rfl, hi, T⟩ := hrel
    have e4 := T.out.e4
    subst e4
    have hgood := St.good_sortI ps i
    have hsl := hgood.len
    have HG := hide hgood
    have HSL := hide hsl
    have hL200 : (St.sortI ps i).length ≤ 200 := by omega
    clear hsl
    have HSU := hide (St.good_sortI ps (i + 1))
    clear hgood
    by_cases hlt : i < n
    · generalize St.sortI ps i = L at *
      obtain ⟨gl, ha3, hgB, hgl, fc, hβ, _, hγ, hrw⟩ := (unhide HP) i (by rw [← unhide HN]; exact hlt)
      subst ha3
      have hiz : (i : Int) < (n : Int) := by omega
      have hli := hide (show lv i = .slice (some ⟨β i, 0, none⟩) (ps.getD i []).length (γ i) by rw [unhide HLV])
      have HRW := hide hrw
      have HIV := hide ((unhide HVV) i (by rw [← unhide HN]; exact hlt))
      have HIO := hide ((unhide HOKS) i (by rw [← unhide HN]; exact hlt))
      have HX : Hid (∀ (kp : Nat) (wr2 : World), kp < L.length → Below wp.heap.size wp wr2 → wr2.ownsRow wp.heap.size 24 1 (.slice (some ⟨vb, 0, none⟩) L.length vc) L.length (valsV lv L) → ∃ bx px cx : Nat, wr2.cell? ⟨vb, kp, none⟩ = some (.slice (some ⟨bx, 0, none⟩) px cx) ∧ Calls Try.prog 55 #[.slice (some ⟨bx, 0, none⟩) px cx, .slice (some ⟨β i, 0, none⟩) (ps.getD i []).length (γ i)] wr2.drew fun e w' => e = .returned (.int .i64 (St.cmpV ps (L.getD kp 0) i)) ∧ Below wr2.drew.heap.size wr2.drew w') := fun kp wr2 hk hB ho => by
        have hx : L.getD kp 0 < i := (unhide HG).mem _ |>.1 (by rw [List.getD_eq_getElem?_getD, List.getElem?_eq_getElem hk]; exact List.getElem_mem hk)
        have hx2 : L.getD kp 0 < ps.length := by have := unhide HN; omega
        obtain ⟨_, _, _, _, _, q5, _, q6, q7⟩ := (unhide HP) _ hx2
        refine ⟨β (L.getD kp 0), (ps.getD (L.getD kp 0) []).length, γ (L.getD kp 0), ?_, ?_⟩
        · rw [(owns_cell ho hk).1, valsV_get lv L kp hk, unhide HLV]
        · have hv1 := (unhide HVV) _ hx2
          have HB2 := hB.drew
          have hc := l1Compare_any _ (ps.getD (L.getD kp 0) []) (ps.getD i []) (β (L.getD kp 0)) 0 (γ (L.getD kp 0)) (β i) 0 (γ i) wr2.drew hv1 (unhide HIV) (Nat.le_refl _) (q7.below HB2 q5) (Nat.lt_of_lt_of_le q5 HB2.size) q6 ((unhide HOKS) _ hx2) ((unhide HRW).below HB2 hβ) (Nat.lt_of_lt_of_le hβ HB2.size) hγ (unhide HIO)
          rw [show cmpL (ps.getD (L.getD kp 0) []).length (ps.getD (L.getD kp 0) []) (ps.getD i []) = St.cmpV ps (L.getD kp 0) i by unfold St.cmpV; rw [St.vOf_eq hv1, St.vOf_eq (unhide HIV)]] at hc
          exact hc
      clear hrw hγ
      generalize (ps.getD i []).length = pl at *
      generalize β i = bi at *
      generalize γ i = ci at *
      go_wp2_with fail
      go_loopg [6] L.length (fun gh s6 wr2 => ∃ k : Nat, Hid (gh = k) ∧ s6 = .int .i64 k ∧ k ≤ L.length ∧ Hid (∀ j, k ≤ j → j < L.length → 0 < St.cmpV ps (L.getD j 0) i) ∧ Hid (Sl wp wr2 lv L (.slice (some ⟨vb, 0, none⟩) L.length vc) vb vc))
      case atStart => exact ⟨L.length, rfl, rfl, Nat.le_refl _, fun j h1 h2 => by omega, T⟩
      case round =>
        clear T
        obtain ⟨k, hg2, rfl, hk, hR, T2⟩ := hrel
        have fg : wr.cell? ⟨gl, i, none⟩ = some (.slice (some ⟨bi, 0, none⟩) pl ci) := (T2.out.b.cell (p := ⟨gl, i, none⟩) hgl).trans fc
        by_cases hk0 : 0 < k
        · obtain ⟨kp, rfl⟩ : ∃ q, k = q + 1 := ⟨k - 1, by omega⟩
          obtain ⟨bx, px, cx, fx, hcx⟩ := (unhide HX) kp wr (by omega) T2.out.b T2.out.v
          have HC := hide hcx
          have hkd : decide ((kp : Int) + 1 > 0) = true := decide_eq_true (by omega)
          have hk1z : (kp : Int) < (L.length : Int) := by omega
          have hp1 : (0 : Int) ≤ (kp : Int) := by omega
          have hw1 : IntKind.i64.wrap (kp : Int) = (kp : Int) := IntWalk.i64_in _ ⟨by omega, by omega⟩
          have hw2 : IntKind.i64.wrap ((kp : Int) + 1 - 1) = (kp : Int) := by rw [show ((kp : Int) + 1 - 1) = (kp : Int) by omega]; exact hw1
          have T2 := T2.out
          have hvb : vb < wr.heap.size := (owns_at T2.v).1
          clear hcx
          by_cases hc0 : 0 < St.cmpV ps (L.getD kp 0) i
          · have hR2 := hide (show ∀ j, kp ≤ j → j < L.length → 0 < St.cmpV ps (L.getD j 0) i from fun j j1 j2 => by
              by_cases e : j = kp
              · rw [e]; exact hc0
              · exact hR.out j (by omega) j2)
            generalize St.cmpV ps (L.getD kp 0) i = c at *
            have hcd : decide (c > 0) = true := decide_eq_true hc0
            go_wp2_with fail
            go_region_held3 (fun w' => w'.cell? ⟨vb, kp, none⟩ = some (.slice (some ⟨bx, 0, none⟩) px cx) ∧ w'.cell? ⟨gl, i, none⟩ = some (.slice (some ⟨bi, 0, none⟩) pl ci)) (first | (simp [go_sem, fx, fg]; done) | exact ⟨(hb7.cell (by exact hvb)).trans fx, (hb7.cell (by exact Nat.lt_of_lt_of_le hgl T2.b.size)).trans fg⟩)
              (first | (go_at_call 55; refine (unhide HC).mono ?_; rintro ec w7 ⟨rfl, hb7⟩))
            have T7 := T2.drew.below hb7
            clear fx fg
            go_wp2_with fail
            go_roundg kp
            case rel => exact ⟨kp, rfl, by go_num, by omega, unhide hR2, T7⟩
            case measure => have := hg2.out; omega
          · have HNEW := hide (Good_new (unhide HG) (unhide HSU) hk hR.out (.inr (by simpa using hc0)))
            generalize St.cmpV ps (L.getD kp 0) i = c at *
            have hcd : decide (c > 0) = false := decide_eq_false hc0
            go_wp2_with fail
            go_region_held3 (fun w' => w'.cell? ⟨vb, kp, none⟩ = some (.slice (some ⟨bx, 0, none⟩) px cx) ∧ w'.cell? ⟨gl, i, none⟩ = some (.slice (some ⟨bi, 0, none⟩) pl ci)) (first | (simp [go_sem, fx, fg]; done) | exact ⟨(hb7.cell (by exact hvb)).trans fx, (hb7.cell (by exact Nat.lt_of_lt_of_le hgl T2.b.size)).trans fg⟩)
              (first | (go_at_call 55; refine (unhide HC).mono ?_; rintro ec w7 ⟨rfl, hb7⟩))
            have T7 := T2.drew.below hb7
            have g0 := (hb7.cell (p := ⟨gl, i, none⟩) (show gl < wr.drew.heap.size from Nat.lt_of_lt_of_le hgl T2.b.size)).trans fg
            have hgl2 : gl < w7.heap.size := Nat.lt_of_lt_of_le hgl T7.b.size
            clear fx fg HC HX hb7 hcd
            generalize w7 = wc at *
            obtain ⟨k, hkk⟩ : ∃ k, k = kp + 1 := ⟨_, rfl⟩
            have ekk : (kp : Int) + 1 = (k : Int) := by omega
            rw [← hkk] at hk HNEW
            simp only [ekk]
            clear ekk hkk hk1z hkd hR hg2 hk0 T2 hp1 hw1 hw2
            have OV := T7.v
            obtain ⟨hv1, hv2, hv3, hv4⟩ := owns_at OV
            have KEEPv := hide (show ∀ W, Below wc.heap.size wc W → (W.cell? ⟨gl, i, none⟩ = some (.slice (some ⟨bi, 0, none⟩) pl ci) ∧ Below wc.heap.size wc W) from fun W hb => ⟨(hb.cell (by exact hgl2)).trans g0, hb⟩)
            have hkv : (k : Int) ≤ (vc : Int) := by omega
            have hkL : (k : Int) ≤ (L.length : Int) := by omega
            have hkv2 : k ≤ vc := by omega
            by_cases hkl : k < L.length
            · have hvk : ¬ vc = k := by omega
              have N62v := hide (show ∀ W, Below wc.heap.size wc W → ∀ j u, ((valsV lv L).take k)[j]? = some u → W.cell? ((⟨vb, 0, none⟩ : Addr).add j) = some u from fun W hb j u hu => by
                have hj : j < k := by
                  have := (List.getElem?_eq_some_iff.1 hu).1
                  rw [List.length_take] at this; omega
                rw [add_plain, Nat.zero_add, hb.cell (by exact (owns_cell OV (show j < L.length by omega)).2.2.1), (owns_cell OV (show j < L.length by omega)).1, ← hu, List.getElem?_take, if_pos hj])
              have N72v := hide (show ∀ W, Below wc.heap.size wc W → ∀ j u, ((valsV lv L).drop k)[j]? = some u → W.cell? ((⟨vb, k, none⟩ : Addr).add j) = some u from fun W hb j u hu => by
                have hj : k + j < L.length := by
                  have := (List.getElem?_eq_some_iff.1 hu).1
                  rw [List.length_drop, valsV_length] at this; omega
                rw [add_plain, hb.cell (by exact (owns_cell OV hj).2.2.1), (owns_cell OV hj).1, ← hu, List.getElem?_drop])
              have P1v := hide (show ∀ u ∈ (valsV lv L).take k, u.oneCell' = true from fun u hu => valsV_plain lv L (unhide HPL) u (List.mem_of_mem_take hu))
              have P2v := hide (show ∀ u ∈ (valsV lv L).drop k, u.oneCell' = true from fun u hu => valsV_plain lv L (unhide HPL) u (List.mem_of_mem_drop hu))
              have L1v := hide (show ((valsV lv L).take k).length = k * 1 by rw [List.length_take, valsV_length]; omega)
              have L2v := hide (show ((valsV lv L).drop k).length = (L.length - k) * 1 by rw [List.length_drop, valsV_length]; omega)
              go_wp2_with fail
              go_region_held_law (fun w' => w'.cell? ⟨gl, i, none⟩ = some (.slice (some ⟨bi, 0, none⟩) pl ci) ∧ Below wc.heap.size wc w')
                (first | assumption | exact (unhide KEEPv) _ (by assumption) | exact (unhide KEEPv) _ (Below.refl _ _).drew | exact (unhide KEEPv) _ (below_alloc (And.right (by assumption))))
                (first
                  | (refine step_append_any ((wc.alloc (.cells #[] 24)).drew) rfl (.tmp 41) (.tmp 44) 29 rfl wc.heap.size 24 i2 (.slice none 0 0) 1 24 Try.underlying29 hi2 hw0 hw1 hw2 rfl (by decide) (.slice (some ⟨wc.heap.size, 0, none⟩) 0 0) 0 [] rfl (owns_empty (by omega) (heapE _ _)) _ _ _ ((valsV lv L).take k) rfl (unhide L1v) ((unhide N62v) _ (by exact And.right (by assumption))) (unhide P1v) (by unfold maxLen; omega) (by omega) (Below.size (B := wc.heap.size) (by exact And.right (by assumption))) ?_
                     intro v1 w1 ho1 hg1
                     have hB1 : Below wc.heap.size wc w1 := Below.grown (by exact And.right (by assumption)) hg1 (Below.size (B := wc.heap.size) (by exact And.right (by assumption))) (by intro q hq; simp only [Value.ownBlock, Option.some.injEq] at hq; omega))
                  | (refine step_append_any (((wc.alloc (.cells #[] 24)).alloc (.cells #[.slice (some ⟨bi, 0, none⟩) pl ci] 24)).drew) rfl (.tmp 41) (.tmp 44) 29 rfl wc.heap.size 24 i2 (.slice none 0 0) 1 24 Try.underlying29 hi2 hw0 hw1 hw2 rfl (by decide) (.slice (some ⟨wc.heap.size, 0, none⟩) 0 0) 0 [] rfl (owns_empty (by omega) (heapEK _ _ _)) _ _ _ ((valsV lv L).take k) rfl (unhide L1v) ((unhide N62v) _ (by exact And.right (by assumption))) (unhide P1v) (by unfold maxLen; omega) (by omega) (Below.size (B := wc.heap.size) (by exact And.right (by assumption))) ?_
                     intro v1 w1 ho1 hg1
                     have hB1 : Below wc.heap.size wc w1 := Below.grown (by exact And.right (by assumption)) hg1 (Below.size (B := wc.heap.size) (by exact And.right (by assumption))) (by intro q hq; simp only [Value.ownBlock, Option.some.injEq] at hq; omega)
                     have hk1 : w1.cell? ⟨wc.heap.size + 1, 0, none⟩ = some (.slice (some ⟨bi, 0, none⟩) pl ci) := (World.grownBy.cell_far hg1 ⟨wc.heap.size + 1, 0, none⟩ (by simp) (ne_own (wc.heap.size + 1) wc.heap.size 0 0 (by omega))).trans (cellEK _ _ _))
                  | (refine step_append_any (((wc.alloc (.cells #[.slice (some ⟨bi, 0, none⟩) pl ci] 24)).alloc (.cells #[] 24)).drew) rfl (.tmp 41) (.tmp 44) 29 rfl wc.heap.size 24 i2 (.slice none 0 0) 1 24 Try.underlying29 hi2 hw0 hw1 hw2 rfl (by decide) (.slice (some ⟨wc.heap.size + 1, 0, none⟩) 0 0) 0 [] rfl (owns_empty (by omega) (heapKE _ _ _)) _ _ _ ((valsV lv L).take k) rfl (unhide L1v) ((unhide N62v) _ (by exact And.right (by assumption))) (unhide P1v) (by unfold maxLen; omega) (by omega) (Below.size (B := wc.heap.size) (by exact And.right (by assumption))) ?_
                     intro v1 w1 ho1 hg1
                     have hB1 : Below wc.heap.size wc w1 := Below.grown (by exact And.right (by assumption)) hg1 (Below.size (B := wc.heap.size) (by exact And.right (by assumption))) (by intro q hq; simp only [Value.ownBlock, Option.some.injEq] at hq; omega)
                     have hk1 : w1.cell? ⟨wc.heap.size, 0, none⟩ = some (.slice (some ⟨bi, 0, none⟩) pl ci) := (World.grownBy.cell_far hg1 ⟨wc.heap.size, 0, none⟩ (by simp <;> omega) (ne_own wc.heap.size (wc.heap.size + 1) 0 0 (by omega))).trans (cellKE _ _ _))
                  | (refine step_append_any _ rfl (.tmp 45) (.tmp 50) 29 rfl wc.heap.size 24 i2 (.slice none 0 0) 1 24 Try.underlying29 hi2 hw0 hw1 hw2 rfl (by decide) _ (0 + k) _ rfl (by first | exact ho1 | exact ho1.alloc _) _ _ _ [.slice (some ⟨bi, 0, none⟩) pl ci] rfl rfl (one_of (by first | assumption | exact World.cell?_alloc_mark _ _ _ _ _ | simp)) (by intro u hu; simp only [List.mem_cons, List.not_mem_nil, or_false] at hu; subst hu; first | rfl | (rw [unhide HLV]; rfl)) (by unfold maxLen; omega) (by omega) (Below.size (B := wc.heap.size) (by exact And.right (by assumption))) ?_
                     intro v2 w2 ho2 hg2
                     have hB2 : Below wc.heap.size wc w2 := Below.grown (by exact And.right (by assumption)) hg2 (Below.size (B := wc.heap.size) (by exact And.right (by assumption))) (ownsRow_base ho1))
                  | (refine step_append_any _ rfl (.tmp 51) (.tmp 54) 29 rfl wc.heap.size 24 i2 (.slice none 0 0) 1 24 Try.underlying29 hi2 hw0 hw1 hw2 rfl (by decide) _ (0 + k + 1) _ rfl ho2 _ _ _ ((valsV lv L).drop k) rfl (by first | exact unhide L2v | (rw [unhide L2v]; congr 1; omega)) ((unhide N72v) _ (by exact And.right (by assumption))) (unhide P2v) (by unfold maxLen; omega) (by omega) (Below.size (B := wc.heap.size) (by exact And.right (by assumption))) ?_
                     intro vv wv ho3 hg3
                     have hB3v : Below wc.heap.size wc wv := Below.grown (by exact And.right (by assumption)) hg3 (Below.size (B := wc.heap.size) (by exact And.right (by assumption))) (ownsRow_base ho2)))
              all_goals
                have hV := hide (vals_ins lv L k i (by first | exact ho3 | (rw [show L.length - k = 0 by omega]; exact ho3)) hk (unhide hli))
                have hF := (unhide hV).form (by omega)
                obtain ⟨vb2, vc2, rfl, hvb2, _⟩ := hF
                have hT := hide (show Sl wp wv lv (St.sortI ps (i + 1)) (.slice (some ⟨vb2, 0, none⟩) (L.length + 1) vc2) vb2 vc2 from by
                  rw [← unhide HNEW]
                  have hl : (L.take k ++ [i] ++ L.drop k).length = L.length + 1 := by simp; omega
                  exact ⟨by rw [hl], by rw [hl]; exact ownsRow_mono (unhide hV) T7.b.size, T7.b.trans (hB3v.mono T7.b.size)⟩)
                clear ho3 hV OV T7
                go_wp2_with fail
                go_roundg (n - (i + 1))
                case rel => exact ⟨i + 1, vb2, vc2, rfl, by go_num, by omega, unhide hT⟩
                case measure => have := hg.out; omega
            · skip
              have N62v := hide (show ∀ W, Below wc.heap.size wc W → ∀ j u, ((valsV lv L).take k)[j]? = some u → W.cell? ((⟨vb, 0, none⟩ : Addr).add j) = some u from fun W hb j u hu => by
                have hj : j < k := by
                  have := (List.getElem?_eq_some_iff.1 hu).1
                  rw [List.length_take] at this; omega
                rw [add_plain, Nat.zero_add, hb.cell (by exact (owns_cell OV (show j < L.length by omega)).2.2.1), (owns_cell OV (show j < L.length by omega)).1, ← hu, List.getElem?_take, if_pos hj])
              have N72v := hide (show ∀ (W : World) (ad : Addr) j u, ((valsV lv L).drop k)[j]? = some u → W.cell? (ad.add j) = some u from fun W ad j u hu => by rw [List.drop_eq_nil_of_le (by rw [valsV_length]; omega)] at hu; simp at hu)
              have P1v := hide (show ∀ u ∈ (valsV lv L).take k, u.oneCell' = true from fun u hu => valsV_plain lv L (unhide HPL) u (List.mem_of_mem_take hu))
              have P2v := hide (show ∀ u ∈ (valsV lv L).drop k, u.oneCell' = true from fun u hu => valsV_plain lv L (unhide HPL) u (List.mem_of_mem_drop hu))
              have L1v := hide (show ((valsV lv L).take k).length = k * 1 by rw [List.length_take, valsV_length]; omega)
              have L2v := hide (show ((valsV lv L).drop k).length = (L.length - k) * 1 by rw [List.length_drop, valsV_length]; omega)
              by_cases hvk : k = vc
              · subst hvk
                go_wp2_with fail
                go_region_held_law (fun w' => w'.cell? ⟨gl, i, none⟩ = some (.slice (some ⟨bi, 0, none⟩) pl ci) ∧ Below wc.heap.size wc w')
                  (first | assumption | exact (unhide KEEPv) _ (by assumption) | exact (unhide KEEPv) _ (Below.refl _ _).drew | exact (unhide KEEPv) _ (below_alloc (And.right (by assumption))))
                  (first
                    | (refine step_append_any ((wc.alloc (.cells #[] 24)).drew) rfl (.tmp 41) (.tmp 44) 29 rfl wc.heap.size 24 i2 (.slice none 0 0) 1 24 Try.underlying29 hi2 hw0 hw1 hw2 rfl (by decide) (.slice (some ⟨wc.heap.size, 0, none⟩) 0 0) 0 [] rfl (owns_empty (by omega) (heapE _ _)) _ _ _ ((valsV lv L).take k) rfl (unhide L1v) ((unhide N62v) _ (by exact And.right (by assumption))) (unhide P1v) (by unfold maxLen; omega) (by omega) (Below.size (B := wc.heap.size) (by exact And.right (by assumption))) ?_
                       intro v1 w1 ho1 hg1
                       have hB1 : Below wc.heap.size wc w1 := Below.grown (by exact And.right (by assumption)) hg1 (Below.size (B := wc.heap.size) (by exact And.right (by assumption))) (by intro q hq; simp only [Value.ownBlock, Option.some.injEq] at hq; omega))
                    | (refine step_append_any (((wc.alloc (.cells #[] 24)).alloc (.cells #[.slice (some ⟨bi, 0, none⟩) pl ci] 24)).drew) rfl (.tmp 41) (.tmp 44) 29 rfl wc.heap.size 24 i2 (.slice none 0 0) 1 24 Try.underlying29 hi2 hw0 hw1 hw2 rfl (by decide) (.slice (some ⟨wc.heap.size, 0, none⟩) 0 0) 0 [] rfl (owns_empty (by omega) (heapEK _ _ _)) _ _ _ ((valsV lv L).take k) rfl (unhide L1v) ((unhide N62v) _ (by exact And.right (by assumption))) (unhide P1v) (by unfold maxLen; omega) (by omega) (Below.size (B := wc.heap.size) (by exact And.right (by assumption))) ?_
                       intro v1 w1 ho1 hg1
                       have hB1 : Below wc.heap.size wc w1 := Below.grown (by exact And.right (by assumption)) hg1 (Below.size (B := wc.heap.size) (by exact And.right (by assumption))) (by intro q hq; simp only [Value.ownBlock, Option.some.injEq] at hq; omega)
                       have hk1 : w1.cell? ⟨wc.heap.size + 1, 0, none⟩ = some (.slice (some ⟨bi, 0, none⟩) pl ci) := (World.grownBy.cell_far hg1 ⟨wc.heap.size + 1, 0, none⟩ (by simp) (ne_own (wc.heap.size + 1) wc.heap.size 0 0 (by omega))).trans (cellEK _ _ _))
                    | (refine step_append_any (((wc.alloc (.cells #[.slice (some ⟨bi, 0, none⟩) pl ci] 24)).alloc (.cells #[] 24)).drew) rfl (.tmp 41) (.tmp 44) 29 rfl wc.heap.size 24 i2 (.slice none 0 0) 1 24 Try.underlying29 hi2 hw0 hw1 hw2 rfl (by decide) (.slice (some ⟨wc.heap.size + 1, 0, none⟩) 0 0) 0 [] rfl (owns_empty (by omega) (heapKE _ _ _)) _ _ _ ((valsV lv L).take k) rfl (unhide L1v) ((unhide N62v) _ (by exact And.right (by assumption))) (unhide P1v) (by unfold maxLen; omega) (by omega) (Below.size (B := wc.heap.size) (by exact And.right (by assumption))) ?_
                       intro v1 w1 ho1 hg1
                       have hB1 : Below wc.heap.size wc w1 := Below.grown (by exact And.right (by assumption)) hg1 (Below.size (B := wc.heap.size) (by exact And.right (by assumption))) (by intro q hq; simp only [Value.ownBlock, Option.some.injEq] at hq; omega)
                       have hk1 : w1.cell? ⟨wc.heap.size, 0, none⟩ = some (.slice (some ⟨bi, 0, none⟩) pl ci) := (World.grownBy.cell_far hg1 ⟨wc.heap.size, 0, none⟩ (by simp <;> omega) (ne_own wc.heap.size (wc.heap.size + 1) 0 0 (by omega))).trans (cellKE _ _ _))
                    | (refine step_append_any _ rfl (.tmp 45) (.tmp 50) 29 rfl wc.heap.size 24 i2 (.slice none 0 0) 1 24 Try.underlying29 hi2 hw0 hw1 hw2 rfl (by decide) _ (0 + k) _ rfl (by first | exact ho1 | exact ho1.alloc _) _ _ _ [.slice (some ⟨bi, 0, none⟩) pl ci] rfl rfl (one_of (by first | assumption | exact World.cell?_alloc_mark _ _ _ _ _ | simp)) (by intro u hu; simp only [List.mem_cons, List.not_mem_nil, or_false] at hu; subst hu; first | rfl | (rw [unhide HLV]; rfl)) (by unfold maxLen; omega) (by omega) (Below.size (B := wc.heap.size) (by exact And.right (by assumption))) ?_
                       intro v2 w2 ho2 hg2
                       have hB2 : Below wc.heap.size wc w2 := Below.grown (by exact And.right (by assumption)) hg2 (Below.size (B := wc.heap.size) (by exact And.right (by assumption))) (ownsRow_base ho1))
                    | (refine step_append_any _ rfl (.tmp 51) (.tmp 54) 29 rfl wc.heap.size 24 i2 (.slice none 0 0) 1 24 Try.underlying29 hi2 hw0 hw1 hw2 rfl (by decide) _ (0 + k + 1) _ rfl ho2 _ _ _ ((valsV lv L).drop k) rfl (by first | exact unhide L2v | (rw [unhide L2v]; congr 1; omega)) ((unhide N72v) _ _) (unhide P2v) (by unfold maxLen; omega) (by omega) (Below.size (B := wc.heap.size) (by exact And.right (by assumption))) ?_
                       intro vv wv ho3 hg3
                       have hB3v : Below wc.heap.size wc wv := Below.grown (by exact And.right (by assumption)) hg3 (Below.size (B := wc.heap.size) (by exact And.right (by assumption))) (ownsRow_base ho2)))
                all_goals
                  have hV := hide (vals_ins lv L k i (by first | exact ho3 | (rw [show L.length - k = 0 by omega]; exact ho3)) hk (unhide hli))
                  have hF := (unhide hV).form (by omega)
                  obtain ⟨vb2, vc2, rfl, hvb2, _⟩ := hF
                  have hT := hide (show Sl wp wv lv (St.sortI ps (i + 1)) (.slice (some ⟨vb2, 0, none⟩) (L.length + 1) vc2) vb2 vc2 from by
                    rw [← unhide HNEW]
                    have hl : (L.take k ++ [i] ++ L.drop k).length = L.length + 1 := by simp; omega
                    exact ⟨by rw [hl], by rw [hl]; exact ownsRow_mono (unhide hV) T7.b.size, T7.b.trans (hB3v.mono T7.b.size)⟩)
                  clear ho3 hV OV T7
                  go_wp2_with fail
                  go_roundg (n - (i + 1))
                  case rel => exact ⟨i + 1, vb2, vc2, rfl, by go_num, by omega, unhide hT⟩
                  case measure => have := hg.out; omega
              · have hvk2 : ¬ vc = k := fun h => hvk h.symm
                go_wp2_with fail
                go_region_held_law (fun w' => w'.cell? ⟨gl, i, none⟩ = some (.slice (some ⟨bi, 0, none⟩) pl ci) ∧ Below wc.heap.size wc w')
                  (first | assumption | exact (unhide KEEPv) _ (by assumption) | exact (unhide KEEPv) _ (Below.refl _ _).drew | exact (unhide KEEPv) _ (below_alloc (And.right (by assumption))))
                  (first
                    | (refine step_append_any ((wc.alloc (.cells #[] 24)).drew) rfl (.tmp 41) (.tmp 44) 29 rfl wc.heap.size 24 i2 (.slice none 0 0) 1 24 Try.underlying29 hi2 hw0 hw1 hw2 rfl (by decide) (.slice (some ⟨wc.heap.size, 0, none⟩) 0 0) 0 [] rfl (owns_empty (by omega) (heapE _ _)) _ _ _ ((valsV lv L).take k) rfl (unhide L1v) ((unhide N62v) _ (by exact And.right (by assumption))) (unhide P1v) (by unfold maxLen; omega) (by omega) (Below.size (B := wc.heap.size) (by exact And.right (by assumption))) ?_
                       intro v1 w1 ho1 hg1
                       have hB1 : Below wc.heap.size wc w1 := Below.grown (by exact And.right (by assumption)) hg1 (Below.size (B := wc.heap.size) (by exact And.right (by assumption))) (by intro q hq; simp only [Value.ownBlock, Option.some.injEq] at hq; omega))
                    | (refine step_append_any (((wc.alloc (.cells #[] 24)).alloc (.cells #[.slice (some ⟨bi, 0, none⟩) pl ci] 24)).drew) rfl (.tmp 41) (.tmp 44) 29 rfl wc.heap.size 24 i2 (.slice none 0 0) 1 24 Try.underlying29 hi2 hw0 hw1 hw2 rfl (by decide) (.slice (some ⟨wc.heap.size, 0, none⟩) 0 0) 0 [] rfl (owns_empty (by omega) (heapEK _ _ _)) _ _ _ ((valsV lv L).take k) rfl (unhide L1v) ((unhide N62v) _ (by exact And.right (by assumption))) (unhide P1v) (by unfold maxLen; omega) (by omega) (Below.size (B := wc.heap.size) (by exact And.right (by assumption))) ?_
                       intro v1 w1 ho1 hg1
                       have hB1 : Below wc.heap.size wc w1 := Below.grown (by exact And.right (by assumption)) hg1 (Below.size (B := wc.heap.size) (by exact And.right (by assumption))) (by intro q hq; simp only [Value.ownBlock, Option.some.injEq] at hq; omega)
                       have hk1 : w1.cell? ⟨wc.heap.size + 1, 0, none⟩ = some (.slice (some ⟨bi, 0, none⟩) pl ci) := (World.grownBy.cell_far hg1 ⟨wc.heap.size + 1, 0, none⟩ (by simp) (ne_own (wc.heap.size + 1) wc.heap.size 0 0 (by omega))).trans (cellEK _ _ _))
                    | (refine step_append_any (((wc.alloc (.cells #[.slice (some ⟨bi, 0, none⟩) pl ci] 24)).alloc (.cells #[] 24)).drew) rfl (.tmp 41) (.tmp 44) 29 rfl wc.heap.size 24 i2 (.slice none 0 0) 1 24 Try.underlying29 hi2 hw0 hw1 hw2 rfl (by decide) (.slice (some ⟨wc.heap.size + 1, 0, none⟩) 0 0) 0 [] rfl (owns_empty (by omega) (heapKE _ _ _)) _ _ _ ((valsV lv L).take k) rfl (unhide L1v) ((unhide N62v) _ (by exact And.right (by assumption))) (unhide P1v) (by unfold maxLen; omega) (by omega) (Below.size (B := wc.heap.size) (by exact And.right (by assumption))) ?_
                       intro v1 w1 ho1 hg1
                       have hB1 : Below wc.heap.size wc w1 := Below.grown (by exact And.right (by assumption)) hg1 (Below.size (B := wc.heap.size) (by exact And.right (by assumption))) (by intro q hq; simp only [Value.ownBlock, Option.some.injEq] at hq; omega)
                       have hk1 : w1.cell? ⟨wc.heap.size, 0, none⟩ = some (.slice (some ⟨bi, 0, none⟩) pl ci) := (World.grownBy.cell_far hg1 ⟨wc.heap.size, 0, none⟩ (by simp <;> omega) (ne_own wc.heap.size (wc.heap.size + 1) 0 0 (by omega))).trans (cellKE _ _ _))
                    | (refine step_append_any _ rfl (.tmp 45) (.tmp 50) 29 rfl wc.heap.size 24 i2 (.slice none 0 0) 1 24 Try.underlying29 hi2 hw0 hw1 hw2 rfl (by decide) _ (0 + k) _ rfl (by first | exact ho1 | exact ho1.alloc _) _ _ _ [.slice (some ⟨bi, 0, none⟩) pl ci] rfl rfl (one_of (by first | assumption | exact World.cell?_alloc_mark _ _ _ _ _ | simp)) (by intro u hu; simp only [List.mem_cons, List.not_mem_nil, or_false] at hu; subst hu; first | rfl | (rw [unhide HLV]; rfl)) (by unfold maxLen; omega) (by omega) (Below.size (B := wc.heap.size) (by exact And.right (by assumption))) ?_
                       intro v2 w2 ho2 hg2
                       have hB2 : Below wc.heap.size wc w2 := Below.grown (by exact And.right (by assumption)) hg2 (Below.size (B := wc.heap.size) (by exact And.right (by assumption))) (ownsRow_base ho1))
                    | (refine step_append_any _ rfl (.tmp 51) (.tmp 54) 29 rfl wc.heap.size 24 i2 (.slice none 0 0) 1 24 Try.underlying29 hi2 hw0 hw1 hw2 rfl (by decide) _ (0 + k + 1) _ rfl ho2 _ _ _ ((valsV lv L).drop k) rfl (by first | exact unhide L2v | (rw [unhide L2v]; congr 1; omega)) ((unhide N72v) _ _) (unhide P2v) (by unfold maxLen; omega) (by omega) (Below.size (B := wc.heap.size) (by exact And.right (by assumption))) ?_
                       intro vv wv ho3 hg3
                       have hB3v : Below wc.heap.size wc wv := Below.grown (by exact And.right (by assumption)) hg3 (Below.size (B := wc.heap.size) (by exact And.right (by assumption))) (ownsRow_base ho2)))
                all_goals
                  have hV := hide (vals_ins lv L k i (by first | exact ho3 | (rw [show L.length - k = 0 by omega]; exact ho3)) hk (unhide hli))
                  have hF := (unhide hV).form (by omega)
                  obtain ⟨vb2, vc2, rfl, hvb2, _⟩ := hF
                  have hT := hide (show Sl wp wv lv (St.sortI ps (i + 1)) (.slice (some ⟨vb2, 0, none⟩) (L.length + 1) vc2) vb2 vc2 from by
                    rw [← unhide HNEW]
                    have hl : (L.take k ++ [i] ++ L.drop k).length = L.length + 1 := by simp; omega
                    exact ⟨by rw [hl], by rw [hl]; exact ownsRow_mono (unhide hV) T7.b.size, T7.b.trans (hB3v.mono T7.b.size)⟩)
                  clear ho3 hV OV T7
                  go_wp2_with fail
                  go_roundg (n - (i + 1))
                  case rel => exact ⟨i + 1, vb2, vc2, rfl, by go_num, by omega, unhide hT⟩
                  case measure => have := hg.out; omega
        · have HNEW := hide (Good_new (unhide HG) (unhide HSU) hk hR.out (.inl (by omega)))
          have hkd : decide ((k : Int) > 0) = false := decide_eq_false (by omega)
          have T2 := T2.out
          go_wp2_with fail
          go_quiet (fail)
          have T7 := T2.drewN nq
          have g0 : (wr.drewN nq).cell? ⟨gl, i, none⟩ = some (.slice (some ⟨bi, 0, none⟩) pl ci) := fg
          have hgl2 : gl < (wr.drewN nq).heap.size := Nat.lt_of_lt_of_le hgl T7.b.size
          clear fg HX T2
          generalize wr.drewN nq = wc at *
          clear hkd hR hg2 hk0
          have OV := T7.v
          obtain ⟨hv1, hv2, hv3, hv4⟩ := owns_at OV
          have KEEPv := hide (show ∀ W, Below wc.heap.size wc W → (W.cell? ⟨gl, i, none⟩ = some (.slice (some ⟨bi, 0, none⟩) pl ci) ∧ Below wc.heap.size wc W) from fun W hb => ⟨(hb.cell (by exact hgl2)).trans g0, hb⟩)
          have hkv : (k : Int) ≤ (vc : Int) := by omega
          have hkL : (k : Int) ≤ (L.length : Int) := by omega
          have hkv2 : k ≤ vc := by omega
          by_cases hkl : k < L.length
          · have hvk : ¬ vc = k := by omega
            have N62v := hide (show ∀ W, Below wc.heap.size wc W → ∀ j u, ((valsV lv L).take k)[j]? = some u → W.cell? ((⟨vb, 0, none⟩ : Addr).add j) = some u from fun W hb j u hu => by
              have hj : j < k := by
                have := (List.getElem?_eq_some_iff.1 hu).1
                rw [List.length_take] at this; omega
              rw [add_plain, Nat.zero_add, hb.cell (by exact (owns_cell OV (show j < L.length by omega)).2.2.1), (owns_cell OV (show j < L.length by omega)).1, ← hu, List.getElem?_take, if_pos hj])
            have N72v := hide (show ∀ W, Below wc.heap.size wc W → ∀ j u, ((valsV lv L).drop k)[j]? = some u → W.cell? ((⟨vb, k, none⟩ : Addr).add j) = some u from fun W hb j u hu => by
              have hj : k + j < L.length := by
                have := (List.getElem?_eq_some_iff.1 hu).1
                rw [List.length_drop, valsV_length] at this; omega
              rw [add_plain, hb.cell (by exact (owns_cell OV hj).2.2.1), (owns_cell OV hj).1, ← hu, List.getElem?_drop])
            have P1v := hide (show ∀ u ∈ (valsV lv L).take k, u.oneCell' = true from fun u hu => valsV_plain lv L (unhide HPL) u (List.mem_of_mem_take hu))
            have P2v := hide (show ∀ u ∈ (valsV lv L).drop k, u.oneCell' = true from fun u hu => valsV_plain lv L (unhide HPL) u (List.mem_of_mem_drop hu))
            have L1v := hide (show ((valsV lv L).take k).length = k * 1 by rw [List.length_take, valsV_length]; omega)
            have L2v := hide (show ((valsV lv L).drop k).length = (L.length - k) * 1 by rw [List.length_drop, valsV_length]; omega)
            go_wp2_with fail
            go_region_held_law (fun w' => w'.cell? ⟨gl, i, none⟩ = some (.slice (some ⟨bi, 0, none⟩) pl ci) ∧ Below wc.heap.size wc w')
              (first | assumption | exact (unhide KEEPv) _ (by assumption) | exact (unhide KEEPv) _ (Below.refl _ _).drew | exact (unhide KEEPv) _ (below_alloc (And.right (by assumption))))
              (first
                | (refine step_append_any ((wc.alloc (.cells #[] 24)).drew) rfl (.tmp 41) (.tmp 44) 29 rfl wc.heap.size 24 i2 (.slice none 0 0) 1 24 Try.underlying29 hi2 hw0 hw1 hw2 rfl (by decide) (.slice (some ⟨wc.heap.size, 0, none⟩) 0 0) 0 [] rfl (owns_empty (by omega) (heapE _ _)) _ _ _ ((valsV lv L).take k) rfl (unhide L1v) ((unhide N62v) _ (by exact And.right (by assumption))) (unhide P1v) (by unfold maxLen; omega) (by omega) (Below.size (B := wc.heap.size) (by exact And.right (by assumption))) ?_
                   intro v1 w1 ho1 hg1
                   have hB1 : Below wc.heap.size wc w1 := Below.grown (by exact And.right (by assumption)) hg1 (Below.size (B := wc.heap.size) (by exact And.right (by assumption))) (by intro q hq; simp only [Value.ownBlock, Option.some.injEq] at hq; omega))
                | (refine step_append_any (((wc.alloc (.cells #[] 24)).alloc (.cells #[.slice (some ⟨bi, 0, none⟩) pl ci] 24)).drew) rfl (.tmp 41) (.tmp 44) 29 rfl wc.heap.size 24 i2 (.slice none 0 0) 1 24 Try.underlying29 hi2 hw0 hw1 hw2 rfl (by decide) (.slice (some ⟨wc.heap.size, 0, none⟩) 0 0) 0 [] rfl (owns_empty (by omega) (heapEK _ _ _)) _ _ _ ((valsV lv L).take k) rfl (unhide L1v) ((unhide N62v) _ (by exact And.right (by assumption))) (unhide P1v) (by unfold maxLen; omega) (by omega) (Below.size (B := wc.heap.size) (by exact And.right (by assumption))) ?_
                   intro v1 w1 ho1 hg1
                   have hB1 : Below wc.heap.size wc w1 := Below.grown (by exact And.right (by assumption)) hg1 (Below.size (B := wc.heap.size) (by exact And.right (by assumption))) (by intro q hq; simp only [Value.ownBlock, Option.some.injEq] at hq; omega)
                   have hk1 : w1.cell? ⟨wc.heap.size + 1, 0, none⟩ = some (.slice (some ⟨bi, 0, none⟩) pl ci) := (World.grownBy.cell_far hg1 ⟨wc.heap.size + 1, 0, none⟩ (by simp) (ne_own (wc.heap.size + 1) wc.heap.size 0 0 (by omega))).trans (cellEK _ _ _))
                | (refine step_append_any (((wc.alloc (.cells #[.slice (some ⟨bi, 0, none⟩) pl ci] 24)).alloc (.cells #[] 24)).drew) rfl (.tmp 41) (.tmp 44) 29 rfl wc.heap.size 24 i2 (.slice none 0 0) 1 24 Try.underlying29 hi2 hw0 hw1 hw2 rfl (by decide) (.slice (some ⟨wc.heap.size + 1, 0, none⟩) 0 0) 0 [] rfl (owns_empty (by omega) (heapKE _ _ _)) _ _ _ ((valsV lv L).take k) rfl (unhide L1v) ((unhide N62v) _ (by exact And.right (by assumption))) (unhide P1v) (by unfold maxLen; omega) (by omega) (Below.size (B := wc.heap.size) (by exact And.right (by assumption))) ?_
                   intro v1 w1 ho1 hg1
                   have hB1 : Below wc.heap.size wc w1 := Below.grown (by exact And.right (by assumption)) hg1 (Below.size (B := wc.heap.size) (by exact And.right (by assumption))) (by intro q hq; simp only [Value.ownBlock, Option.some.injEq] at hq; omega)
                   have hk1 : w1.cell? ⟨wc.heap.size, 0, none⟩ = some (.slice (some ⟨bi, 0, none⟩) pl ci) := (World.grownBy.cell_far hg1 ⟨wc.heap.size, 0, none⟩ (by simp <;> omega) (ne_own wc.heap.size (wc.heap.size + 1) 0 0 (by omega))).trans (cellKE _ _ _))
                | (refine step_append_any _ rfl (.tmp 45) (.tmp 50) 29 rfl wc.heap.size 24 i2 (.slice none 0 0) 1 24 Try.underlying29 hi2 hw0 hw1 hw2 rfl (by decide) _ (0 + k) _ rfl (by first | exact ho1 | exact ho1.alloc _) _ _ _ [.slice (some ⟨bi, 0, none⟩) pl ci] rfl rfl (one_of (by first | assumption | exact World.cell?_alloc_mark _ _ _ _ _ | simp)) (by intro u hu; simp only [List.mem_cons, List.not_mem_nil, or_false] at hu; subst hu; first | rfl | (rw [unhide HLV]; rfl)) (by unfold maxLen; omega) (by omega) (Below.size (B := wc.heap.size) (by exact And.right (by assumption))) ?_
                   intro v2 w2 ho2 hg2
                   have hB2 : Below wc.heap.size wc w2 := Below.grown (by exact And.right (by assumption)) hg2 (Below.size (B := wc.heap.size) (by exact And.right (by assumption))) (ownsRow_base ho1))
                | (refine step_append_any _ rfl (.tmp 51) (.tmp 54) 29 rfl wc.heap.size 24 i2 (.slice none 0 0) 1 24 Try.underlying29 hi2 hw0 hw1 hw2 rfl (by decide) _ (0 + k + 1) _ rfl ho2 _ _ _ ((valsV lv L).drop k) rfl (by first | exact unhide L2v | (rw [unhide L2v]; congr 1; omega)) ((unhide N72v) _ (by exact And.right (by assumption))) (unhide P2v) (by unfold maxLen; omega) (by omega) (Below.size (B := wc.heap.size) (by exact And.right (by assumption))) ?_
                   intro vv wv ho3 hg3
                   have hB3v : Below wc.heap.size wc wv := Below.grown (by exact And.right (by assumption)) hg3 (Below.size (B := wc.heap.size) (by exact And.right (by assumption))) (ownsRow_base ho2)))
            all_goals
              have hV := hide (vals_ins lv L k i (by first | exact ho3 | (rw [show L.length - k = 0 by omega]; exact ho3)) hk (unhide hli))
              have hF := (unhide hV).form (by omega)
              obtain ⟨vb2, vc2, rfl, hvb2, _⟩ := hF
              have hT := hide (show Sl wp wv lv (St.sortI ps (i + 1)) (.slice (some ⟨vb2, 0, none⟩) (L.length + 1) vc2) vb2 vc2 from by
                rw [← unhide HNEW]
                have hl : (L.take k ++ [i] ++ L.drop k).length = L.length + 1 := by simp; omega
                exact ⟨by rw [hl], by rw [hl]; exact ownsRow_mono (unhide hV) T7.b.size, T7.b.trans (hB3v.mono T7.b.size)⟩)
              clear ho3 hV OV T7
              go_wp2_with fail
              go_roundg (n - (i + 1))
              case rel => exact ⟨i + 1, vb2, vc2, rfl, by go_num, by omega, unhide hT⟩
              case measure => have := hg.out; omega
          · skip
            have N62v := hide (show ∀ W, Below wc.heap.size wc W → ∀ j u, ((valsV lv L).take k)[j]? = some u → W.cell? ((⟨vb, 0, none⟩ : Addr).add j) = some u from fun W hb j u hu => by
              have hj : j < k := by
                have := (List.getElem?_eq_some_iff.1 hu).1
                rw [List.length_take] at this; omega
              rw [add_plain, Nat.zero_add, hb.cell (by exact (owns_cell OV (show j < L.length by omega)).2.2.1), (owns_cell OV (show j < L.length by omega)).1, ← hu, List.getElem?_take, if_pos hj])
            have N72v := hide (show ∀ (W : World) (ad : Addr) j u, ((valsV lv L).drop k)[j]? = some u → W.cell? (ad.add j) = some u from fun W ad j u hu => by rw [List.drop_eq_nil_of_le (by rw [valsV_length]; omega)] at hu; simp at hu)
            have P1v := hide (show ∀ u ∈ (valsV lv L).take k, u.oneCell' = true from fun u hu => valsV_plain lv L (unhide HPL) u (List.mem_of_mem_take hu))
            have P2v := hide (show ∀ u ∈ (valsV lv L).drop k, u.oneCell' = true from fun u hu => valsV_plain lv L (unhide HPL) u (List.mem_of_mem_drop hu))
            have L1v := hide (show ((valsV lv L).take k).length = k * 1 by rw [List.length_take, valsV_length]; omega)
            have L2v := hide (show ((valsV lv L).drop k).length = (L.length - k) * 1 by rw [List.length_drop, valsV_length]; omega)
            by_cases hvk : k = vc
            · subst hvk
              go_wp2_with fail
              go_region_held_law (fun w' => w'.cell? ⟨gl, i, none⟩ = some (.slice (some ⟨bi, 0, none⟩) pl ci) ∧ Below wc.heap.size wc w')
                (first | assumption | exact (unhide KEEPv) _ (by assumption) | exact (unhide KEEPv) _ (Below.refl _ _).drew | exact (unhide KEEPv) _ (below_alloc (And.right (by assumption))))
                (first
                  | (refine step_append_any ((wc.alloc (.cells #[] 24)).drew) rfl (.tmp 41) (.tmp 44) 29 rfl wc.heap.size 24 i2 (.slice none 0 0) 1 24 Try.underlying29 hi2 hw0 hw1 hw2 rfl (by decide) (.slice (some ⟨wc.heap.size, 0, none⟩) 0 0) 0 [] rfl (owns_empty (by omega) (heapE _ _)) _ _ _ ((valsV lv L).take k) rfl (unhide L1v) ((unhide N62v) _ (by exact And.right (by assumption))) (unhide P1v) (by unfold maxLen; omega) (by omega) (Below.size (B := wc.heap.size) (by exact And.right (by assumption))) ?_
                     intro v1 w1 ho1 hg1
                     have hB1 : Below wc.heap.size wc w1 := Below.grown (by exact And.right (by assumption)) hg1 (Below.size (B := wc.heap.size) (by exact And.right (by assumption))) (by intro q hq; simp only [Value.ownBlock, Option.some.injEq] at hq; omega))
                  | (refine step_append_any (((wc.alloc (.cells #[] 24)).alloc (.cells #[.slice (some ⟨bi, 0, none⟩) pl ci] 24)).drew) rfl (.tmp 41) (.tmp 44) 29 rfl wc.heap.size 24 i2 (.slice none 0 0) 1 24 Try.underlying29 hi2 hw0 hw1 hw2 rfl (by decide) (.slice (some ⟨wc.heap.size, 0, none⟩) 0 0) 0 [] rfl (owns_empty (by omega) (heapEK _ _ _)) _ _ _ ((valsV lv L).take k) rfl (unhide L1v) ((unhide N62v) _ (by exact And.right (by assumption))) (unhide P1v) (by unfold maxLen; omega) (by omega) (Below.size (B := wc.heap.size) (by exact And.right (by assumption))) ?_
                     intro v1 w1 ho1 hg1
                     have hB1 : Below wc.heap.size wc w1 := Below.grown (by exact And.right (by assumption)) hg1 (Below.size (B := wc.heap.size) (by exact And.right (by assumption))) (by intro q hq; simp only [Value.ownBlock, Option.some.injEq] at hq; omega)
                     have hk1 : w1.cell? ⟨wc.heap.size + 1, 0, none⟩ = some (.slice (some ⟨bi, 0, none⟩) pl ci) := (World.grownBy.cell_far hg1 ⟨wc.heap.size + 1, 0, none⟩ (by simp) (ne_own (wc.heap.size + 1) wc.heap.size 0 0 (by omega))).trans (cellEK _ _ _))
                  | (refine step_append_any (((wc.alloc (.cells #[.slice (some ⟨bi, 0, none⟩) pl ci] 24)).alloc (.cells #[] 24)).drew) rfl (.tmp 41) (.tmp 44) 29 rfl wc.heap.size 24 i2 (.slice none 0 0) 1 24 Try.underlying29 hi2 hw0 hw1 hw2 rfl (by decide) (.slice (some ⟨wc.heap.size + 1, 0, none⟩) 0 0) 0 [] rfl (owns_empty (by omega) (heapKE _ _ _)) _ _ _ ((valsV lv L).take k) rfl (unhide L1v) ((unhide N62v) _ (by exact And.right (by assumption))) (unhide P1v) (by unfold maxLen; omega) (by omega) (Below.size (B := wc.heap.size) (by exact And.right (by assumption))) ?_
                     intro v1 w1 ho1 hg1
                     have hB1 : Below wc.heap.size wc w1 := Below.grown (by exact And.right (by assumption)) hg1 (Below.size (B := wc.heap.size) (by exact And.right (by assumption))) (by intro q hq; simp only [Value.ownBlock, Option.some.injEq] at hq; omega)
                     have hk1 : w1.cell? ⟨wc.heap.size, 0, none⟩ = some (.slice (some ⟨bi, 0, none⟩) pl ci) := (World.grownBy.cell_far hg1 ⟨wc.heap.size, 0, none⟩ (by simp <;> omega) (ne_own wc.heap.size (wc.heap.size + 1) 0 0 (by omega))).trans (cellKE _ _ _))
                  | (refine step_append_any _ rfl (.tmp 45) (.tmp 50) 29 rfl wc.heap.size 24 i2 (.slice none 0 0) 1 24 Try.underlying29 hi2 hw0 hw1 hw2 rfl (by decide) _ (0 + k) _ rfl (by first | exact ho1 | exact ho1.alloc _) _ _ _ [.slice (some ⟨bi, 0, none⟩) pl ci] rfl rfl (one_of (by first | assumption | exact World.cell?_alloc_mark _ _ _ _ _ | simp)) (by intro u hu; simp only [List.mem_cons, List.not_mem_nil, or_false] at hu; subst hu; first | rfl | (rw [unhide HLV]; rfl)) (by unfold maxLen; omega) (by omega) (Below.size (B := wc.heap.size) (by exact And.right (by assumption))) ?_
                     intro v2 w2 ho2 hg2
                     have hB2 : Below wc.heap.size wc w2 := Below.grown (by exact And.right (by assumption)) hg2 (Below.size (B := wc.heap.size) (by exact And.right (by assumption))) (ownsRow_base ho1))
                  | (refine step_append_any _ rfl (.tmp 51) (.tmp 54) 29 rfl wc.heap.size 24 i2 (.slice none 0 0) 1 24 Try.underlying29 hi2 hw0 hw1 hw2 rfl (by decide) _ (0 + k + 1) _ rfl ho2 _ _ _ ((valsV lv L).drop k) rfl (by first | exact unhide L2v | (rw [unhide L2v]; congr 1; omega)) ((unhide N72v) _ _) (unhide P2v) (by unfold maxLen; omega) (by omega) (Below.size (B := wc.heap.size) (by exact And.right (by assumption))) ?_
                     intro vv wv ho3 hg3
                     have hB3v : Below wc.heap.size wc wv := Below.grown (by exact And.right (by assumption)) hg3 (Below.size (B := wc.heap.size) (by exact And.right (by assumption))) (ownsRow_base ho2)))
              all_goals
                have hV := hide (vals_ins lv L k i (by first | exact ho3 | (rw [show L.length - k = 0 by omega]; exact ho3)) hk (unhide hli))
                have hF := (unhide hV).form (by omega)
                obtain ⟨vb2, vc2, rfl, hvb2, _⟩ := hF
                have hT := hide (show Sl wp wv lv (St.sortI ps (i + 1)) (.slice (some ⟨vb2, 0, none⟩) (L.length + 1) vc2) vb2 vc2 from by
                  rw [← unhide HNEW]
                  have hl : (L.take k ++ [i] ++ L.drop k).length = L.length + 1 := by simp; omega
                  exact ⟨by rw [hl], by rw [hl]; exact ownsRow_mono (unhide hV) T7.b.size, T7.b.trans (hB3v.mono T7.b.size)⟩)
                clear ho3 hV OV T7
                go_wp2_with fail
                go_roundg (n - (i + 1))
                case rel => exact ⟨i + 1, vb2, vc2, rfl, by go_num, by omega, unhide hT⟩
                case measure => have := hg.out; omega
            · have hvk2 : ¬ vc = k := fun h => hvk h.symm
              go_wp2_with fail
              go_region_held_law (fun w' => w'.cell? ⟨gl, i, none⟩ = some (.slice (some ⟨bi, 0, none⟩) pl ci) ∧ Below wc.heap.size wc w')
                (first | assumption | exact (unhide KEEPv) _ (by assumption) | exact (unhide KEEPv) _ (Below.refl _ _).drew | exact (unhide KEEPv) _ (below_alloc (And.right (by assumption))))
                (first
                  | (refine step_append_any ((wc.alloc (.cells #[] 24)).drew) rfl (.tmp 41) (.tmp 44) 29 rfl wc.heap.size 24 i2 (.slice none 0 0) 1 24 Try.underlying29 hi2 hw0 hw1 hw2 rfl (by decide) (.slice (some ⟨wc.heap.size, 0, none⟩) 0 0) 0 [] rfl (owns_empty (by omega) (heapE _ _)) _ _ _ ((valsV lv L).take k) rfl (unhide L1v) ((unhide N62v) _ (by exact And.right (by assumption))) (unhide P1v) (by unfold maxLen; omega) (by omega) (Below.size (B := wc.heap.size) (by exact And.right (by assumption))) ?_
                     intro v1 w1 ho1 hg1
                     have hB1 : Below wc.heap.size wc w1 := Below.grown (by exact And.right (by assumption)) hg1 (Below.size (B := wc.heap.size) (by exact And.right (by assumption))) (by intro q hq; simp only [Value.ownBlock, Option.some.injEq] at hq; omega))
                  | (refine step_append_any (((wc.alloc (.cells #[] 24)).alloc (.cells #[.slice (some ⟨bi, 0, none⟩) pl ci] 24)).drew) rfl (.tmp 41) (.tmp 44) 29 rfl wc.heap.size 24 i2 (.slice none 0 0) 1 24 Try.underlying29 hi2 hw0 hw1 hw2 rfl (by decide) (.slice (some ⟨wc.heap.size, 0, none⟩) 0 0) 0 [] rfl (owns_empty (by omega) (heapEK _ _ _)) _ _ _ ((valsV lv L).take k) rfl (unhide L1v) ((unhide N62v) _ (by exact And.right (by assumption))) (unhide P1v) (by unfold maxLen; omega) (by omega) (Below.size (B := wc.heap.size) (by exact And.right (by assumption))) ?_
                     intro v1 w1 ho1 hg1
                     have hB1 : Below wc.heap.size wc w1 := Below.grown (by exact And.right (by assumption)) hg1 (Below.size (B := wc.heap.size) (by exact And.right (by assumption))) (by intro q hq; simp only [Value.ownBlock, Option.some.injEq] at hq; omega)
                     have hk1 : w1.cell? ⟨wc.heap.size + 1, 0, none⟩ = some (.slice (some ⟨bi, 0, none⟩) pl ci) := (World.grownBy.cell_far hg1 ⟨wc.heap.size + 1, 0, none⟩ (by simp) (ne_own (wc.heap.size + 1) wc.heap.size 0 0 (by omega))).trans (cellEK _ _ _))
                  | (refine step_append_any (((wc.alloc (.cells #[.slice (some ⟨bi, 0, none⟩) pl ci] 24)).alloc (.cells #[] 24)).drew) rfl (.tmp 41) (.tmp 44) 29 rfl wc.heap.size 24 i2 (.slice none 0 0) 1 24 Try.underlying29 hi2 hw0 hw1 hw2 rfl (by decide) (.slice (some ⟨wc.heap.size + 1, 0, none⟩) 0 0) 0 [] rfl (owns_empty (by omega) (heapKE _ _ _)) _ _ _ ((valsV lv L).take k) rfl (unhide L1v) ((unhide N62v) _ (by exact And.right (by assumption))) (unhide P1v) (by unfold maxLen; omega) (by omega) (Below.size (B := wc.heap.size) (by exact And.right (by assumption))) ?_
                     intro v1 w1 ho1 hg1
                     have hB1 : Below wc.heap.size wc w1 := Below.grown (by exact And.right (by assumption)) hg1 (Below.size (B := wc.heap.size) (by exact And.right (by assumption))) (by intro q hq; simp only [Value.ownBlock, Option.some.injEq] at hq; omega)
                     have hk1 : w1.cell? ⟨wc.heap.size, 0, none⟩ = some (.slice (some ⟨bi, 0, none⟩) pl ci) := (World.grownBy.cell_far hg1 ⟨wc.heap.size, 0, none⟩ (by simp <;> omega) (ne_own wc.heap.size (wc.heap.size + 1) 0 0 (by omega))).trans (cellKE _ _ _))
                  | (refine step_append_any _ rfl (.tmp 45) (.tmp 50) 29 rfl wc.heap.size 24 i2 (.slice none 0 0) 1 24 Try.underlying29 hi2 hw0 hw1 hw2 rfl (by decide) _ (0 + k) _ rfl (by first | exact ho1 | exact ho1.alloc _) _ _ _ [.slice (some ⟨bi, 0, none⟩) pl ci] rfl rfl (one_of (by first | assumption | exact World.cell?_alloc_mark _ _ _ _ _ | simp)) (by intro u hu; simp only [List.mem_cons, List.not_mem_nil, or_false] at hu; subst hu; first | rfl | (rw [unhide HLV]; rfl)) (by unfold maxLen; omega) (by omega) (Below.size (B := wc.heap.size) (by exact And.right (by assumption))) ?_
                     intro v2 w2 ho2 hg2
                     have hB2 : Below wc.heap.size wc w2 := Below.grown (by exact And.right (by assumption)) hg2 (Below.size (B := wc.heap.size) (by exact And.right (by assumption))) (ownsRow_base ho1))
                  | (refine step_append_any _ rfl (.tmp 51) (.tmp 54) 29 rfl wc.heap.size 24 i2 (.slice none 0 0) 1 24 Try.underlying29 hi2 hw0 hw1 hw2 rfl (by decide) _ (0 + k + 1) _ rfl ho2 _ _ _ ((valsV lv L).drop k) rfl (by first | exact unhide L2v | (rw [unhide L2v]; congr 1; omega)) ((unhide N72v) _ _) (unhide P2v) (by unfold maxLen; omega) (by omega) (Below.size (B := wc.heap.size) (by exact And.right (by assumption))) ?_
                     intro vv wv ho3 hg3
                     have hB3v : Below wc.heap.size wc wv := Below.grown (by exact And.right (by assumption)) hg3 (Below.size (B := wc.heap.size) (by exact And.right (by assumption))) (ownsRow_base ho2)))
              all_goals
                have hV := hide (vals_ins lv L k i (by first | exact ho3 | (rw [show L.length - k = 0 by omega]; exact ho3)) hk (unhide hli))
                have hF := (unhide hV).form (by omega)
                obtain ⟨vb2, vc2, rfl, hvb2, _⟩ := hF
                have hT := hide (show Sl wp wv lv (St.sortI ps (i + 1)) (.slice (some ⟨vb2, 0, none⟩) (L.length + 1) vc2) vb2 vc2 from by
                  rw [← unhide HNEW]
                  have hl : (L.take k ++ [i] ++ L.drop k).length = L.length + 1 := by simp; omega
                  exact ⟨by rw [hl], by rw [hl]; exact ownsRow_mono (unhide hV) T7.b.size, T7.b.trans (hB3v.mono T7.b.size)⟩)
                clear ho3 hV OV T7
                go_wp2_with fail
                go_roundg (n - (i + 1))
                case rel => exact ⟨i + 1, vb2, vc2, rfl, by go_num, by omega, unhide hT⟩
                case measure => have := hg.out; omega
    · have hke : i = n := by omega
      subst hke
      have hin : i = ps.length := unhide HN
      have T := T.out
      have hLV : LV wr (some ⟨vb, 0, none⟩) (sortedP ps) := fun j hj => by
        obtain ⟨x, hx, x1, x2⟩ := sortedP_at hj
        obtain ⟨_, _, _, _, _, q5, _, q6, q7⟩ := (unhide HP) x hx
        have hjL : j < (St.sortI ps i).length := by rw [unhide HSL, hin, ← sortedP_length]; exact hj
        refine ⟨vb, β x, 0, γ x, rfl, (owns_at T.v).1, ?_, by rw [x1]; exact q6, Nat.lt_of_lt_of_le q5 T.b.size, by rw [x1]; exact q7.below T.b q5⟩
        rw [(owns_cell T.v hjL).1, valsV_get lv _ j hjL, unhide HLV, x1, hin, x2]
      have hlen : (St.sortI ps i).length = (sortedP ps).length := by rw [unhide HSL, sortedP_length, ← hin]
      have hvc : (sortedP ps).length ≤ vc := by rw [← hlen]; exact (owns_at T.v).2.2.1
      have BR : Below w.heap.size w wr := B1.trans (T.b.mono B1.size)
      have hRr := hRp.below T.b hRp.lt
      have hwr : w.heap.size < wr.heap.size := hRr.lt
      have HF1 := hide (show (sortedP ps).length ≤ 4096 by have := (unhide HF).1; omega)
      have HF2 := hide (unhide HF).2.1
      rw [hlen]
      clear T HF HG HSU hlen hin HP HLV HSL hL200
      generalize sortedP ps = SP at *
      go_wp2_with fail
      refine (l1ArrayV_any (some ⟨vb, 0, none⟩) vc SP _ hLV hvc (unhide HF1) (unhide HF2)).mono ?_
      rintro e6 w6 ⟨s6, rfl, hr6, hb6⟩
      have hR6 := hRr.below hb6 hRr.lt
      have r0 := hR6.cell 0
      have r1 := hR6.cell 1
      have z0 := hR6.frozen 0
      have z1 := hR6.frozen 1
      simp only [List.getElem?_cons_zero, List.getElem?_cons_succ] at r0 r1
      have HE := hide (Ans.store hr6 BR hwr hb6)
      obtain ⟨ac, mc, cc, rfl⟩ := hr6.shape
      clear hr6 hb6 hLV
      go_wp2_with fail
      refine bodyPost_ret (v := .agg #[.int .i64 0, .slice ac mc cc]) (by simp [results, Try.results28, go_sem, r0, r1]) rfl (ans_of (unhide fin) ((unhide HE) _ _).1 ((unhide HE) _ _).2)

set_option maxRecDepth 100000 in
set_option maxHeartbeats 2000000 in
theorem l3Sort_no (v : List M.Cl) (b off cap : Nat) (w : World) (hv : M.valueFault v = 0) (hrow : Row w b off v) (hb : b < w.heap.size) (hcap : v.length ≤ cap) (k5 : (v.getD 0 M.zero).kind ≠ 5) :
    Calls Try.prog 28 #[.slice (some ⟨b, off, none⟩) v.length cap] w (Ans w (sortIn v)) := by
  have fin := hide (sort_no k5)
  have hl1 := (M.fault_zero hv).1
  obtain ⟨w0, hw00⟩ : ∃ w0, w0 = w.alloc (.cells #[.int .i64 0, .slice none 0 0] 27) := ⟨_, rfl⟩
  have HR0 : Own w0 w.heap.size 27 [.int .i64 0, .slice none 0 0] := by rw [hw00]; exact ⟨_, heap_alloc_new _ _, rfl⟩
  have B00 : Below w.heap.size w w0 := by rw [hw00]; exact (Below.refl _ _).alloc (Nat.le_refl _) _
  obtain ⟨f0, _, _, _, _⟩ := (hrow.below B00 hb) 0 (by omega)
  simp only [Nat.zero_mul, Nat.add_zero] at f0
  rw [hw00] at f0
  clear hv hrow hcap
  generalize v.getD 0 M.zero = c at *
  generalize c.kind = x at *
  have e5 : (x != 5) = true := by simpa using k5
  have e5' : (x == 5) = false := by simpa using k5
  clear k5
  go_enter Try.func28, Try.ntmps28
  go_wp2_with fail
  rw [← hw00]
  refine (l3Bad_any _ _).mono ?_
  rintro ec wc ⟨sc, rfl, hrc, hbc⟩
  have hRc := HR0.below hbc HR0.lt
  have r0 := hRc.cell 0
  have r1 := hRc.cell 1
  have z0 := hRc.frozen 0
  have z1 := hRc.frozen 1
  simp only [List.getElem?_cons_zero, List.getElem?_cons_succ] at r0 r1
  have HE := hide (Ans.store hrc B00 HR0.lt hbc)
  obtain ⟨ac, mc, cc, rfl⟩ := hrc.shape
  clear hrc hbc f0
  go_wp2_with fail
  refine bodyPost_ret (v := .agg #[.int .i64 6, .slice ac mc cc]) (by simp [results, Try.results28, go_sem, r0, r1]) rfl (ans_of (unhide fin) ((unhide HE) _ _).1 ((unhide HE) _ _).2)

set_option maxRecDepth 100000 in
set_option maxHeartbeats 2000000 in
theorem specSortOf_any (v : List M.Cl) (b off cap : Nat) (w : World) (hrow : Row w b off v) (hb : b < w.heap.size) (hn : v.length ≤ 1048576) (hcap : v.length ≤ cap) (hok : ∀ c ∈ v, c.ok) :
    Calls Try.prog 8 #[.slice (some ⟨b, off, none⟩) v.length cap] w (Ans w (sortOut v)) := by
  have OK := hide hok
  have B0 : ∀ o, Below w.heap.size w (w.alloc o) := fun o => (Below.refl _ _).alloc (Nat.le_refl _) o
  have HB0 := hide B0
  clear B0
  clear hok
  go_enter Try.func8, Try.ntmps8
  go_wp2_with fail
  refine (specFault_any v b off cap _ (hrow.below ((unhide HB0) _) hb) (by simp; omega) hn hcap (unhide OK)).mono ?_
  rintro e1 w1 ⟨rfl, hb1⟩
  have hR : Own w1 w.heap.size 27 [.int .i64 0, .slice none 0 0] := Own.below ⟨_, heap_alloc_new _ _, rfl⟩ hb1 (by simp)
  have B1 : Below w.heap.size w w1 := ((unhide HB0) _).trans (hb1.mono (by simp))
  have hrow1 := hrow.below B1 hb
  have hb1' : b < w1.heap.size := Nat.lt_of_lt_of_le hb B1.size
  clear hb1
  generalize hq : M.valueFault v = q
  by_cases hz : q = 0
  · subst hz
    have fin := hide (sort_ok hq)
    have HG : Hid (Calls Try.prog 28 #[.slice (some ⟨b, off, none⟩) v.length cap] w1 (Ans w1 (sortIn v))) := by
      by_cases k5 : (v.getD 0 M.zero).kind = 5
      · exact l3Sort_arr v b off cap w1 hq hrow1 hb1' hcap (unhide OK) k5
      · exact l3Sort_no v b off cap w1 hq hrow1 hb1' hcap k5
    clear hq
    generalize sortIn v = R at *
    obtain ⟨rc, rl⟩ := R
    go_wp2_with fail
    refine (unhide HG).mono ?_
    rintro ec wc ⟨sc, rfl, hrc, hbc⟩
    have hRc := hR.below hbc hR.lt
    have r0 := hRc.cell 0
    have r1 := hRc.cell 1
    have z0 := hRc.frozen 0
    have z1 := hRc.frozen 1
    simp only [List.getElem?_cons_zero, List.getElem?_cons_succ] at r0 r1
    have HE := hide (Ans.store hrc B1 hR.lt hbc)
    obtain ⟨ac, mc, cc, rfl⟩ := hrc.shape
    clear hrc hbc
    go_wp2_with fail
    refine bodyPost_ret (v := .agg #[.int .i64 rc, .slice ac mc cc]) (by simp [results, Try.results8, go_sem, r0, r1]) rfl (ans_of (unhide fin) ((unhide HE) _ _).1 ((unhide HE) _ _).2)
  · have fin := hide ((sort_bad (by rw [hq]; exact hz)).trans (by rw [hq]))
    have hz' : (q == 0) = false := by simp [hz]
    clear hq
    go_wp2_with fail
    refine (l3Bad_any _ _).mono ?_
    rintro ec wc ⟨sc, rfl, hrc, hbc⟩
    have hRc := hR.below hbc hR.lt
    have r0 := hRc.cell 0
    have r1 := hRc.cell 1
    have z0 := hRc.frozen 0
    have z1 := hRc.frozen 1
    simp only [List.getElem?_cons_zero, List.getElem?_cons_succ] at r0 r1
    have HE := hide (Ans.store hrc B1 hR.lt hbc)
    obtain ⟨ac, mc, cc, rfl⟩ := hrc.shape
    clear hrc hbc
    go_wp2_with fail
    refine bodyPost_ret (v := .agg #[.int .i64 q, .slice ac mc cc]) (by simp [results, Try.results8, go_sem, r0, r1]) rfl (ans_of (unhide fin) ((unhide HE) _ _).1 ((unhide HE) _ _).2)

end Go.Proofs.Ytmeofjefhkdbgaa
