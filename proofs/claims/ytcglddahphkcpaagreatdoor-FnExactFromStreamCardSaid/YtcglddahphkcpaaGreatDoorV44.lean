/-
  spec.l15All: the events of a value, behind steps.
-/
import Derived.Test.YtcglddahphkcpaaGreatDoorV36
import Derived.Test.YtcglddahphkcpaaGreatDoorV38
import Derived.Test.YtcglddahphkcpaaGreatDoorV42
namespace Go.Proofs.YtcglddahphkcpaaGreatDoor
open Go.RowKit
set_option linter.unusedVariables false
set_option linter.unusedSimpArgs false
namespace Al
theorem ss_plain {w : World} {B : Nat} {ss : List Value} {ps : List (List M.Cl)} (h1 : ss.length = ps.length) (h2 : ∀ i, i < ps.length → Res w B (ss.getD i (.slice none 0 0)) (ps.getD i [])) : ∀ u ∈ ss, u.oneCell' = true := by
  intro u hu
  obtain ⟨i, hi, rfl⟩ := List.getElem_of_mem hu
  obtain ⟨a, n, c, e⟩ := (h2 i (by omega)).shape
  rw [List.getD_eq_getElem?_getD, List.getElem?_eq_getElem hi] at e
  simp only [Option.getD_some] at e
  rw [e]; rfl
theorem SS.app {w w' : World} {B : Nat} {s v' : Value} {L E : List (List M.Cl)} {ss ys : List Value} (h1 : ss.length = L.length) (hown : w.ownsRow B 24 1 s L.length ss) (h2 : ∀ i, i < L.length → Res w B (ss.getD i (.slice none 0 0)) (L.getD i [])) (h3 : ys.length = E.length) (h4 : ∀ i, i < E.length → Res w B (ys.getD i (.slice none 0 0)) (E.getD i [])) (hg : w.grownBy w' s.ownBlock) (ho : w'.ownsRow B 24 1 v' (L.length + ys.length) (ss ++ ys)) : SS w' B v' (L ++ E) := by
  have keep : ∀ (r : Value) (l : List M.Cl), Res w B r l → Res w' B r l := fun r l h => grown_res hown hg h (by decide)
  refine ⟨ss ++ ys, by simp [h1, h3], by rw [List.length_append, ← h3]; exact ho, fun i hi => ?_⟩
  by_cases e : i < L.length
  · rw [List.getD_eq_getElem?_getD, List.getElem?_append_left (by omega), ← List.getD_eq_getElem?_getD, List.getD_eq_getElem?_getD (l := L ++ E), List.getElem?_append_left e, ← List.getD_eq_getElem?_getD]
    exact keep _ _ (h2 i e)
  · rw [List.length_append] at hi
    rw [List.getD_eq_getElem?_getD, List.getElem?_append_right (by omega), h1, ← List.getD_eq_getElem?_getD, List.getD_eq_getElem?_getD (l := L ++ E), List.getElem?_append_right (by omega), ← List.getD_eq_getElem?_getD]
    exact keep _ _ (h4 (i - L.length) (by omega))
/-- Rows of slices lie in other blocks or are older than what grows. -/
theorem ss_grown {w w' : World} {B B' n : Nat} {s v : Value} {ps : List (List M.Cl)} {xs : List Value} (h : SS w B' s ps) (hown : w.ownsRow B 24 1 v n xs) (hne : 24 ≠ 111) (hg : w.grownBy w' v.ownBlock) (hd : ∀ g, s.ownBlock = some g → v.ownBlock ≠ some g) : SS w' B' s ps := by
  obtain ⟨ss, h1, ⟨q1, q2⟩, h3⟩ := h
  refine ⟨ss, h1, ⟨q1, ?_⟩, fun i hi => grown_res hown hg (h3 i hi) hne⟩
  rcases q2 with q2 | ⟨g, cap, cur, e1, r3, r4, r5⟩
  · exact .inl q2
  · exact .inr ⟨g, cap, cur, e1, r3, (hg.block g (Array.getElem?_eq_some_iff.1 r4).1 (fun e => hd g (by rw [e1]; rfl) e.symm)).trans r4, r5⟩
theorem ks_grown {w w' : World} {B B' n : Nat} {s v : Value} {ks : List ByteArray} {xs : List Value} (h : KS w B' s ks) (hown : w.ownsRow B 24 1 v n xs) (hne : 24 ≠ 9) (hg : w.grownBy w' v.ownBlock) : KS w' B' s ks := by
  obtain ⟨q1, q2⟩ := h
  refine ⟨q1, ?_⟩
  rcases q2 with q2 | ⟨g, cap, cur, e1, r3, r4, r5⟩
  · exact .inl q2
  · exact .inr ⟨g, cap, cur, e1, r3, (hg.block g (Array.getElem?_eq_some_iff.1 r4).1 (fun e => other_block hown (b := g) (t := 9) (ys := cur.toList) ⟨cur, r4, rfl⟩ hne e.symm)).trans r4, r5⟩
/-- Steps are kept when another row grows. -/
theorem PT.grown {w w' : World} {B n : Nat} {pa : Option Addr} {cs : List M.Cl} {v : Value} {xs : List Value} (h : PT w pa cs) (hown : w.ownsRow B 24 1 v n xs) (hg : w.grownBy w' v.ownBlock) (hd : ∀ g o, pa = some ⟨g, o, none⟩ → v.ownBlock ≠ some g) : PT w' pa cs := by
  obtain ⟨vs, h1, h2⟩ := h
  have hsl : Sl w' vs cs := ⟨h1.1, fun i hi => by
    obtain ⟨b, cap, q1, q2, ys, ⟨c, a1, a2⟩, a3⟩ := h1.2 i hi
    exact ⟨b, cap, q1, q2, ys, grown_own hg ⟨c, a1, a2⟩ (other_block hown ⟨c, a1, a2⟩ (by decide)), a3⟩⟩
  refine ⟨vs, hsl, ?_⟩
  rcases h2 with h2 | ⟨g, o, c, h3, h4, h5⟩
  · exact .inl h2
  · exact .inr ⟨g, o, c, h3, (hg.block g (Array.getElem?_eq_some_iff.1 h4).1 (fun e => hd g o h3 e.symm)).trans h4, h5⟩
/-- What l15All says, for values of at most f cells. -/
def AllEv (f : Nat) : Prop := ∀ (v : List M.Cl) (b off cap : Nat) (pa : Option Addr) (pc : Nat) (ahead : List M.Cl) (w : World) (hv : M.valueFault v = 0) (hf : v.length ≤ f) (hrow : Row w b off v) (hb : b < w.heap.size) (hcap : v.length ≤ cap) (hpt : PT w pa ahead) (hnil : ahead = [] → pa = none ∧ pc = 0) (hpc : ahead.length ≤ pc) (hpc2 : pc ≤ 9223372036854775807) (hsz : ahead.length + v.length ≤ 200) (hst : ∀ c ∈ ahead, Pth.Stp c),
    Calls Tryz.prog 55 #[.slice (some ⟨b, off, none⟩) v.length cap, .slice pa ahead.length pc] w fun e w' => ∃ s, e = .returned s ∧ SS w' w.heap.size s (evs f v ahead) ∧ Below w.heap.size w w'
set_option maxRecDepth 100000 in
set_option maxHeartbeats 4000000 in
theorem evS_leaf (f : Nat) (v : List M.Cl) (b off cap : Nat) (pa : Option Addr) (pc : Nat) (ahead : List M.Cl) (w : World) (hv : M.valueFault v = 0) (hrow : Row w b off v) (hb : b < w.heap.size) (hcap : v.length ≤ cap) (hpt : PT w pa ahead) (hnil : ahead = [] → pa = none ∧ pc = 0) (hpc : ahead.length ≤ pc) (hpc2 : pc ≤ 9223372036854775807) (hsz : ahead.length + v.length ≤ 200) (hst : ∀ c ∈ ahead, Pth.Stp c) (h0 : (v.getD 0 M.zero).n = 0) :
    Calls Tryz.prog 55 #[.slice (some ⟨b, off, none⟩) v.length cap, .slice pa ahead.length pc] w fun e w' => ∃ s, e = .returned s ∧ SS w' w.heap.size s (evs (f + 1) v ahead) ∧ Below w.heap.size w w' := by
  rw [evs_leaf h0]
  have hl1 := (M.fault_zero hv).1
  have HLF := hide (Sev.l15Leaf_any v b off cap w hrow hl1)
  rw [h0] at HLF
  have HA1 := hide (l1ArrayPL_any pa pc ahead w hpt.pl hpc (by omega) hst)
  have hpv := (pathC_ok hst (by omega)).1
  have hpl := pathC_length ahead
  have HLA := hide (fun W a (hL : LV W a [pathC ahead, v]) => l1ArrayV_any a 2 [pathC ahead, v] W hL (Nat.le_refl _) (by simp) (Sev.valid_two hpv hv))
  have HX := hide (fun W (h : Below w.heap.size w W) => hrow.below h hb)
  have HD := hide (show Sev.laid ahead [v] = arrV [pathC ahead, v] from rfl)
  rw [unhide HD]
  have hpl0 : pathC ahead ≠ [] := by intro e; rw [e] at hpl; simp at hpl
  clear hrow hpt hnil hpv hst hsz hpl hv h0
  generalize pathC ahead = pp at *
  go_enter Tryz.func55, Tryz.ntmps55
  go_wp2_with fail
  refine (unhide HLF).mono ?_
  rintro e w1 ⟨rfl, hw1⟩
  subst w1
  clear HLF
  go_wp2_with fail
  refine (unhide HA1).mono ?_
  rintro e w2 ⟨s, rfl, hr, hb2⟩
  obtain ⟨xb, xc, rfl, hxc, _, hxb, hxr⟩ := hr.rowedQ hpl0
  obtain ⟨W3, hW3⟩ : ∃ W3, W3 = w2.alloc (.cells #[.slice (some ⟨xb, 0, none⟩) pp.length xc, .slice (some ⟨b, off, none⟩) v.length cap] 24) := ⟨_, rfl⟩
  have b23 : Below w2.heap.size w2 W3 := by rw [hW3]; exact (Below.refl _ _).alloc (Nat.le_refl _) _
  have hLV : LV W3 (some ⟨w2.heap.size, 0, none⟩) [pp, v] := by rw [hW3]; exact LV.two w2 w2.heap.size xb 0 xc b off cap pp v 24 rfl hxr hxb hxc ((unhide HX) w2 hb2) (Nat.lt_of_lt_of_le hb hb2.size) hcap
  have HL3 := hide ((unhide HLA) W3 _ hLV)
  have B3 := hide (hb2.trans (b23.mono hb2.size))
  clear hr hxr hxb hxc hLV HLA hb2 b23 HA1
  go_wp2_with fail
  rw [← hW3]
  clear hW3
  refine (unhide HL3).mono ?_
  rintro e w4 ⟨s4, rfl, hr4, hb4⟩
  obtain ⟨xa, xn, xc4, rfl⟩ := hr4.shape
  have B4 := hide ((unhide B3).trans (hb4.mono (unhide B3).size))
  have HR4 := hide (hr4.mono (unhide B3).size)
  clear HL3 hr4 hb4
  go_wp2_with fail
  go_ret
  exact ⟨_, rfl, ⟨[_], rfl, ⟨rfl, .inr ⟨w4.heap.size, 1, _, rfl, (unhide B4).size, heap_alloc_new _ _, Nat.le_refl _, by unfold maxLen; omega, rfl, rfl⟩⟩, fun i hi => by
    have : i = 0 := by simpa using hi
    subst this
    exact (unhide HR4).alloc _⟩, (unhide B4).alloc (unhide B4).size _⟩
set_option maxRecDepth 100000 in
set_option maxHeartbeats 20000000 in
theorem evS_more (f : Nat) (ih : Hid (AllEv f)) (v : List M.Cl) (b off cap : Nat) (pa : Option Addr) (pc : Nat) (ahead : List M.Cl) (w : World) (hv : M.valueFault v = 0) (hf : v.length ≤ f + 1) (hrow : Row w b off v) (hb : b < w.heap.size) (hcap : v.length ≤ cap) (hpt : PT w pa ahead) (hnil : ahead = [] → pa = none ∧ pc = 0) (hpc : ahead.length ≤ pc) (hpc2 : pc ≤ 9223372036854775807) (hsz : ahead.length + v.length ≤ 200) (hst : ∀ c ∈ ahead, Pth.Stp c) (h0 : ¬ (v.getD 0 M.zero).n = 0) :
    Calls Tryz.prog 55 #[.slice (some ⟨b, off, none⟩) v.length cap, .slice pa ahead.length pc] w fun e w' => ∃ s, e = .returned s ∧ SS w' w.heap.size s (evs (f + 1) v ahead) ∧ Below w.heap.size w w' := by
  have hl1 := (M.fault_zero hv).1
  have hl2 := (M.fault_zero hv).2.1
  have hlI : (0 : Int) < (v.length : Int) := by omega
  obtain ⟨i1, hi1, hx0, hx1', hx2'⟩ := info_parts Tryz.info24
  have HLF := hide (Sev.l15Leaf_any v b off cap w hrow hl1)
  rw [show ((v.getD 0 M.zero).n == 0) = false from beq_eq_false_iff_ne.2 h0] at HLF
  have hsubs := subs_all hv (Pth.oks hv)
  have HPA := hide (fun W (h : Below w.heap.size w W) => l1Parts_any v b off cap W hv (hrow.below h hb) (Nat.lt_of_lt_of_le hb h.size) hcap (Pth.oks hv))
  have HKA := hide (fun W (h : Below w.heap.size w W) => l1Keys_any v b off cap W hv (hrow.below h hb) (Nat.lt_of_lt_of_le hb h.size) hcap (Pth.oks hv))
  have HNE := hide hsubs.2.2.2
  have HC0 := hide (fun W (h : Below w.heap.size w W) => ((hrow.below h hb) 0 (by omega)).1)
  simp only [Nat.zero_mul, Nat.add_zero] at HC0
  have HPL := hide (fun k (hk : k < M.arity v 0) => part_lt hv hk)
  have HAK := hide (fun k (hk : k ≤ M.arity v 0) => (show (allK (evs f) (decide ((v.getD 0 M.zero).kind = 6)) (keysAt v 0) (subs v 0) ahead k).length ≤ 200 from by have := evs_bound f hv ahead k hk; have := (iter_le hv hk).2; omega))
  have HEL := hide (fun p ah (hp : M.valueFault p = 0) => Nat.le_trans (evs_len f p ah hp) (M.fault_zero hp).2.1)
  have HSTP := hide (fun k (hk : k < M.arity v 0) => (step_to hv hk).1)
  have HIT := hide (fun k (hk : k ≤ M.arity v 0) => iter_le hv hk)
  have HSG := hide (fun k (hk : k < M.arity v 0) => (show (subs v 0).getD k [] = part v (M.iter v k 1) by rw [subs_getD v 0 k hk, Nat.zero_add]))
  have HSL := hide (subs_length v 0)
  have HKL := hide (keysAt_length v 0)
  have hn200 : M.arity v 0 ≤ 200 := by rw [← subs_length]; exact hsubs.1
  have hA1 : 1 ≤ M.arity v 0 := by
    have hn : 0 ≤ (v.getD 0 M.zero).n := Sev.n_ge hv
    unfold M.arity; omega
  have hend := (iter_le hv (Nat.le_refl (M.arity v 0))).2
  have HPT := hide hpt
  have HNI := hide hnil
  have HST := hide hst
  have HE := hide (evs_more (f := f) (ahead := ahead) h0)
  clear hv hpt hnil hsubs hst h0 hrow
  obtain ⟨n, hn⟩ : ∃ n, n = M.arity v 0 := ⟨_, rfl⟩
  rw [← hn] at HPL HAK HSTP HIT HSG HSL HKL hn200 hend HE hA1
  clear hn
  obtain ⟨ob, hob⟩ : ∃ ob, ob = decide ((v.getD 0 M.zero).kind = 6) := ⟨_, rfl⟩
  rw [← hob] at HE HAK HSTP
  have h6y : Hid (ob = true → (v.getD 0 M.zero).kind = 6) := hide (fun h => by rw [hob] at h; exact of_decide_eq_true h)
  have h6n : Hid (ob = false → (v.getD 0 M.zero).kind ≠ 6) := hide (fun h => by rw [hob] at h; exact of_decide_eq_false h)
  clear hob
  generalize (v.getD 0 M.zero).kind = kd at *
  generalize keysAt v 0 = ks at *
  generalize hps : subs v 0 = ps at *
  clear hps
  obtain ⟨W1, hW1⟩ : ∃ W1, W1 = w.alloc (.cells #[] 24) := ⟨_, rfl⟩
  have B1 : Below w.heap.size w W1 := by rw [hW1]; exact (Below.refl _ _).alloc (Nat.le_refl _) _
  have P1h := hide (show SS W1 w.heap.size (.slice (some ⟨w.heap.size, 0, none⟩) 0 0) [] from ⟨[], rfl, by rw [hW1]; exact empty_row w _ _ (Nat.le_refl _), fun i hi => by simp at hi⟩)
  go_enter Tryz.func55, Tryz.ntmps55
  go_wp2_with fail
  refine (unhide HLF).mono ?_
  rintro e w0 ⟨rfl, hw0⟩
  subst w0
  clear HLF
  go_wp2_with fail
  rw [← hW1]
  have hgt1 : Hid (w.heap.size < W1.heap.size) := hide (by rw [hW1]; simp)
  clear hW1
  refine ((unhide HPA) W1 B1).mono ?_
  rintro e3 W3 ⟨s8, rfl, hss, hb3⟩
  have B3 : Below w.heap.size w W3 := B1.trans (hb3.mono B1.size)
  have P3h := hide ((unhide P1h).below hb3)
  obtain ⟨a8, c8, rfl, hc8, _⟩ := hss.lv (unhide HNE)
  have HSS := hide hss
  rw [unhide HSL] at hc8
  clear hb3 hss P1h HPA
  go_wp2_with fail
  refine ((unhide HKA) W3 B3).mono ?_
  rintro e4 W4 ⟨s9, rfl, hks, hb4⟩
  have B4 : Below w.heap.size w W4 := B3.trans (hb4.mono B3.size)
  have P4h := hide ((unhide P3h).below hb4)
  have HSS4 := hide ((unhide HSS).below hb4)
  obtain ⟨a9, c9, rfl, hc9, _⟩ := hks.tv
  have HKS := hide hks
  rw [unhide HKL] at hc9
  have HPT4 := hide ((unhide HPT).keep (Kq.ofBelow B4))
  clear hb4 hks P3h HSS B3 HKA B1
  rw [unhide HSL, unhide HKL]
  have hpcK := hide hpc
  go_wp2_with fail
  go_loopg [5, 8, 9] n (fun gh s5 s8 s9 wr => ∃ (k : Nat) (la : Option Addr) (lc : Nat) (fl : List M.Cl), Hid (gh = n - k) ∧ s8 = .slice la fl.length lc ∧ s9 = .int .i64 (k : Int) ∧ k ≤ n ∧ Hid (SS wr w.heap.size s5 (allK (evs f) ob ks ps ahead k)) ∧ Hid (SS wr W1.heap.size (.slice a8 n c8) ps) ∧ Hid (KS wr W3.heap.size (.slice a9 n c9) ks) ∧ Hid (PT wr la fl) ∧ fl.length ≤ lc ∧ Hid (Dis s5 (.slice a8 n c8)) ∧ Hid (0 < k → fl = ahead ++ [stepAt ob ks (k - 1)]) ∧ Below w.heap.size w wr)
  case atStart => exact ⟨0, pa, pc, ahead, rfl, rfl, rfl, by omega, P4h, by have h := HSS4; rw [unhide HSL] at h; exact h, by have h := HKS; rw [unhide HKL] at h; exact h, HPT4, unhide hpcK, hide (fun g hg hg' => by
    have h := HSS4
    obtain ⟨ss, _, h2, _⟩ := unhide h
    rw [unhide HSL] at h2
    have h3 := row_base h2 g hg'
    have h4 : w.heap.size = g := by have := hg; simpa [Value.ownBlock] using this
    have := unhide hgt1
    omega), hide (fun h => absurd h (by omega)), B4⟩
  case round =>
    clear P4h HSS4 HKS B4 HPT4
    obtain ⟨k, la, lc, fl, hg, rfl, rfl, hk, hP, hS, hKs, hPTk, hflc, hdis, hFl, hbel⟩ := hrel
    obtain ⟨a7, n7, c7, hs7⟩ : ∃ a n c, u5 = Value.slice a n c := by obtain ⟨ss, _, h2, _⟩ := hP.out; exact row_shape h2
    subst hs7
    by_cases hlt : k < n
    · have hltI : (k : Int) < (n : Int) := by omega
      have hk0 : (0 : Int) ≤ (k : Int) := by omega
      have HLT := hide hlt
      clear hlt hPTk hFl hflc
      go_wp2_with fail
      refine (l1Number_any (k : Int) wr).mono ?_
      rintro e5 W5 ⟨s5, rfl, hr5, hb5⟩
      have B5 : Below w.heap.size w W5 := hbel.trans (hb5.mono hbel.size)
      have HP5 := hide (hP.out.below hb5)
      have HS5 := hide (hS.out.below hb5)
      have HK5 := hide (hKs.out.below hb5)
      obtain ⟨b11, d11, rfl, hd11, _, _, _⟩ := hr5.rowedQ (by simp)
      have HR5 := hide hr5
      have hc5 := (unhide HC0) W5 B5
      simp only [List.length_cons, List.length_nil, Nat.zero_add] at hd11 HR5 ⊢
      clear hr5 hb5 hbel hP hS hKs
      rcases Bool.eq_false_or_eq_true ob with hob | hob
      rotate_left
      · have hkn := (unhide h6n) hob
        have hkb : (kd == 6) = false := by simp [hkn]
        have hst0 := hide (show OwnG W5 b11 111 [stepAt ob ks k] by
          obtain ⟨_, ⟨h1, _⟩ | ⟨b, cap, h1, h2, h3, h4⟩⟩ := unhide HR5
          · cases h1
          · cases h1
            rw [hob]; exact h4)
        clear hkn HR5
        have HBH := hide (behind_any pa pc ahead b11 d11 (stepAt ob ks k) W5 ((unhide HPT).keep (Kq.ofBelow B5)) (unhide HNI) (by omega) (unhide hst0) hd11)
        have hstk := (unhide HSTP) k (unhide HLT)
        go_wp2_with fail
        refine (unhide HBH).mono ?_
        rintro e8 W8 ⟨a8', k8, rfl, h8c, h8m, hpt8, hblt, hb8⟩
        have HBL := hide (fun g o (e : a8' = some ⟨g, o, none⟩) => hblt g (by rw [e]; rfl))
        have B8 : Below w.heap.size w W8 := B5.trans (hb8.mono B5.size)
        have HP8 := hide ((unhide HP5).below hb8)
        have HS8 := hide ((unhide HS5).below hb8)
        have HK8 := hide ((unhide HK5).below hb8)
        obtain ⟨st, hse⟩ : ∃ st, st = stepAt ob ks k := ⟨_, rfl⟩
        rw [← hse] at hstk hpt8 h8c ⊢
        have HSE := hide hse
        have hstps : ∀ c ∈ ahead ++ [st], Pth.Stp c := fun c hc => by
          rcases List.mem_append.1 hc with hc | hc
          · exact (unhide HST) c hc
          · rw [List.mem_singleton.1 hc]; exact hstk
        obtain ⟨ah, hah⟩ : ∃ ah, ah = ahead ++ [st] := ⟨_, rfl⟩
        rw [← hah] at hpt8 h8c hstps ⊢
        have HAH := hide hah
        have hal : Hid (ah.length = ahead.length + 1) := hide (by rw [hah]; simp)
        have han : Hid (ah = [] → False) := hide (fun h => by rw [hah] at h; simp at h)
        clear hah hse hstk HBH hblt
        have hs8' := hb8.size
        clear hb8
        obtain ⟨ss, hss1, hss2, hss3⟩ := unhide HS8
        have hk8 : k < ps.length := by rw [unhide HSL]; exact unhide HLT
        rcases hss2.2 with ⟨h0, _⟩ | ⟨g8, cc8, cur8, e8, hB8, hh8, hn8, hm8, hr8, ht8⟩
        · rw [unhide HSL] at *
          simp only [Value.slice.injEq] at h0
          exact absurd h0.2.1 (by have := unhide HLT; omega)
        rw [unhide HSL] at e8
        cases e8
        have HSG8 := (unhide HSG) k (unhide HLT)
        have hpv : M.valueFault (ps.getD k []) = 0 := by rw [HSG8]; exact ((unhide HPL) k (unhide HLT)).2.2
        have hpl : (ps.getD k []).length + ahead.length + 1 ≤ 200 ∧ (ps.getD k []).length ≤ f := by
          have a := ((unhide HPL) k (unhide HLT)).2.1
          have b := (unhide HIT) (k + 1) (unhide HLT)
          have c := (unhide HIT) k (Nat.le_of_lt (unhide HLT))
          rw [HSG8]
          omega
        clear HSG8
        obtain ⟨q, hq⟩ : ∃ q, q = ps.getD k [] := ⟨_, rfl⟩
        have HQ := hide hq
        rw [← hq] at hpv hpl
        have hss3k := hss3 k hk8
        rw [← hq] at hss3k
        clear hq
        obtain ⟨bk, ck, ek, hck, _, hbk, hrowk⟩ := hss3k.rowedQ (Pth.val_ne hpv)
        have x8 : W8.cell? ⟨g8, k, none⟩ = some (.slice (some ⟨bk, 0, none⟩) q.length ck) := by
          have h1 : cur8.toList[k]? = ss[k]? := by rw [← ht8, List.getElem?_take_of_lt (by omega)]
          rw [cell_in hh8, h1, List.getElem?_eq_getElem (by omega), ← ek, List.getD_eq_getElem?_getD, List.getElem?_eq_getElem (by omega)]
          rfl
        have HIH := hide (ih.out q bk 0 ck a8' k8 ah W8 hpv (by have := hpl; omega) hrowk hbk hck hpt8 (fun h => ((unhide han) h).elim) h8c h8m (by have := hpl; have := unhide hal; omega) hstps)
        have HPT8 := hide hpt8
        have hsb := hide B8
        clear hss1 hss2 hss3 hss3k ek hn8 hm8 hr8 ht8 hB8 hk8 hpl hbk hrowk hpt8 hstps B8
        go_wp2_with fail
        refine (unhide HIH).mono ?_
        rintro e9 W9 ⟨s62, rfl, hss62, hb9⟩
        have B9 : Below w.heap.size w W9 := (unhide hsb).trans (hb9.mono (unhide hsb).size)
        have HS9 := hide ((unhide HS8).below hb9)
        have HK9 := hide ((unhide HK8).below hb9)
        have HPT9 := hide ((unhide HPT8).keep (Kq.ofBelow hb9))
        obtain ⟨xs, hx1, hx2, hx3⟩ := (unhide HP8).below hb9
        obtain ⟨ys, hy1, hy2, hy3⟩ := hss62
        obtain ⟨a62, n62, c62, e62⟩ := row_shape hy2
        subst e62
        have hEL := (unhide HEL) q ah hpv
        have hAK := (unhide HAK) (k + 1) (by have := unhide HLT; omega)
        have HLL := hide (show allK (evs f) ob ks ps ahead (k + 1) = allK (evs f) ob ks ps ahead k ++ evs f q ah by rw [allK, ← unhide HQ, unhide HAH, unhide HSE])
        rw [unhide HLL, List.length_append] at hAK
        obtain ⟨L1, hL1⟩ : ∃ L1, L1 = allK (evs f) ob ks ps ahead k := ⟨_, rfl⟩
        obtain ⟨E1, hE1⟩ : ∃ E1, E1 = evs f q ah := ⟨_, rfl⟩
        rw [← hL1, ← hE1] at hAK HLL
        rw [← hL1] at hx1 hx2 hx3
        rw [← hE1] at hy1 hy2 hy3 hEL
        have HX2 := hide hx2
        have HVB := hide (fun g (hg : (Value.slice a7 n7 c7).ownBlock = some g) => (show g < W5.heap.size from by obtain ⟨_, _, h2, _⟩ := unhide HP5; exact (World.ownsRow.lt h2 g hg).2))
        have HYR := hide (row_read hy2)
        have HYP := hide (ss_plain hy1 hy3)
        have HY1 := hide hy1
        have HX3 := hide hx3
        have HY3 := hide (fun i hi => (hy3 i hi).mono (show w.heap.size ≤ W8.heap.size from (unhide hsb).size))
        have HX1 := hide hx1
        have hb63 : L1.length + ys.length ≤ maxLen := by rw [hy1]; unfold maxLen; omega
        have hby : (L1.length + ys.length) * 24 ≤ 140737488355328 := by rw [hy1]; omega
        have hbas := B9.size
        have HB9 := hide B9
        clear hx1 hx2 hx3 hy1 hy2 hy3 hL1 hE1 HIH HP8 HS8 HK8 x8 hh8 hEL hAK hb9 B9 hsb HPT8
        go_wp2_with (at_builtin; refine wpList_rowN rfl (.tmp 46) (.tmp 52) 28 rfl 24 i1 (.slice none 0 0) 1 24 Tryz.underlying28 hi1 hx0 hx1' hx2' rfl (by decide) w.heap.size _ L1.length xs rfl (unhide HX2) (.slice a62 n62 c62) rfl ys.length ys (by simp) (unhide HYR) (unhide HYP) hb63 hby hbas ?_)
        intro v10 W10 ho10 hg10 hn10
        have B10 : Below w.heap.size w W10 := (unhide HB9).grown hg10 hbas (fun q hq => row_base (unhide HX2) q hq)
        have SN := hide (SS.app (unhide HX1) (unhide HX2) (unhide HX3) (unhide HY1) (unhide HY3) hg10 ho10)
        rw [← unhide HLL] at SN
        have HS10 := hide (ss_grown (unhide HS9) (unhide HX2) (B := w.heap.size) (by decide) hg10 (fun g e1 e2 => hdis.out g e2 e1))
        have HD10 := hide (show Dis v10 (.slice (some ⟨g8, 0, none⟩) n c8) from by obtain ⟨_, _, h2, _⟩ := unhide HS9; exact hdis.out.new (w := W9) hn10 h2)
        have HK10 := hide (ks_grown (unhide HK9) (unhide HX2) (by decide) hg10)
        have HPT10 := hide (PT.grown (unhide HPT9) (unhide HX2) hg10 (fun g o e e2 => by have := (unhide HBL) g o e; have := (unhide HVB) g e2; omega))
        obtain ⟨a10, n10, c10, e10⟩ := row_shape ho10
        subst e10
        clear ho10 hg10 HX2 HX3 HY3 HYR HYP HS9 HK9 HPT9 HB9 hb63 hby hbas HX1 HY1
        go_wp2_with fail
        go_roundg (n - (k + 1))
        case rel => exact ⟨k + 1, a8', k8, ah, rfl, rfl, by go_num, by have := unhide HLT; omega, unhide SN, unhide HS10, unhide HK10, unhide HPT10, h8c, unhide HD10, hide (fun _ => by rw [unhide HAH, unhide HSE]; rfl), B10⟩
        case measure => have := hg.out; have := unhide HLT; omega

      · have hky := (unhide h6y) hob
        have hkb : (kd == 6) = true := by simp [hky]
        obtain ⟨a9', c9', e9, hc9', htv⟩ := (unhide HK5).tv
        obtain ⟨g9, h9a, h9b, h9c⟩ := htv k (by rw [unhide HKL]; exact unhide HLT)
        rw [unhide HKL] at e9
        cases e9
        subst h9a
        have HL6 := hide (fun W => l1String_any (ks.getD k ByteArray.empty) W)
        generalize hkk : ks.getD k ByteArray.empty = kk at *
        have HKK := hide hkk
        clear hky HR5 hkk htv
        go_wp2_with fail
        refine ((unhide HL6) _).mono ?_
        rintro e6 W6 ⟨s6, rfl, hr6, hb6⟩
        have B6 : Below w.heap.size w W6 := B5.trans (hb6.mono B5.size)
        have HP6 := hide ((unhide HP5).below hb6)
        have HS6 := hide ((unhide HS5).below hb6)
        have HK6 := hide ((unhide HK5).below hb6)
        obtain ⟨b11, d11, rfl, hd11, _, _, _⟩ := hr6.rowedQ (by simp)
        have HR6 := hide hr6
        simp only [List.length_cons, List.length_nil, Nat.zero_add] at hd11 HR6 ⊢
        have hst0 := hide (show OwnG W6 b11 111 [stepAt ob ks k] by
          obtain ⟨_, ⟨h1, _⟩ | ⟨b, cap, h1, h2, h3, h4⟩⟩ := unhide HR6
          · cases h1
          · cases h1
            rw [hob]
            show OwnG W6 b11 111 [⟨4, 0, ks.getD k ByteArray.empty, ByteArray.empty, 0⟩]
            rw [unhide HKK]; exact h4)
        clear hr6 hb6 HR6 HP5 HS5 HK5 hc5 hkb h9b h9c B5
        have HBH := hide (behind_any pa pc ahead b11 d11 (stepAt ob ks k) W6 ((unhide HPT).keep (Kq.ofBelow B6)) (unhide HNI) (by omega) (unhide hst0) hd11)
        have hstk := (unhide HSTP) k (unhide HLT)
        go_wp2_with fail
        refine (unhide HBH).mono ?_
        rintro e8 W8 ⟨a8', k8, rfl, h8c, h8m, hpt8, hblt, hb8⟩
        have HBL := hide (fun g o (e : a8' = some ⟨g, o, none⟩) => hblt g (by rw [e]; rfl))
        have B8 : Below w.heap.size w W8 := B6.trans (hb8.mono B6.size)
        have HP8 := hide ((unhide HP6).below hb8)
        have HS8 := hide ((unhide HS6).below hb8)
        have HK8 := hide ((unhide HK6).below hb8)
        obtain ⟨st, hse⟩ : ∃ st, st = stepAt ob ks k := ⟨_, rfl⟩
        rw [← hse] at hstk hpt8 h8c ⊢
        have HSE := hide hse
        have hstps : ∀ c ∈ ahead ++ [st], Pth.Stp c := fun c hc => by
          rcases List.mem_append.1 hc with hc | hc
          · exact (unhide HST) c hc
          · rw [List.mem_singleton.1 hc]; exact hstk
        obtain ⟨ah, hah⟩ : ∃ ah, ah = ahead ++ [st] := ⟨_, rfl⟩
        rw [← hah] at hpt8 h8c hstps ⊢
        have HAH := hide hah
        have hal : Hid (ah.length = ahead.length + 1) := hide (by rw [hah]; simp)
        have han : Hid (ah = [] → False) := hide (fun h => by rw [hah] at h; simp at h)
        clear hah hse hstk HBH hblt
        have hs8' := hb8.size
        clear hb8
        obtain ⟨ss, hss1, hss2, hss3⟩ := unhide HS8
        have hk8 : k < ps.length := by rw [unhide HSL]; exact unhide HLT
        rcases hss2.2 with ⟨h0, _⟩ | ⟨g8, cc8, cur8, e8, hB8, hh8, hn8, hm8, hr8, ht8⟩
        · rw [unhide HSL] at *
          simp only [Value.slice.injEq] at h0
          exact absurd h0.2.1 (by have := unhide HLT; omega)
        rw [unhide HSL] at e8
        cases e8
        have HSG8 := (unhide HSG) k (unhide HLT)
        have hpv : M.valueFault (ps.getD k []) = 0 := by rw [HSG8]; exact ((unhide HPL) k (unhide HLT)).2.2
        have hpl : (ps.getD k []).length + ahead.length + 1 ≤ 200 ∧ (ps.getD k []).length ≤ f := by
          have a := ((unhide HPL) k (unhide HLT)).2.1
          have b := (unhide HIT) (k + 1) (unhide HLT)
          have c := (unhide HIT) k (Nat.le_of_lt (unhide HLT))
          rw [HSG8]
          omega
        clear HSG8
        obtain ⟨q, hq⟩ : ∃ q, q = ps.getD k [] := ⟨_, rfl⟩
        have HQ := hide hq
        rw [← hq] at hpv hpl
        have hss3k := hss3 k hk8
        rw [← hq] at hss3k
        clear hq
        obtain ⟨bk, ck, ek, hck, _, hbk, hrowk⟩ := hss3k.rowedQ (Pth.val_ne hpv)
        have x8 : W8.cell? ⟨g8, k, none⟩ = some (.slice (some ⟨bk, 0, none⟩) q.length ck) := by
          have h1 : cur8.toList[k]? = ss[k]? := by rw [← ht8, List.getElem?_take_of_lt (by omega)]
          rw [cell_in hh8, h1, List.getElem?_eq_getElem (by omega), ← ek, List.getD_eq_getElem?_getD, List.getElem?_eq_getElem (by omega)]
          rfl
        have HIH := hide (ih.out q bk 0 ck a8' k8 ah W8 hpv (by have := hpl; omega) hrowk hbk hck hpt8 (fun h => ((unhide han) h).elim) h8c h8m (by have := hpl; have := unhide hal; omega) hstps)
        have HPT8 := hide hpt8
        have hsb := hide B8
        clear hss1 hss2 hss3 hss3k ek hn8 hm8 hr8 ht8 hB8 hk8 hpl hbk hrowk hpt8 hstps B8
        go_wp2_with fail
        refine (unhide HIH).mono ?_
        rintro e9 W9 ⟨s62, rfl, hss62, hb9⟩
        have B9 : Below w.heap.size w W9 := (unhide hsb).trans (hb9.mono (unhide hsb).size)
        have HS9 := hide ((unhide HS8).below hb9)
        have HK9 := hide ((unhide HK8).below hb9)
        have HPT9 := hide ((unhide HPT8).keep (Kq.ofBelow hb9))
        obtain ⟨xs, hx1, hx2, hx3⟩ := (unhide HP8).below hb9
        obtain ⟨ys, hy1, hy2, hy3⟩ := hss62
        obtain ⟨a62, n62, c62, e62⟩ := row_shape hy2
        subst e62
        have hEL := (unhide HEL) q ah hpv
        have hAK := (unhide HAK) (k + 1) (by have := unhide HLT; omega)
        have HLL := hide (show allK (evs f) ob ks ps ahead (k + 1) = allK (evs f) ob ks ps ahead k ++ evs f q ah by rw [allK, ← unhide HQ, unhide HAH, unhide HSE])
        rw [unhide HLL, List.length_append] at hAK
        obtain ⟨L1, hL1⟩ : ∃ L1, L1 = allK (evs f) ob ks ps ahead k := ⟨_, rfl⟩
        obtain ⟨E1, hE1⟩ : ∃ E1, E1 = evs f q ah := ⟨_, rfl⟩
        rw [← hL1, ← hE1] at hAK HLL
        rw [← hL1] at hx1 hx2 hx3
        rw [← hE1] at hy1 hy2 hy3 hEL
        have HX2 := hide hx2
        have HVB := hide (fun g (hg : (Value.slice a7 n7 c7).ownBlock = some g) => (show g < W6.heap.size from by obtain ⟨_, _, h2, _⟩ := unhide HP6; exact (World.ownsRow.lt h2 g hg).2))
        have HYR := hide (row_read hy2)
        have HYP := hide (ss_plain hy1 hy3)
        have HY1 := hide hy1
        have HX3 := hide hx3
        have HY3 := hide (fun i hi => (hy3 i hi).mono (show w.heap.size ≤ W8.heap.size from (unhide hsb).size))
        have HX1 := hide hx1
        have hb63 : L1.length + ys.length ≤ maxLen := by rw [hy1]; unfold maxLen; omega
        have hby : (L1.length + ys.length) * 24 ≤ 140737488355328 := by rw [hy1]; omega
        have hbas := B9.size
        have HB9 := hide B9
        clear hx1 hx2 hx3 hy1 hy2 hy3 hL1 hE1 HIH HP8 HS8 HK8 x8 hh8 hEL hAK hb9 B9 hsb HPT8
        go_wp2_with (at_builtin; refine wpList_rowN rfl (.tmp 46) (.tmp 52) 28 rfl 24 i1 (.slice none 0 0) 1 24 Tryz.underlying28 hi1 hx0 hx1' hx2' rfl (by decide) w.heap.size _ L1.length xs rfl (unhide HX2) (.slice a62 n62 c62) rfl ys.length ys (by simp) (unhide HYR) (unhide HYP) hb63 hby hbas ?_)
        intro v10 W10 ho10 hg10 hn10
        have B10 : Below w.heap.size w W10 := (unhide HB9).grown hg10 hbas (fun q hq => row_base (unhide HX2) q hq)
        have SN := hide (SS.app (unhide HX1) (unhide HX2) (unhide HX3) (unhide HY1) (unhide HY3) hg10 ho10)
        rw [← unhide HLL] at SN
        have HS10 := hide (ss_grown (unhide HS9) (unhide HX2) (B := w.heap.size) (by decide) hg10 (fun g e1 e2 => hdis.out g e2 e1))
        have HD10 := hide (show Dis v10 (.slice (some ⟨g8, 0, none⟩) n c8) from by obtain ⟨_, _, h2, _⟩ := unhide HS9; exact hdis.out.new (w := W9) hn10 h2)
        have HK10 := hide (ks_grown (unhide HK9) (unhide HX2) (by decide) hg10)
        have HPT10 := hide (PT.grown (unhide HPT9) (unhide HX2) hg10 (fun g o e e2 => by have := (unhide HBL) g o e; have := (unhide HVB) g e2; omega))
        obtain ⟨a10, n10, c10, e10⟩ := row_shape ho10
        subst e10
        clear ho10 hg10 HX2 HX3 HY3 HYR HYP HS9 HK9 HPT9 HB9 hb63 hby hbas HX1 HY1
        go_wp2_with fail
        go_roundg (n - (k + 1))
        case rel => exact ⟨k + 1, a8', k8, ah, rfl, rfl, by go_num, by have := unhide HLT; omega, unhide SN, unhide HS10, unhide HK10, unhide HPT10, h8c, unhide HD10, hide (fun _ => by rw [unhide HAH, unhide HSE]; rfl), B10⟩
        case measure => have := hg.out; have := unhide HLT; omega

    · have hke : k = n := by omega
      have hfl := hFl.out (by omega)
      have hstk := (unhide HSTP) (k - 1) (by omega)
      have hfs : ∀ c ∈ fl, Pth.Stp c := fun c hc => by
        rw [hfl] at hc
        rcases List.mem_append.1 hc with hc | hc
        · exact (unhide HST) c hc
        · rw [List.mem_singleton.1 hc]; exact hstk
      have hit := (unhide HIT) n (Nat.le_refl _)
      have hfll : fl.length ≤ 199 := by
        rw [hfl, List.length_append, List.length_cons, List.length_nil]
        omega
      have hAK := (unhide HAK) k (by omega)
      have HFIN := hide (show evs (f + 1) v ahead = allK (evs f) ob ks ps ahead k ++ [arrV [pathC fl]] by rw [unhide HE, hfl, hke]; rfl)
      have HA1 := hide (l1ArrayPL_any la lc fl wr hPTk.out.pl hflc (by omega) hfs)
      have hpv := (pathC_ok hfs (by omega)).1
      have hpl := pathC_length fl
      have HLA := hide (fun W a (hL : LV W a [pathC fl]) => l1ArrayV_any a 1 [pathC fl] W hL (Nat.le_refl _) (by simp) (Sev.valid_one hpv))
      have hpl0 : pathC fl ≠ [] := by intro e; rw [e] at hpl; simp at hpl
      obtain ⟨L1, hL1⟩ : ∃ L1, L1 = allK (evs f) ob ks ps ahead k := ⟨_, rfl⟩
      rw [← hL1] at hP hAK HFIN
      clear hL1
      have hkI : ¬ (k : Int) < (n : Int) := by omega
      clear hke hS hKs hPTk hFl hfl hdis hstk hfs hfll hit hflc hpv hpl
      generalize pathC fl = pp at *
      go_wp2_with fail
      refine (unhide HA1).mono ?_
      rintro e w2 ⟨s, rfl, hr, hb2⟩
      obtain ⟨xb, xc, rfl, hxc, _, hxb, hxr⟩ := hr.rowedQ hpl0
      obtain ⟨W3', hW3⟩ : ∃ W3', W3' = w2.alloc (.cells #[.slice (some ⟨xb, 0, none⟩) pp.length xc] 24) := ⟨_, rfl⟩
      have b23 : Below w2.heap.size w2 W3' := by rw [hW3]; exact (Below.refl _ _).alloc (Nat.le_refl _) _
      have hLV : LV W3' (some ⟨w2.heap.size, 0, none⟩) [pp] := Sev.LV_one W3' _ (.slice none 0 0) xb 0 xc pp (by rw [hW3]; simp) (by rw [hW3]; exact World.cell?_alloc_mark w2 _ _ (0, 0) 0) hxc (Nat.lt_of_lt_of_le hxb b23.size) (hxr.below b23 hxb)
      have HL3 := hide ((unhide HLA) W3' _ hLV)
      have B3 := hide (hbel.trans ((hb2.trans (b23.mono hb2.size)).mono hbel.size))
      have HP3 := hide (hP.out.below (hb2.trans (b23.mono hb2.size)))
      clear hr hxr hxb hxc hLV HLA hb2 b23 HA1 hP hbel
      simp only [List.length_cons, List.length_nil, Nat.zero_add] at HL3
      go_wp2_with fail
      rw [← hW3]
      clear hW3
      refine (unhide HL3).mono ?_
      rintro e w4 ⟨s4, rfl, hr4, hb4⟩
      obtain ⟨xa, xn, xc4, rfl⟩ := hr4.shape
      have B4 := hide ((unhide B3).trans (hb4.mono (unhide B3).size))
      obtain ⟨W5, hW5⟩ : ∃ W5, W5 = w4.alloc (.cells #[.slice xa xn xc4] 24) := ⟨_, rfl⟩
      have b45 : Below w4.heap.size w4 W5 := by rw [hW5]; exact (Below.refl _ _).alloc (Nat.le_refl _) _
      have HN5 := hide (show ∀ j u, ([Value.slice xa xn xc4] : List Value)[j]? = some u → W5.cell? ((⟨w4.heap.size, 0, none⟩ : Addr).add j) = some u by rw [hW5]; exact one_val w4 _ _)
      have B5 := hide ((unhide B4).trans (b45.mono (unhide B4).size))
      have HR5 := hide (show Res W5 w.heap.size (.slice xa xn xc4) (arrV [pp]) from (hr4.mono (unhide B3).size).below b45)
      obtain ⟨xs, hx1, hx2, hx3⟩ := ((unhide HP3).below hb4).below b45
      have HX2 := hide hx2
      have HX1 := hide hx1
      have HX3 := hide hx3
      have hb63 : L1.length + 1 ≤ maxLen := by unfold maxLen; omega
      have hby : (L1.length + 1) * 24 ≤ 140737488355328 := by omega
      have hbas := (unhide B5).size
      clear HL3 hr4 hb4 b45 hx1 hx2 hx3 HP3
      go_wp2_with (at_builtin; rw [← hW5]; refine wpList_rowN rfl (.tmp 54) (.tmp 59) 28 rfl 24 i1 (.slice none 0 0) 1 24 Tryz.underlying28 hi1 hx0 hx1' hx2' rfl (by decide) w.heap.size _ L1.length xs rfl (unhide HX2) (.slice (some ⟨w4.heap.size, 0, none⟩) 1 1) rfl 1 [.slice xa xn xc4] rfl (.inr ⟨_, 1, rfl, unhide HN5⟩) (by intro u hu; rw [List.mem_singleton.1 hu]; rfl) hb63 hby hbas ?_)
      intro v10 W10 ho10 hg10 _
      rw [← hW5] at hg10
      have B10 := hide (show Below w.heap.size w W10 from (unhide B5).grown hg10 hbas (fun q hq => row_base (unhide HX2) q hq))
      have SN := hide (SS.app (unhide HX1) (unhide HX2) (unhide HX3) (ys := [.slice xa xn xc4]) (E := [arrV [pp]]) rfl (fun i hi => by
        have : i = 0 := by simpa using hi
        subst this
        exact unhide HR5) hg10 ho10)
      obtain ⟨a10, n10, c10, e10⟩ := row_shape ho10
      subst e10
      clear ho10 hg10 HX2 HX3 hb63 hby hbas HX1 hW5
      go_wp2_with fail
      go_ret
      exact ⟨_, rfl, by rw [unhide HFIN]; exact unhide SN, unhide B10⟩
theorem all_evs : ∀ f, AllEv f := by
  intro f
  induction f with
  | zero => intro v b off cap pa pc ahead w hv hf; have := (fault_len hv).1; omega
  | succ f ih =>
    intro v b off cap pa pc ahead w hv hf hrow hb hcap hpt hnil hpc hpc2 hsz hst
    by_cases h0 : (v.getD 0 M.zero).n = 0
    · exact evS_leaf f v b off cap pa pc ahead w hv hrow hb hcap hpt hnil hpc hpc2 hsz hst h0
    · exact evS_more f (hide ih) v b off cap pa pc ahead w hv hf hrow hb hcap hpt hnil hpc hpc2 hsz hst h0
end Al
end Go.Proofs.YtcglddahphkcpaaGreatDoor
