/-
  spec.l13All: the paths of a value and of all in it.
-/
import Derived.Test.YtlbmpldknfcfhaaDoorU19
import Derived.Test.YtlbmpldknfcfhaaDoorU29
namespace Go.Proofs.YtlbmpldknfcfhaaDoor
open Go.RowKit
set_option linter.unusedVariables false
set_option linter.unusedSimpArgs false
namespace Al
/-- What l13All says, for values of at most f cells. -/
def AllSays (f : Nat) : Prop := ∀ (v : List M.Cl) (b off cap : Nat) (pa : Option Addr) (pc : Nat) (ahead : List M.Cl) (leaves : Bool) (w : World), M.valueFault v = 0 → v.length ≤ f → Row w b off v → b < w.heap.size → v.length ≤ cap → PT w pa ahead → (ahead = [] → pa = none ∧ pc = 0) → ahead.length ≤ pc → pc ≤ 9223372036854775807 → ahead.length + v.length ≤ 300 →
  Calls Tryd.prog 64 #[.slice (some ⟨b, off, none⟩) v.length cap, .slice pa ahead.length pc, .bool leaves] w fun e w' => ∃ s, e = .returned s ∧ PPL w' w.heap.size s (all leaves f v ahead) ∧ Below w.heap.size w w'
theorem infoPP : (Tryd.prog.info? 50).map (fun i => (i.zero, i.size, i.bytes)) = some (some (.slice none 0 0), 1, 24) := by kernel_rfl
theorem empty_row (w : World) (B : Nat) (t : TypeId) (hB : B ≤ w.heap.size) : (w.alloc (.cells #[] t)).ownsRow B t 1 (.slice (some ⟨w.heap.size, 0, none⟩) 0 0) 0 [] := ⟨rfl, .inr ⟨w.heap.size, 0, #[], rfl, hB, heap_alloc_new _ _, Nat.le_refl _, by simp [maxLen], rfl, rfl⟩⟩
/-- What an append reads of a slice of steps, wherever what was there is kept. -/
theorem PT.read {w : World} {pa : Option Addr} {pc : Nat} {cs : List M.Cl} (h : PT w pa cs) (hn : cs = [] → pa = none ∧ pc = 0) : ∃ vs, vs.length = cs.length ∧ (∀ W, Below w.heap.size w W → Sl W vs cs) ∧ ∀ W, Below w.heap.size w W → ((Value.slice pa cs.length pc = .slice none 0 0 ∧ vs = []) ∨ ∃ ad c, Value.slice pa cs.length pc = .slice (some ad) vs.length c ∧ ∀ j u, vs[j]? = some u → W.cell? (ad.add j) = some u) := by
  obtain ⟨vs, h1, h2⟩ := h
  refine ⟨vs, h1.1, fun W hW => h1.keep (Kq.ofBelow hW), fun W hW => ?_⟩
  rcases h2 with h2 | ⟨g, o, c, h3, h4, h5⟩
  · obtain ⟨e1, e2⟩ := hn h2
    subst h2
    exact .inl ⟨by rw [e1, e2]; rfl, List.length_eq_zero_iff.1 h1.1⟩
  · refine .inr ⟨⟨g, o, none⟩, pc, by rw [h3, h1.1], fun j u hu => ?_⟩
    have hj : j < cs.length := by rw [← h1.1]; exact (List.getElem?_eq_some_iff.1 hu).1
    have h4' : W.heap[g]? = some (.cells c 27 (0, 0)) := (hW.block g (Array.getElem?_eq_some_iff.1 h4).1).trans h4
    rw [Go.WideShapes.add_plain, cell_in h4', h5 j hj, hu]
/-- What an append reads of a row of paths. -/
theorem row_read {w : World} {B : Nat} {t : TypeId} {s : Value} {n : Nat} {xs : List Value} (h : w.ownsRow B t 1 s n xs) : (s = .slice none 0 0 ∧ xs = []) ∨ ∃ ad c, s = .slice (some ad) xs.length c ∧ ∀ j u, xs[j]? = some u → w.cell? (ad.add j) = some u := by
  have hl : xs.length = n := by have := h.1; omega
  rcases h.2 with ⟨h2, h3⟩ | ⟨g, cap, cur, h2, h3, h4, h5, h6, h7, h8⟩
  · exact .inl ⟨h2, List.length_eq_zero_iff.1 (by omega)⟩
  · refine .inr ⟨⟨g, 0, none⟩, cap, by rw [hl]; exact h2, fun j u hu => ?_⟩
    have hj : j < xs.length := (List.getElem?_eq_some_iff.1 hu).1
    rw [Go.WideShapes.add_plain, Nat.zero_add, cell_in h4, ← hu, ← h8, List.getElem?_take_of_lt (by omega)]
theorem row_below {w w' : World} {B : Nat} {t : TypeId} {s : Value} {n sz : Nat} {xs : List Value} (h : w.ownsRow B t sz s n xs) (hb : Below w.heap.size w w') : w'.ownsRow B t sz s n xs := ownsRow_below (B := 0) h hb
theorem row_shape {w : World} {B : Nat} {t : TypeId} {s : Value} {n sz : Nat} {xs : List Value} (h : w.ownsRow B t sz s n xs) : ∃ a k c, s = .slice a k c := by
  rcases h.2 with ⟨h2, _⟩ | ⟨g', cap, cur, h2, h3, _⟩
  · exact ⟨_, _, _, h2⟩
  · exact ⟨_, _, _, h2⟩
theorem cell_block {w w' : World} {b j : Nat} (h : w'.heap[b]? = w.heap[b]?) : w'.cell? ⟨b, j, none⟩ = w.cell? ⟨b, j, none⟩ := by
  unfold World.cell?
  simp only [h]
theorem row_base {w : World} {B : Nat} {t : TypeId} {s : Value} {n sz : Nat} {xs : List Value} (h : w.ownsRow B t sz s n xs) : ∀ g, s.ownBlock = some g → B ≤ g := by
  intro g hg
  rcases h.2 with ⟨h2, _⟩ | ⟨g', cap, cur, h2, h3, _⟩
  · rw [h2] at hg; cases hg
  · rw [h2] at hg; cases hg; exact h3

set_option maxRecDepth 100000 in
set_option maxHeartbeats 40000000 in
theorem all_every (f : Nat) (ih : Hid (AllSays f)) (v : List M.Cl) (b off cap : Nat) (pa : Option Addr) (pc : Nat) (ahead : List M.Cl) (w : World) (hv : M.valueFault v = 0) (hf : v.length ≤ f + 1) (hrow : Row w b off v) (hb : b < w.heap.size) (hcap : v.length ≤ cap) (hpt : PT w pa ahead) (hnil : ahead = [] → pa = none ∧ pc = 0) (hpc : ahead.length ≤ pc) (hpc' : pc ≤ 9223372036854775807) (hsz : ahead.length + v.length ≤ 300) :
    Calls Tryd.prog 64 #[.slice (some ⟨b, off, none⟩) v.length cap, .slice pa ahead.length pc, .bool false] w fun e w' => ∃ s, e = .returned s ∧ PPL w' w.heap.size s (all false (f + 1) v ahead) ∧ Below w.heap.size w w' := by
  have hl1 := (M.fault_zero hv).1
  have hl2 := (M.fault_zero hv).2.1
  have hlI : (0 : Int) < (v.length : Int) := by omega
  obtain ⟨i1, hi1, hx0, hx1, hx2⟩ := info_parts Tryd.info27
  obtain ⟨i2, hi2, hy0, hy1, hy2⟩ := info_parts infoPP
  obtain ⟨W0, hW0⟩ : ∃ W0, W0 = w.alloc (.cells #[] 50) := ⟨_, rfl⟩
  have B0 : Below w.heap.size w W0 := by rw [hW0]; exact (Below.refl _ _).alloc (Nat.le_refl _) _
  have hW0s : Hid (W0.heap.size = w.heap.size + 1) := hide (by rw [hW0]; simp)
  have OR0 := hide (show W0.ownsRow w.heap.size 50 1 (.slice (some ⟨w.heap.size, 0, none⟩) 0 0) 0 [] by rw [hW0]; exact empty_row w _ _ (Nat.le_refl _))
  obtain ⟨f0, _, _, _, f4⟩ := (hrow.below B0 hb) 0 (by omega)
  simp only [Nat.zero_mul, Nat.add_zero] at f0 f4
  have hsubs := subs_all hv (Pth.oks hv)
  have HPA := hide (fun W (h : Below w.heap.size w W) => l1Parts_any v b off cap W hv (hrow.below h hb) (Nat.lt_of_lt_of_le hb h.size) hcap (Pth.oks hv))
  have HKA := hide (fun W (h : Below w.heap.size w W) => l1Keys_any v b off cap W hv (hrow.below h hb) (Nat.lt_of_lt_of_le hb h.size) hcap (Pth.oks hv))
  have HNE := hide hsubs.2.2.2
  have HC0 := hide (fun W (h : Below w.heap.size w W) => ((hrow.below h hb) 0 (by omega)).1)
  simp only [Nat.zero_mul, Nat.add_zero] at HC0
  have HPL := hide (fun k (hk : k < M.arity v 0) => part_lt hv hk)
  have HAK := hide (fun k (hk : k ≤ M.arity v 0) => allK_len false f hv ahead k hk)
  have HGL := hide (fun p ah (hp : M.valueFault p = 0) => Nat.le_trans (all_len false f p ah hp) (M.fault_zero hp).2.1)
  have HST := hide (fun k (hk : k < M.arity v 0) => (step_to hv hk).1)
  have HIT := hide (fun k (hk : k ≤ M.arity v 0) => iter_le hv hk)
  have HSG := hide (fun k (hk : k < M.arity v 0) => (show (subs v 0).getD k [] = part v (M.iter v k 1) by rw [subs_getD v 0 k hk, Nat.zero_add]))
  have HSL := hide (subs_length v 0)
  have HKL := hide (keysAt_length v 0)
  have HOK := hide hsubs.2.2.1
  have hn200 : M.arity v 0 ≤ 200 := by rw [← subs_length]; exact hsubs.1
  have hend := (iter_le hv (Nat.le_refl (M.arity v 0))).2
  obtain ⟨vs, hvl, hvs, hrd⟩ := hpt.read hnil
  have HVS := hide hvs
  have HRD := hide hrd
  have hvp := hide (hvs w (Below.refl _ _)).plain
  have HPT := hide hpt
  have HNI := hide hnil
  have HVL := hide hvl
  have HE := hide (show all false (f + 1) v ahead = own false (v.getD 0 M.zero).n ahead ++ allK (all false f) (decide ((v.getD 0 M.zero).kind = 6)) (keysAt v 0) (subs v 0) ahead (M.arity v 0) from rfl)
  have hol := own_len false (v.getD 0 M.zero).n ahead
  have B00 := B0
  clear hv hrow hpt hnil hsubs hvs hrd
  rw [show own false (v.getD 0 M.zero).n ahead = [ahead] from if_pos (.inl rfl)] at HE hol
  generalize (v.getD 0 M.zero).n = n0 at *
  skip
  obtain ⟨Wa, hWa⟩ : ∃ Wa, Wa = W0.alloc (.cells #[] 27) := ⟨_, rfl⟩
  have Ba : Below W0.heap.size W0 Wa := by rw [hWa]; exact (Below.refl _ _).alloc (Nat.le_refl _) _
  have Ra := hide (show Wa.ownsRow W0.heap.size 27 1 (.slice (some ⟨W0.heap.size, 0, none⟩) 0 0) 0 [] by rw [hWa]; exact empty_row W0 _ _ (Nat.le_refl _))
  have HRDa := hide ((unhide HRD) Wa (B0.trans (Ba.mono B0.size)))
  have hb63 : 0 + vs.length ≤ maxLen := by unfold maxLen; omega
  have hby : (0 + vs.length) * 24 ≤ 140737488355328 := by omega
  have hbas : W0.heap.size ≤ Wa.heap.size := Ba.size
  have HBA := hide Ba
  clear Ba hvl
  go_enter Tryd.func64, Tryd.ntmps64
  go_upto_region 2 with fail
  rw [← hW0]
  clear hW0
  go_wp2_with (at_builtin; (try rw [← hWa]); refine wpList_row rfl (.tmp 23) (.tmp 24) 50 rfl 27 i1 (.slice none 0 0) 24 Tryd.underlying50 hi1 hx0 hx1 hx2 rfl W0.heap.size (.slice (some ⟨W0.heap.size, 0, none⟩) 0 0) 0 [] rfl (unhide Ra) (.slice pa ahead.length pc) rfl vs (unhide HRDa) (unhide hvp) hb63 hby hbas ?_)
  intro v1 w1 ho1 hg1
  try rw [← hWa] at hg1
  have B1 : Below W0.heap.size W0 w1 := (unhide HBA).grown hg1 hbas (fun q hq => by cases hq; exact Nat.le_refl _)
  have Bw1 : Below w.heap.size w w1 := B0.trans (B1.mono B0.size)
  have ho1 : w1.ownsRow W0.heap.size 27 1 v1 ahead.length vs := by have h := ho1; have e := unhide HVL; first | (simp only [List.nil_append, Nat.zero_add] at h; rw [e] at h; exact h) | (rw [e] at h; exact h) | exact h
  obtain ⟨a1, c1, rfl, h1c, h1m, hpt1⟩ := PT.of_own ho1 ((unhide HVS) w1 Bw1)
  have HP1 := hide hpt1
  clear ho1 hg1 hpt1 Ra HRDa hb63 hby hbas HBA hWa
  obtain ⟨Wb, hWb⟩ : ∃ Wb, Wb = w1.alloc (.cells #[.slice a1 ahead.length c1] 50) := ⟨_, rfl⟩
  have Bb : Below w1.heap.size w1 Wb := by rw [hWb]; exact (Below.refl _ _).alloc (Nat.le_refl _) _
  have Rb := hide (row_below (unhide OR0) (B1.trans (Bb.mono B1.size)))
  have HNb := hide (show ∀ j u, ([Value.slice a1 ahead.length c1] : List Value)[j]? = some u → Wb.cell? ((⟨w1.heap.size, 0, none⟩ : Addr).add j) = some u by rw [hWb]; exact one_val w1 _ _)
  have hb63 : 0 + ([Value.slice a1 ahead.length c1] : List Value).length ≤ maxLen := by unfold maxLen; simp
  have hby : (0 + ([Value.slice a1 ahead.length c1] : List Value).length) * 24 ≤ 140737488355328 := by simp
  have hbas : w.heap.size ≤ Wb.heap.size := Nat.le_trans Bw1.size Bb.size
  have HBb := hide Bb
  clear Bb
  go_wp2_with (at_builtin; (try rw [← hWb]); refine wpList_row rfl (.tmp 22) (.tmp 26) 90 rfl 50 i2 (.slice none 0 0) 24 Tryd.underlying90 hi2 hy0 hy1 hy2 rfl w.heap.size (.slice (some ⟨w.heap.size, 0, none⟩) 0 0) 0 [] rfl (unhide Rb) (.slice (some ⟨w1.heap.size, 0, none⟩) 1 1) rfl [.slice a1 ahead.length c1] (.inr ⟨_, 1, rfl, unhide HNb⟩) (by intro u hu; rw [List.mem_singleton.1 hu]; rfl) hb63 hby hbas ?_)
  intro s7 W2 ho2 hg2
  try rw [← hWb] at hg2
  have B2 : Below w.heap.size w W2 := (Bw1.trans ((unhide HBb).mono Bw1.size)).grown hg2 hbas (fun q hq => by cases hq; exact Nat.le_refl _)
  have P2h := hide (show PPL W2 w.heap.size s7 [ahead] from PPL.app (L := []) (M' := [ahead]) (xs := []) (ys := [.slice a1 ahead.length c1]) (w := Wb) rfl (fun i hi => by simp at hi) rfl (fun i hi => by
    have : i = 0 := by simp at hi; exact hi
    subst this
    exact ⟨a1, c1, rfl, h1c, h1m, (unhide HP1).keep (Kq.ofBelow (unhide HBb))⟩) ho2 (Kq.grown (unhide Rb) (by decide) (by decide) (by decide) hg2))
  obtain ⟨O, hO⟩ : ∃ O, O = [ahead] := ⟨_, rfl⟩
  rw [← hO] at P2h HE hol
  clear ho2 hg2 hO Rb HNb hb63 hby hbas HBb hWb HP1 h1c h1m B1 Bw1 f0 f4 hW0s OR0 B00 B0

  obtain ⟨n, hn⟩ : ∃ n, n = M.arity v 0 := ⟨_, rfl⟩
  rw [← hn] at HPL HAK HST HIT HSG HSL HKL hn200 hend HE
  clear hn
  obtain ⟨ob, hob⟩ : ∃ ob, ob = decide ((v.getD 0 M.zero).kind = 6) := ⟨_, rfl⟩
  rw [← hob] at HE HAK HST
  have h6y : Hid (ob = true → (v.getD 0 M.zero).kind = 6) := hide (fun h => by rw [hob] at h; exact of_decide_eq_true h)
  have h6n : Hid (ob = false → (v.getD 0 M.zero).kind ≠ 6) := hide (fun h => by rw [hob] at h; exact of_decide_eq_false h)
  clear hob
  generalize (v.getD 0 M.zero).kind = kd at *
  generalize keysAt v 0 = ks at *
  generalize hps : subs v 0 = ps at *
  have HPS := hide hps
  clear hps
  obtain ⟨a7, n7, c7, e7⟩ := (unhide P2h).shape
  cases e7
  go_wp2_with fail
  refine ((unhide HPA) W2 B2).mono ?_
  rintro e3 W3 ⟨s8, rfl, hss, hb3⟩
  have B3 : Below w.heap.size w W3 := B2.trans (hb3.mono B2.size)
  have P3h := hide ((unhide P2h).below hb3)
  obtain ⟨a8, c8, rfl, hc8, _⟩ := hss.lv (unhide HNE)
  have HSS := hide hss
  rw [unhide HSL] at hc8
  clear hb3 hss P2h B2 HPA
  go_wp2_with fail
  refine ((unhide HKA) W3 B3).mono ?_
  rintro e4 W4 ⟨s9, rfl, hks, hb4⟩
  have B4 : Below w.heap.size w W4 := B3.trans (hb4.mono B3.size)
  have P4h := hide ((unhide P3h).below hb4)
  have HSS4 := hide ((unhide HSS).below hb4)
  obtain ⟨a9, c9, rfl, hc9, _⟩ := hks.tv
  have HKS := hide hks
  rw [unhide HKL] at hc9
  clear hb4 hks P3h HSS B3 HKA
  rw [unhide HSL, unhide HKL]
  go_wp2_with fail
  go_loopg [7, 10] n (fun gh s7 s10 wr => ∃ k : Nat, Hid (gh = n - k) ∧ s10 = .int .i64 (k : Int) ∧ k ≤ n ∧ Hid (PPL wr w.heap.size s7 (O ++ allK (all false f) ob ks ps ahead k)) ∧ Hid (SS wr W2.heap.size (.slice a8 n c8) ps) ∧ Hid (KS wr W3.heap.size (.slice a9 n c9) ks) ∧ Below w.heap.size w wr)
  case atStart => exact ⟨0, rfl, rfl, by omega, by rw [show allK (all false f) ob ks ps ahead 0 = [] from rfl, List.append_nil]; exact P4h, by have h := HSS4; rw [unhide HSL] at h; exact h, by have h := HKS; rw [unhide HKL] at h; exact h, B4⟩
  case round =>
    clear P4h HSS4 HKS B4
    obtain ⟨k, hg, rfl, hk, hP, hS, hKs, hbel⟩ := hrel
    obtain ⟨a7, n7, c7, rfl⟩ := (hP.out).shape
    by_cases hlt : k < n
    · have hltI : (k : Int) < (n : Int) := by omega
      have hk0 : (0 : Int) ≤ (k : Int) := by omega
      have HLT := hide hlt
      clear hlt
      go_wp2_with fail
      refine (l1Number_any (k : Int) wr).mono ?_
      rintro e5 W5 ⟨s5, rfl, hr5, hb5⟩
      have B5 : Below w.heap.size w W5 := hbel.trans (hb5.mono hbel.size)
      have HP5 := hide (hP.out.below hb5)
      have HS5 := hide (hS.out.below hb5)
      have HK5 := hide (hKs.out.below hb5)
      obtain ⟨b11, d11, rfl, hd11, _, _, _⟩ := hr5.rowedQ (by simp)
      have HR5 := hide hr5
      have hc5 := (unhide HC0) W5 B5
      simp only [List.length_cons, List.length_nil, Nat.zero_add] at hd11 HR5 ⊢
      clear hr5 hb5 hbel hP hS hKs
      cases hob : ob
      · have hkn := (unhide h6n) hob
        have hkb : (kd == 6) = false := by simp [hkn]
        have hst := hide (show OwnG W5 b11 44 [stepAt ob ks k] by
          obtain ⟨_, ⟨h1, _⟩ | ⟨b, cap, h1, h2, h3, h4⟩⟩ := unhide HR5
          · cases h1
          · cases h1
            rw [hob]; exact h4)
        clear hkn HR5
        go_upto_region 12 with fail
        clear hc5 hkb
        obtain ⟨ss, hss1, hss2, hss3⟩ := unhide HS5
        have hk8 : k < ps.length := by rw [unhide HSL]; exact unhide HLT
        rcases hss2.2 with ⟨h0, _⟩ | ⟨g8, cc8, cur8, e8, hB8, hh8, hn8, hm8, hr8, ht8⟩
        · rw [unhide HSL] at *
          simp only [Value.slice.injEq] at h0
          exact absurd h0.2.1 (by have := unhide HLT; omega)
        rw [unhide HSL] at e8
        cases e8
        have HSG8 := (unhide HSG) k (unhide HLT)
        have hpv : M.valueFault (ps.getD k []) = 0 := by rw [HSG8]; exact ((unhide HPL) k (unhide HLT)).2.2
        have hpl : (ps.getD k []).length + ahead.length + 1 ≤ 300 ∧ (ps.getD k []).length ≤ f := by
          have a := ((unhide HPL) k (unhide HLT)).2.1
          have b := (unhide HIT) (k + 1) (unhide HLT)
          have c := (unhide HIT) k (Nat.le_of_lt (unhide HLT))
          rw [HSG8]
          omega
        clear HSG8
        obtain ⟨q, hq⟩ : ∃ q, q = ps.getD k [] := ⟨_, rfl⟩
        have HQ := hide hq
        rw [← hq] at hpv hpl
        have hss3k := hss3 k hk8
        rw [← hq] at hss3k
        clear hq
        obtain ⟨bk, ck, ek, hck, _, hbk, hrowk⟩ := hss3k.rowedQ (Pth.val_ne hpv)
        have x8 : cur8.toList[k]? = some (.slice (some ⟨bk, 0, none⟩) q.length ck) := by
          have h1 : cur8.toList[k]? = ss[k]? := by rw [← ht8, List.getElem?_take_of_lt (by omega)]
          rw [h1, List.getElem?_eq_getElem (by omega), ← ek, List.getD_eq_getElem?_getD, List.getElem?_eq_getElem (by omega)]
          rfl
        have KEEP := hide (show ∀ W : World, Below W5.heap.size W5 W → (W.heap[g8]? = some (.cells cur8 27 (0, 0))) from fun W hW => (hW.block g8 (Array.getElem?_eq_some_iff.1 hh8).1).trans hh8)
        have KEEPC := hide (show ∀ W : World, (W.heap[g8]? = some (.cells cur8 27 (0, 0))) → W.cell? ⟨g8, k, none⟩ = some (.slice (some ⟨bk, 0, none⟩) q.length ck) from fun W hW => (cell_in hW).trans x8)
        have hS0 : (W5.drew.heap[g8]? = some (.cells cur8 27 (0, 0))) := hh8
        have BR := Below.refl W5.heap.size W5
        have hvl9 : vs.length ≤ 300 := by rw [unhide HVL]; omega
        clear hss1 hss2 hss3 hss3k ek x8 hn8 hm8 hr8 ht8 hB8 hk8
        refine Z.region 14 (fun w' => (w'.heap[g8]? = some (.cells cur8 27 (0, 0)))) (by kernel_rfl) hS0 (fun hHeld => ?_)
        refine Z.take (i := 0) (d := 50) (v := .slice a7 n7 c7) rfl rfl (by kernel_rfl) (by kernel_rfl) (by kernel_rfl) (by kernel_rfl) (fun _ _ _ h => h) (Or.inl ⟨by rfl, ?_⟩) hHeld ?_
        · intro w' hSw; go_simp
        simp only [Act.put, List.setIfInBounds_toArray, List.set_cons_zero, List.set_cons_succ]
        refine Z.take (i := 1) (d := 51) (v := .slice (some ⟨g8, 0, none⟩) n c8) rfl rfl (by kernel_rfl) (by kernel_rfl) (by kernel_rfl) (by kernel_rfl) (fun _ _ _ h => h) (Or.inl ⟨by rfl, ?_⟩) hHeld ?_
        · intro w' hSw; go_simp
        simp only [Act.put, List.setIfInBounds_toArray, List.set_cons_zero, List.set_cons_succ]
        refine Z.take (i := 2) (d := 52) (v := .int .i64 k) rfl rfl (by kernel_rfl) (by kernel_rfl) (by kernel_rfl) (by kernel_rfl) (fun _ _ _ h => h) (Or.inl ⟨by rfl, ?_⟩) hHeld ?_
        · intro w' hSw; go_simp
        simp only [Act.put, List.setIfInBounds_toArray, List.set_cons_zero, List.set_cons_succ]
        refine Z.take (i := 3) (d := 53) (v := .pointer (some ⟨g8, k, none⟩)) rfl rfl (by kernel_rfl) (by kernel_rfl) (by kernel_rfl) (by kernel_rfl) (fun _ _ _ h => h) (Or.inl ⟨by rfl, ?_⟩) hHeld ?_
        · intro w' hSw; go_simp
        simp only [Act.put, List.setIfInBounds_toArray, List.set_cons_zero, List.set_cons_succ]
        refine Z.take (i := 4) (d := 54) (v := .slice (some ⟨bk, 0, none⟩) q.length ck) rfl rfl (by kernel_rfl) (by kernel_rfl) (by kernel_rfl) (by kernel_rfl) (fun _ _ _ h => h) (Or.inl ⟨by rfl, ?_⟩) hHeld ?_
        · intro w' hSw; have g2 := (unhide KEEPC) _ hSw; go_simp
        simp only [Act.put, List.setIfInBounds_toArray, List.set_cons_zero, List.set_cons_succ]
        refine Z.take (i := 6) (d := 56) (v := .slice pa ahead.length pc) rfl rfl (by kernel_rfl) (by kernel_rfl) (by kernel_rfl) (by kernel_rfl) (fun _ _ _ h => h) (Or.inl ⟨by rfl, ?_⟩) hHeld ?_
        · intro w' hSw; go_simp
        simp only [Act.put, List.setIfInBounds_toArray, List.set_cons_zero, List.set_cons_succ]
        refine Z.take (i := 8) (d := 58) (v := .slice (some ⟨b11, 0, none⟩) 1 d11) rfl rfl (by kernel_rfl) (by kernel_rfl) (by kernel_rfl) (by kernel_rfl) (fun _ _ _ h => h) (Or.inl ⟨by rfl, ?_⟩) hHeld ?_
        · intro w' hSw; go_simp
        simp only [Act.put, List.setIfInBounds_toArray, List.set_cons_zero, List.set_cons_succ]
        refine Z.take (i := 11) (d := 61) (v := .bool false) rfl rfl (by kernel_rfl) (by kernel_rfl) (by kernel_rfl) (by kernel_rfl) (fun _ _ _ h => h) (Or.inl ⟨by rfl, ?_⟩) hHeld ?_
        · intro w' hSw; go_simp
        simp only [Act.put, List.setIfInBounds_toArray, List.set_cons_zero, List.set_cons_succ]

        clear KEEPC
        obtain ⟨Wa, hWa⟩ : ∃ Wa, Wa = (W5.alloc (.cells #[] 27)).drew := ⟨_, rfl⟩
        have Ba : Below W5.heap.size W5 Wa := by rw [hWa]; exact (BR.alloc (Nat.le_refl _) _).drew
        have Ra := hide (show Wa.ownsRow W5.heap.size 27 1 (.slice (some ⟨W5.heap.size, 0, none⟩) 0 0) 0 [] by rw [hWa]; exact empty_row W5 _ _ (Nat.le_refl _))
        have haS : Hid (Wa.heap.size = W5.heap.size + 1) := hide (by rw [hWa]; simp)
        obtain ⟨Wq, hWq⟩ : ∃ Wq, Wq = (W5.alloc (.cells #[.slice (some ⟨b11, 0, none⟩) 1 d11] 27)).drew := ⟨_, rfl⟩
        have Bq : Below W5.heap.size W5 Wq := by rw [hWq]; exact (BR.alloc (Nat.le_refl _) _).drew
        have hNq : ∀ j u, ([Value.slice (some ⟨b11, 0, none⟩) 1 d11] : List Value)[j]? = some u → Wq.cell? ((⟨W5.heap.size, 0, none⟩ : Addr).add j) = some u := by rw [hWq]; exact one_val W5 _ _
        have hqS : Hid (Wq.heap.size = W5.heap.size + 1) := hide (by rw [hWq]; simp)
        refine Z.ready (rs := [5, 9]) (by kernel_rfl) (by simp) (Z.val_cons (i := 5) (d := 55) (v := .slice (some ⟨W5.heap.size, 0, none⟩) 0 0) (w' := Wa) rfl (by rfl) (fun K hK => ?_) (fun _ => (unhide KEEP) Wa Ba) ?_ (Z.val_cons (i := 9) (d := 59) (v := .slice (some ⟨W5.heap.size, 0, none⟩) 1 1) (w' := Wq) rfl (by rfl) (fun K hK => ?_) (fun _ => (unhide KEEP) Wq Bq) ?_ Z.All.nil))
        · go_simp
          rw [← hWa]
          exact hK.out
        · simp only [Act.put, List.setIfInBounds_toArray, List.set_cons_zero, List.set_cons_succ]
          clear hWa hWq hNq Bq hqS
          obtain ⟨Wc, hWc⟩ : ∃ Wc, Wc = Wa.alloc (.cells #[.slice (some ⟨b11, 0, none⟩) 1 d11] 27) := ⟨_, rfl⟩
          have Bc : Below Wa.heap.size Wa Wc := by rw [hWc]; exact (Below.refl _ _).alloc (Nat.le_refl _) _
          have hNc : ∀ j u, ([Value.slice (some ⟨b11, 0, none⟩) 1 d11] : List Value)[j]? = some u → Wc.cell? ((⟨Wa.heap.size, 0, none⟩ : Addr).add j) = some u := by rw [hWc]; exact one_val Wa _ _
          have BVc : Below W5.heap.size W5 Wc := Ba.trans (Bc.mono Ba.size)
          refine Z.ready (rs := [7, 9]) (by kernel_rfl) (by simp) (Z.call_cons (i := 7) rfl (by rfl) (fun K hK => ?_) (Z.val_cons (i := 9) (d := 59) (v := .slice (some ⟨Wa.heap.size, 0, none⟩) 1 1) (w' := Wc) rfl (by rfl) (fun K hK => ?_) (fun _ => (unhide KEEP) Wc BVc) ?_ Z.All.nil))
          · refine wp_row _ (.tmp 55) (.tmp 56) 50 rfl 27 i1 (.slice none 0 0) 24 Tryd.underlying50 hi1 hx0 hx1 hx2 rfl W5.heap.size (.slice (some ⟨W5.heap.size, 0, none⟩) 0 0) 0 [] rfl (unhide Ra) (.slice pa ahead.length pc) rfl vs ((unhide HRD) _ (B5.trans (Ba.mono B5.size))) (unhide hvp) (by unfold maxLen; omega) (by omega) Ba.size ?_
            intro v57 Wb ho7 hg7
            have Bb : Below W5.heap.size W5 Wb := Ba.grown hg7 Ba.size (fun q hq => by cases hq; exact Nat.le_refl _)
            have ho7 : Wb.ownsRow W5.heap.size 27 1 v57 vs.length vs := by have h := ho7; first | (simp only [List.nil_append, Nat.zero_add] at h; exact h) | exact h
            clear hg7 hWc Bc hNc BVc
            obtain ⟨Wc, hWc⟩ : ∃ Wc, Wc = Wb.alloc (.cells #[.slice (some ⟨b11, 0, none⟩) 1 d11] 27) := ⟨_, rfl⟩
            have Bc : Below Wb.heap.size Wb Wc := by rw [hWc]; exact (Below.refl _ _).alloc (Nat.le_refl _) _
            have hNc : ∀ j u, ([Value.slice (some ⟨b11, 0, none⟩) 1 d11] : List Value)[j]? = some u → Wc.cell? ((⟨Wb.heap.size, 0, none⟩ : Addr).add j) = some u := by rw [hWc]; exact one_val Wb _ _
            have BVc : Below W5.heap.size W5 Wc := Bb.trans (Bc.mono Bb.size)
            have HO7 := hide (row_below ho7 Bc)
            obtain ⟨x7, y7, z7, e7⟩ : ∃ a k c, v57 = .slice a k c := row_shape ho7
            subst e7
            refine hK.out _ _ (fun _ => (unhide KEEP) Wb Bb) ?_
            clear hK K ho7
            simp only [Act.put, List.setIfInBounds_toArray, List.set_cons_zero, List.set_cons_succ]
            refine Z.ready (rs := [9]) (by kernel_rfl) (by simp) (Z.val_cons (i := 9) (d := 59) (v := .slice (some ⟨Wb.heap.size, 0, none⟩) 1 1) (w' := Wc) rfl (by rfl) (fun K hK => ?_) (fun _ => (unhide KEEP) Wc BVc) ?_ Z.All.nil)
            · go_simp
              rw [← hWc]
              exact hK.out
            simp only [Act.put, List.setIfInBounds_toArray, List.set_cons_zero, List.set_cons_succ]
            clear hWc
            refine Z.only (i := 10) (d := 60) rfl rfl (by kernel_rfl) (by rfl) (fun K hK => ?_)
            refine wp_row _ (.tmp 57) (.tmp 59) 50 rfl 27 i1 (.slice none 0 0) 24 Tryd.underlying50 hi1 hx0 hx1 hx2 rfl W5.heap.size (.slice x7 y7 z7) vs.length vs rfl (unhide HO7) (.slice (some ⟨Wb.heap.size, 0, none⟩) 1 1) rfl [.slice (some ⟨b11, 0, none⟩) 1 d11] (.inr ⟨_, 1, rfl, hNc⟩) (by intro u hu; rw [List.mem_singleton.1 hu]; rfl) (by unfold maxLen; simp; omega) (by simp; omega) BVc.size ?_
            intro v60 Wd ho10 hg10
            have Bd : Below W5.heap.size W5 Wd := BVc.grown hg10 BVc.size (row_base (unhide HO7))
            clear hg10 HO7 hNc BVc Bc Bb Ra haS Ba
            have HO10 := hide ho10
            clear ho10
            have hst10 := hide ((Kq.ofBelow Bd).ownG (unhide hst))
            have hsl10 := hide (((unhide HVS) Wd (B5.trans (Bd.mono B5.size))).snoc hd11 (unhide hst10))
            obtain ⟨ah, hah⟩ : ∃ ah, ah = ahead ++ [stepAt ob ks k] := ⟨_, rfl⟩
            have HAH := hide hah
            have hal : Hid (ah.length = ahead.length + 1) := hide (by rw [hah]; simp)
            have han : Hid (ah = [] → False) := hide (fun h => by rw [hah] at h; simp at h)
            obtain ⟨a60, c60, e60, h60c, h60m, hpt60⟩ := PT.of_own (cs := ah) (by rw [hah, List.length_append, List.length_cons, List.length_nil, ← unhide HVL]; exact unhide HO10) (by rw [hah]; exact unhide hsl10)
            clear hah
            subst e60
            have HC12 := hide (ih.out q bk 0 ck a60 c60 ah false Wd hpv (by have := hpl; omega) (hrowk.below Bd hbk) (Nat.lt_of_lt_of_le hbk Bd.size) hck hpt60 (fun h => ((unhide han) h).elim) h60c h60m (by have := hpl; have := unhide hal; omega))
            refine hK.out (.slice a60 ah.length c60) Wd ((unhide KEEP) Wd Bd) ?_
            clear hK K HO10 hsl10 hst10 hpt60 han
            simp only [Act.put, List.setIfInBounds_toArray, List.set_cons_zero, List.set_cons_succ]
            refine Z.only (i := 12) (d := 62) rfl rfl (by kernel_rfl) (by rfl) (fun K hK => ?_)
            go_simp
            refine (unhide HC12).mono ?_
            rintro e12 We ⟨s62, rfl, hp62, hbe⟩
            have BWe : Below W5.heap.size W5 We := Bd.trans (hbe.mono Bd.size)
            obtain ⟨a62, n62, c62, rfl⟩ := hp62.shape
            have HP62 := hide hp62
            go_simp
            refine hK.out (.slice a62 n62 c62) We ((unhide KEEP) We BWe) ?_
            clear hK K HC12 hbe hp62
            simp only [Act.put, List.setIfInBounds_toArray, List.set_cons_zero, List.set_cons_succ]
            obtain ⟨ys, hy3, hy4⟩ := unhide HP62
            obtain ⟨xs, hx3, hx4⟩ := (unhide HP5).below BWe
            have hxl : xs.length = (O ++ allK (all false f) ob ks ps ahead k).length := by have := hx3.1; omega
            have hyl : ys.length = (all false f q ah).length := by have := hy3.1; omega
            have hLL : (O ++ allK (all false f) ob ks ps ahead k).length ≤ 201 := by rw [List.length_append]; have := (unhide HAK) k (Nat.le_of_lt (unhide HLT)); omega
            have hGG := (unhide HGL) q ah hpv
            have hGy : ys.length ≤ 200 := by rw [hyl]; exact hGG
            refine Z.only (i := 13) (d := 63) rfl rfl (by kernel_rfl) (by rfl) (fun K hK => ?_)
            refine wp_row _ (.tmp 50) (.tmp 62) 90 rfl 50 i2 (.slice none 0 0) 24 Tryd.underlying90 hi2 hy0 hy1 hy2 rfl w.heap.size (.slice a7 n7 c7) _ xs rfl hx3 (.slice a62 n62 c62) rfl ys (row_read hy3) (PPL.plain hyl hy4) (by unfold maxLen; omega) (by omega) (by have := B5.size; have := BWe.size; omega) ?_
            intro s63 Wf ho13 hg13
            have KQ13 := Kq.grown hx3 (by decide) (by decide) (by decide) hg13
            have HPF := hide (show PPL Wf w.heap.size s63 (O ++ allK (all false f) ob ks ps ahead (k + 1)) from by
              have h := PPL.app (w := We) hxl hx4 hyl hy4 (by rw [← hyl]; exact ho13) KQ13
              rw [List.append_assoc, unhide HQ, unhide HAH] at h
              exact h)
            have HSF := hide (KQ13.ss ((unhide HS5).below BWe))
            have HKF := hide (KQ13.ks ((unhide HK5).below BWe))
            have BWf : Below w.heap.size w Wf := (B5.trans (BWe.mono B5.size)).grown hg13 (by have := B5.size; have := BWe.size; omega) (row_base hx3)
            have HHF : (Wf.heap[g8]? = some (.cells cur8 27 (0, 0))) := ((KQ13 g8 cur8 27 ((unhide KEEP) We BWe) (.inl rfl)).trans ((unhide KEEP) We BWe))
            obtain ⟨a63, n63, c63, rfl⟩ := (unhide HPF).shape
            refine hK.out (.slice a63 n63 c63) Wf HHF ?_
            clear hK K ho13 hg13 hx3 hx4 hy3 hy4 hxl hyl hLL hGG hGy KQ13
            simp only [Act.put, List.setIfInBounds_toArray, List.set_cons_zero, List.set_cons_succ]
            refine Z.ready (rs := [14]) (by kernel_rfl) (by simp) (Z.val_cons (i := 14) (d := 7) (v := .slice a63 n63 c63) (w' := Wf) rfl (by rfl) (fun K hK => ?_) (fun h => absurd rfl h) ?_ Z.All.nil)
            · go_simp
              exact hK.out
            simp only [Act.put, List.setIfInBounds_toArray, List.set_cons_zero, List.set_cons_succ]
            refine Z.done (by kernel_rfl) ?_ _
            clear HHF KEEP hHeld HP62 BWe Bd HP5 HS5 HK5 hst hrowk hS0 hh8
            go_wp2_with fail
            go_roundg (n - (k + 1))
            case rel => exact ⟨k + 1, rfl, by go_num, by have := unhide HLT; omega, unhide HPF, unhide HSF, unhide HKF, BWf⟩
            case measure => have := hg.out; have := unhide HLT; omega
          · go_simp
            rw [← hWc]
            exact hK.out
          · simp only [Act.put, List.setIfInBounds_toArray, List.set_cons_zero, List.set_cons_succ]
            have hcS : Hid (Wc.heap.size = Wa.heap.size + 1) := hide (by rw [hWc]; simp)
            have Rc := hide (row_below (unhide Ra) Bc)
            clear hWc
            refine Z.ready (rs := [7]) (by kernel_rfl) (by simp) (Z.call_cons (i := 7) rfl (by rfl) (fun K hK => ?_) Z.All.nil)
            refine wp_row _ (.tmp 55) (.tmp 56) 50 rfl 27 i1 (.slice none 0 0) 24 Tryd.underlying50 hi1 hx0 hx1 hx2 rfl W5.heap.size (.slice (some ⟨W5.heap.size, 0, none⟩) 0 0) 0 [] rfl (unhide Rc) (.slice pa ahead.length pc) rfl vs ((unhide HRD) _ (B5.trans (BVc.mono B5.size))) (unhide hvp) (by unfold maxLen; omega) (by omega) BVc.size ?_
            intro v57 Wb ho7 hg7
            have Bb : Below W5.heap.size W5 Wb := BVc.grown hg7 BVc.size (fun q hq => by cases hq; exact Nat.le_refl _)
            have ho7 : Wb.ownsRow W5.heap.size 27 1 v57 vs.length vs := by have h := ho7; first | (simp only [List.nil_append, Nat.zero_add] at h; exact h) | exact h
            have hNb : ∀ j u, ([Value.slice (some ⟨b11, 0, none⟩) 1 d11] : List Value)[j]? = some u → Wb.cell? ((⟨Wa.heap.size, 0, none⟩ : Addr).add j) = some u := fun j u hu => by
              have h := hNc j u hu
              rw [Go.WideShapes.add_plain] at h ⊢
              rw [← h]
              exact cell_block (hg7.block Wa.heap.size (by have := hcS.out; omega) (fun e => by simp only [Value.ownBlock, Option.some.injEq] at e; have := haS.out; omega))
            have HO7 := hide ho7
            obtain ⟨x7, y7, z7, e7⟩ : ∃ a k c, v57 = .slice a k c := row_shape ho7
            subst e7
            refine hK.out _ _ (fun _ => (unhide KEEP) Wb Bb) ?_
            clear hK K ho7 hg7 hNc Rc
            simp only [Act.put, List.setIfInBounds_toArray, List.set_cons_zero, List.set_cons_succ]
            refine Z.only (i := 10) (d := 60) rfl rfl (by kernel_rfl) (by rfl) (fun K hK => ?_)
            refine wp_row _ (.tmp 57) (.tmp 59) 50 rfl 27 i1 (.slice none 0 0) 24 Tryd.underlying50 hi1 hx0 hx1 hx2 rfl W5.heap.size (.slice x7 y7 z7) vs.length vs rfl (unhide HO7) (.slice (some ⟨Wa.heap.size, 0, none⟩) 1 1) rfl [.slice (some ⟨b11, 0, none⟩) 1 d11] (.inr ⟨_, 1, rfl, hNb⟩) (by intro u hu; rw [List.mem_singleton.1 hu]; rfl) (by unfold maxLen; simp; omega) (by simp; omega) Bb.size ?_
            intro v60 Wd ho10 hg10
            have Bd : Below W5.heap.size W5 Wd := Bb.grown hg10 Bb.size (row_base (unhide HO7))
            clear hg10 HO7 hNb BVc Bc Bb Ra haS Ba hcS
            have HO10 := hide ho10
            clear ho10
            have hst10 := hide ((Kq.ofBelow Bd).ownG (unhide hst))
            have hsl10 := hide (((unhide HVS) Wd (B5.trans (Bd.mono B5.size))).snoc hd11 (unhide hst10))
            obtain ⟨ah, hah⟩ : ∃ ah, ah = ahead ++ [stepAt ob ks k] := ⟨_, rfl⟩
            have HAH := hide hah
            have hal : Hid (ah.length = ahead.length + 1) := hide (by rw [hah]; simp)
            have han : Hid (ah = [] → False) := hide (fun h => by rw [hah] at h; simp at h)
            obtain ⟨a60, c60, e60, h60c, h60m, hpt60⟩ := PT.of_own (cs := ah) (by rw [hah, List.length_append, List.length_cons, List.length_nil, ← unhide HVL]; exact unhide HO10) (by rw [hah]; exact unhide hsl10)
            clear hah
            subst e60
            have HC12 := hide (ih.out q bk 0 ck a60 c60 ah false Wd hpv (by have := hpl; omega) (hrowk.below Bd hbk) (Nat.lt_of_lt_of_le hbk Bd.size) hck hpt60 (fun h => ((unhide han) h).elim) h60c h60m (by have := hpl; have := unhide hal; omega))
            refine hK.out (.slice a60 ah.length c60) Wd ((unhide KEEP) Wd Bd) ?_
            clear hK K HO10 hsl10 hst10 hpt60 han
            simp only [Act.put, List.setIfInBounds_toArray, List.set_cons_zero, List.set_cons_succ]
            refine Z.only (i := 12) (d := 62) rfl rfl (by kernel_rfl) (by rfl) (fun K hK => ?_)
            go_simp
            refine (unhide HC12).mono ?_
            rintro e12 We ⟨s62, rfl, hp62, hbe⟩
            have BWe : Below W5.heap.size W5 We := Bd.trans (hbe.mono Bd.size)
            obtain ⟨a62, n62, c62, rfl⟩ := hp62.shape
            have HP62 := hide hp62
            go_simp
            refine hK.out (.slice a62 n62 c62) We ((unhide KEEP) We BWe) ?_
            clear hK K HC12 hbe hp62
            simp only [Act.put, List.setIfInBounds_toArray, List.set_cons_zero, List.set_cons_succ]
            obtain ⟨ys, hy3, hy4⟩ := unhide HP62
            obtain ⟨xs, hx3, hx4⟩ := (unhide HP5).below BWe
            have hxl : xs.length = (O ++ allK (all false f) ob ks ps ahead k).length := by have := hx3.1; omega
            have hyl : ys.length = (all false f q ah).length := by have := hy3.1; omega
            have hLL : (O ++ allK (all false f) ob ks ps ahead k).length ≤ 201 := by rw [List.length_append]; have := (unhide HAK) k (Nat.le_of_lt (unhide HLT)); omega
            have hGG := (unhide HGL) q ah hpv
            have hGy : ys.length ≤ 200 := by rw [hyl]; exact hGG
            refine Z.only (i := 13) (d := 63) rfl rfl (by kernel_rfl) (by rfl) (fun K hK => ?_)
            refine wp_row _ (.tmp 50) (.tmp 62) 90 rfl 50 i2 (.slice none 0 0) 24 Tryd.underlying90 hi2 hy0 hy1 hy2 rfl w.heap.size (.slice a7 n7 c7) _ xs rfl hx3 (.slice a62 n62 c62) rfl ys (row_read hy3) (PPL.plain hyl hy4) (by unfold maxLen; omega) (by omega) (by have := B5.size; have := BWe.size; omega) ?_
            intro s63 Wf ho13 hg13
            have KQ13 := Kq.grown hx3 (by decide) (by decide) (by decide) hg13
            have HPF := hide (show PPL Wf w.heap.size s63 (O ++ allK (all false f) ob ks ps ahead (k + 1)) from by
              have h := PPL.app (w := We) hxl hx4 hyl hy4 (by rw [← hyl]; exact ho13) KQ13
              rw [List.append_assoc, unhide HQ, unhide HAH] at h
              exact h)
            have HSF := hide (KQ13.ss ((unhide HS5).below BWe))
            have HKF := hide (KQ13.ks ((unhide HK5).below BWe))
            have BWf : Below w.heap.size w Wf := (B5.trans (BWe.mono B5.size)).grown hg13 (by have := B5.size; have := BWe.size; omega) (row_base hx3)
            have HHF : (Wf.heap[g8]? = some (.cells cur8 27 (0, 0))) := ((KQ13 g8 cur8 27 ((unhide KEEP) We BWe) (.inl rfl)).trans ((unhide KEEP) We BWe))
            obtain ⟨a63, n63, c63, rfl⟩ := (unhide HPF).shape
            refine hK.out (.slice a63 n63 c63) Wf HHF ?_
            clear hK K ho13 hg13 hx3 hx4 hy3 hy4 hxl hyl hLL hGG hGy KQ13
            simp only [Act.put, List.setIfInBounds_toArray, List.set_cons_zero, List.set_cons_succ]
            refine Z.ready (rs := [14]) (by kernel_rfl) (by simp) (Z.val_cons (i := 14) (d := 7) (v := .slice a63 n63 c63) (w' := Wf) rfl (by rfl) (fun K hK => ?_) (fun h => absurd rfl h) ?_ Z.All.nil)
            · go_simp
              exact hK.out
            simp only [Act.put, List.setIfInBounds_toArray, List.set_cons_zero, List.set_cons_succ]
            refine Z.done (by kernel_rfl) ?_ _
            clear HHF KEEP hHeld HP62 BWe Bd HP5 HS5 HK5 hst hrowk hS0 hh8
            go_wp2_with fail
            go_roundg (n - (k + 1))
            case rel => exact ⟨k + 1, rfl, by go_num, by have := unhide HLT; omega, unhide HPF, unhide HSF, unhide HKF, BWf⟩
            case measure => have := hg.out; have := unhide HLT; omega
        · go_simp
          rw [← hWq]
          exact hK.out
        · simp only [Act.put, List.setIfInBounds_toArray, List.set_cons_zero, List.set_cons_succ]
          clear hWa hWq Ba Ra haS
          obtain ⟨Wc, hWc⟩ : ∃ Wc, Wc = Wq.alloc (.cells #[] 27) := ⟨_, rfl⟩
          have Bc : Below Wq.heap.size Wq Wc := by rw [hWc]; exact (Below.refl _ _).alloc (Nat.le_refl _) _
          have Rc := hide (show Wc.ownsRow W5.heap.size 27 1 (.slice (some ⟨Wq.heap.size, 0, none⟩) 0 0) 0 [] by rw [hWc]; exact empty_row Wq _ _ Bq.size)
          have hcS : Hid (Wc.heap.size = Wq.heap.size + 1) := hide (by rw [hWc]; simp)
          have BVc : Below W5.heap.size W5 Wc := Bq.trans (Bc.mono Bq.size)
          have hNc : ∀ j u, ([Value.slice (some ⟨b11, 0, none⟩) 1 d11] : List Value)[j]? = some u → Wc.cell? ((⟨W5.heap.size, 0, none⟩ : Addr).add j) = some u := fun j u hu => by
            have h := hNq j u hu
            rw [Go.WideShapes.add_plain] at h ⊢
            rw [← h]
            exact cell_block (Bc.block W5.heap.size (by have := hqS.out; omega))
          refine Z.ready (rs := [5]) (by kernel_rfl) (by simp) (Z.val_cons (i := 5) (d := 55) (v := .slice (some ⟨Wq.heap.size, 0, none⟩) 0 0) (w' := Wc) rfl (by rfl) (fun K hK => ?_) (fun _ => (unhide KEEP) Wc BVc) ?_ Z.All.nil)
          · go_simp
            rw [← hWc]
            exact hK.out
          simp only [Act.put, List.setIfInBounds_toArray, List.set_cons_zero, List.set_cons_succ]
          clear hWc hNq
          refine Z.ready (rs := [7]) (by kernel_rfl) (by simp) (Z.call_cons (i := 7) rfl (by rfl) (fun K hK => ?_) Z.All.nil)
          refine wp_row _ (.tmp 55) (.tmp 56) 50 rfl 27 i1 (.slice none 0 0) 24 Tryd.underlying50 hi1 hx0 hx1 hx2 rfl W5.heap.size (.slice (some ⟨Wq.heap.size, 0, none⟩) 0 0) 0 [] rfl (unhide Rc) (.slice pa ahead.length pc) rfl vs ((unhide HRD) _ (B5.trans (BVc.mono B5.size))) (unhide hvp) (by unfold maxLen; omega) (by omega) BVc.size ?_
          intro v57 Wb ho7 hg7
          have Bb : Below W5.heap.size W5 Wb := BVc.grown hg7 BVc.size (fun q hq => by cases hq; exact Bq.size)
          have ho7 : Wb.ownsRow W5.heap.size 27 1 v57 vs.length vs := by have h := ho7; first | (simp only [List.nil_append, Nat.zero_add] at h; exact h) | exact h
          have hNb : ∀ j u, ([Value.slice (some ⟨b11, 0, none⟩) 1 d11] : List Value)[j]? = some u → Wb.cell? ((⟨W5.heap.size, 0, none⟩ : Addr).add j) = some u := fun j u hu => by
            have h := hNc j u hu
            rw [Go.WideShapes.add_plain] at h ⊢
            rw [← h]
            exact cell_block (hg7.block W5.heap.size (by have := hcS.out; have := hqS.out; omega) (fun e => by simp only [Value.ownBlock, Option.some.injEq] at e; have := hqS.out; omega))
          have HO7 := hide ho7
          obtain ⟨x7, y7, z7, e7⟩ : ∃ a k c, v57 = .slice a k c := row_shape ho7
          subst e7
          refine hK.out _ _ (fun _ => (unhide KEEP) Wb Bb) ?_
          clear hK K ho7 hg7 hNc Rc
          simp only [Act.put, List.setIfInBounds_toArray, List.set_cons_zero, List.set_cons_succ]
          refine Z.only (i := 10) (d := 60) rfl rfl (by kernel_rfl) (by rfl) (fun K hK => ?_)
          refine wp_row _ (.tmp 57) (.tmp 59) 50 rfl 27 i1 (.slice none 0 0) 24 Tryd.underlying50 hi1 hx0 hx1 hx2 rfl W5.heap.size (.slice x7 y7 z7) vs.length vs rfl (unhide HO7) (.slice (some ⟨W5.heap.size, 0, none⟩) 1 1) rfl [.slice (some ⟨b11, 0, none⟩) 1 d11] (.inr ⟨_, 1, rfl, hNb⟩) (by intro u hu; rw [List.mem_singleton.1 hu]; rfl) (by unfold maxLen; simp; omega) (by simp; omega) Bb.size ?_
          intro v60 Wd ho10 hg10
          have Bd : Below W5.heap.size W5 Wd := Bb.grown hg10 Bb.size (row_base (unhide HO7))
          clear hg10 HO7 hNb BVc Bc Bb hqS Bq hcS
          have HO10 := hide ho10
          clear ho10
          have hst10 := hide ((Kq.ofBelow Bd).ownG (unhide hst))
          have hsl10 := hide (((unhide HVS) Wd (B5.trans (Bd.mono B5.size))).snoc hd11 (unhide hst10))
          obtain ⟨ah, hah⟩ : ∃ ah, ah = ahead ++ [stepAt ob ks k] := ⟨_, rfl⟩
          have HAH := hide hah
          have hal : Hid (ah.length = ahead.length + 1) := hide (by rw [hah]; simp)
          have han : Hid (ah = [] → False) := hide (fun h => by rw [hah] at h; simp at h)
          obtain ⟨a60, c60, e60, h60c, h60m, hpt60⟩ := PT.of_own (cs := ah) (by rw [hah, List.length_append, List.length_cons, List.length_nil, ← unhide HVL]; exact unhide HO10) (by rw [hah]; exact unhide hsl10)
          clear hah
          subst e60
          have HC12 := hide (ih.out q bk 0 ck a60 c60 ah false Wd hpv (by have := hpl; omega) (hrowk.below Bd hbk) (Nat.lt_of_lt_of_le hbk Bd.size) hck hpt60 (fun h => ((unhide han) h).elim) h60c h60m (by have := hpl; have := unhide hal; omega))
          refine hK.out (.slice a60 ah.length c60) Wd ((unhide KEEP) Wd Bd) ?_
          clear hK K HO10 hsl10 hst10 hpt60 han
          simp only [Act.put, List.setIfInBounds_toArray, List.set_cons_zero, List.set_cons_succ]
          refine Z.only (i := 12) (d := 62) rfl rfl (by kernel_rfl) (by rfl) (fun K hK => ?_)
          go_simp
          refine (unhide HC12).mono ?_
          rintro e12 We ⟨s62, rfl, hp62, hbe⟩
          have BWe : Below W5.heap.size W5 We := Bd.trans (hbe.mono Bd.size)
          obtain ⟨a62, n62, c62, rfl⟩ := hp62.shape
          have HP62 := hide hp62
          go_simp
          refine hK.out (.slice a62 n62 c62) We ((unhide KEEP) We BWe) ?_
          clear hK K HC12 hbe hp62
          simp only [Act.put, List.setIfInBounds_toArray, List.set_cons_zero, List.set_cons_succ]
          obtain ⟨ys, hy3, hy4⟩ := unhide HP62
          obtain ⟨xs, hx3, hx4⟩ := (unhide HP5).below BWe
          have hxl : xs.length = (O ++ allK (all false f) ob ks ps ahead k).length := by have := hx3.1; omega
          have hyl : ys.length = (all false f q ah).length := by have := hy3.1; omega
          have hLL : (O ++ allK (all false f) ob ks ps ahead k).length ≤ 201 := by rw [List.length_append]; have := (unhide HAK) k (Nat.le_of_lt (unhide HLT)); omega
          have hGG := (unhide HGL) q ah hpv
          have hGy : ys.length ≤ 200 := by rw [hyl]; exact hGG
          refine Z.only (i := 13) (d := 63) rfl rfl (by kernel_rfl) (by rfl) (fun K hK => ?_)
          refine wp_row _ (.tmp 50) (.tmp 62) 90 rfl 50 i2 (.slice none 0 0) 24 Tryd.underlying90 hi2 hy0 hy1 hy2 rfl w.heap.size (.slice a7 n7 c7) _ xs rfl hx3 (.slice a62 n62 c62) rfl ys (row_read hy3) (PPL.plain hyl hy4) (by unfold maxLen; omega) (by omega) (by have := B5.size; have := BWe.size; omega) ?_
          intro s63 Wf ho13 hg13
          have KQ13 := Kq.grown hx3 (by decide) (by decide) (by decide) hg13
          have HPF := hide (show PPL Wf w.heap.size s63 (O ++ allK (all false f) ob ks ps ahead (k + 1)) from by
            have h := PPL.app (w := We) hxl hx4 hyl hy4 (by rw [← hyl]; exact ho13) KQ13
            rw [List.append_assoc, unhide HQ, unhide HAH] at h
            exact h)
          have HSF := hide (KQ13.ss ((unhide HS5).below BWe))
          have HKF := hide (KQ13.ks ((unhide HK5).below BWe))
          have BWf : Below w.heap.size w Wf := (B5.trans (BWe.mono B5.size)).grown hg13 (by have := B5.size; have := BWe.size; omega) (row_base hx3)
          have HHF : (Wf.heap[g8]? = some (.cells cur8 27 (0, 0))) := ((KQ13 g8 cur8 27 ((unhide KEEP) We BWe) (.inl rfl)).trans ((unhide KEEP) We BWe))
          obtain ⟨a63, n63, c63, rfl⟩ := (unhide HPF).shape
          refine hK.out (.slice a63 n63 c63) Wf HHF ?_
          clear hK K ho13 hg13 hx3 hx4 hy3 hy4 hxl hyl hLL hGG hGy KQ13
          simp only [Act.put, List.setIfInBounds_toArray, List.set_cons_zero, List.set_cons_succ]
          refine Z.ready (rs := [14]) (by kernel_rfl) (by simp) (Z.val_cons (i := 14) (d := 7) (v := .slice a63 n63 c63) (w' := Wf) rfl (by rfl) (fun K hK => ?_) (fun h => absurd rfl h) ?_ Z.All.nil)
          · go_simp
            exact hK.out
          simp only [Act.put, List.setIfInBounds_toArray, List.set_cons_zero, List.set_cons_succ]
          refine Z.done (by kernel_rfl) ?_ _
          clear HHF KEEP hHeld HP62 BWe Bd HP5 HS5 HK5 hst hrowk hS0 hh8
          go_wp2_with fail
          go_roundg (n - (k + 1))
          case rel => exact ⟨k + 1, rfl, by go_num, by have := unhide HLT; omega, unhide HPF, unhide HSF, unhide HKF, BWf⟩
          case measure => have := hg.out; have := unhide HLT; omega
      · have hky := (unhide h6y) hob
        have hkb : (kd == 6) = true := by simp [hky]
        obtain ⟨a9', c9', e9, hc9', htv⟩ := (unhide HK5).tv
        obtain ⟨g9, h9a, h9b, h9c⟩ := htv k (by rw [unhide HKL]; exact unhide HLT)
        rw [unhide HKL] at e9
        cases e9
        subst h9a
        have HL6 := hide (fun W => l1String_any (ks.getD k ByteArray.empty) W)
        generalize hkk : ks.getD k ByteArray.empty = kk at *
        have HKK := hide hkk
        clear hky HR5 hkk htv
        go_wp2_with fail
        refine ((unhide HL6) _).mono ?_
        rintro e6 W6 ⟨s6, rfl, hr6, hb6⟩
        have B6 : Below w.heap.size w W6 := B5.trans (hb6.mono B5.size)
        have HP6 := hide ((unhide HP5).below hb6)
        have HS6 := hide ((unhide HS5).below hb6)
        have HK6 := hide ((unhide HK5).below hb6)
        obtain ⟨b11, d11, rfl, hd11, _, _, _⟩ := hr6.rowedQ (by simp)
        have HR6 := hide hr6
        simp only [List.length_cons, List.length_nil, Nat.zero_add] at hd11 HR6 ⊢
        have hst := hide (show OwnG W6 b11 44 [stepAt ob ks k] by
          obtain ⟨_, ⟨h1, _⟩ | ⟨b, cap, h1, h2, h3, h4⟩⟩ := unhide HR6
          · cases h1
          · cases h1
            rw [hob]
            show OwnG W6 b11 44 [⟨4, 0, ks.getD k ByteArray.empty, ByteArray.empty, 0⟩]
            rw [unhide HKK]; exact h4)
        clear hr6 hb6 HR6 HP5 HS5 HK5 hc5 hkb h9b h9c
        go_upto_region 12 with fail
        obtain ⟨ss, hss1, hss2, hss3⟩ := unhide HS6
        have hk8 : k < ps.length := by rw [unhide HSL]; exact unhide HLT
        rcases hss2.2 with ⟨h0, _⟩ | ⟨g8, cc8, cur8, e8, hB8, hh8, hn8, hm8, hr8, ht8⟩
        · rw [unhide HSL] at *
          simp only [Value.slice.injEq] at h0
          exact absurd h0.2.1 (by have := unhide HLT; omega)
        rw [unhide HSL] at e8
        cases e8
        have HSG8 := (unhide HSG) k (unhide HLT)
        have hpv : M.valueFault (ps.getD k []) = 0 := by rw [HSG8]; exact ((unhide HPL) k (unhide HLT)).2.2
        have hpl : (ps.getD k []).length + ahead.length + 1 ≤ 300 ∧ (ps.getD k []).length ≤ f := by
          have a := ((unhide HPL) k (unhide HLT)).2.1
          have b := (unhide HIT) (k + 1) (unhide HLT)
          have c := (unhide HIT) k (Nat.le_of_lt (unhide HLT))
          rw [HSG8]
          omega
        clear HSG8
        obtain ⟨q, hq⟩ : ∃ q, q = ps.getD k [] := ⟨_, rfl⟩
        have HQ := hide hq
        rw [← hq] at hpv hpl
        have hss3k := hss3 k hk8
        rw [← hq] at hss3k
        clear hq
        obtain ⟨bk, ck, ek, hck, _, hbk, hrowk⟩ := hss3k.rowedQ (Pth.val_ne hpv)
        have x8 : cur8.toList[k]? = some (.slice (some ⟨bk, 0, none⟩) q.length ck) := by
          have h1 : cur8.toList[k]? = ss[k]? := by rw [← ht8, List.getElem?_take_of_lt (by omega)]
          rw [h1, List.getElem?_eq_getElem (by omega), ← ek, List.getD_eq_getElem?_getD, List.getElem?_eq_getElem (by omega)]
          rfl
        have KEEP := hide (show ∀ W : World, Below W6.heap.size W6 W → (W.heap[g8]? = some (.cells cur8 27 (0, 0))) from fun W hW => (hW.block g8 (Array.getElem?_eq_some_iff.1 hh8).1).trans hh8)
        have KEEPC := hide (show ∀ W : World, (W.heap[g8]? = some (.cells cur8 27 (0, 0))) → W.cell? ⟨g8, k, none⟩ = some (.slice (some ⟨bk, 0, none⟩) q.length ck) from fun W hW => (cell_in hW).trans x8)
        have hS0 : (W6.drew.heap[g8]? = some (.cells cur8 27 (0, 0))) := hh8
        have BR := Below.refl W6.heap.size W6
        have hvl9 : vs.length ≤ 300 := by rw [unhide HVL]; omega
        clear hss1 hss2 hss3 hss3k ek x8 hn8 hm8 hr8 ht8 hB8 hk8
        refine Z.region 14 (fun w' => (w'.heap[g8]? = some (.cells cur8 27 (0, 0)))) (by kernel_rfl) hS0 (fun hHeld => ?_)
        refine Z.take (i := 0) (d := 50) (v := .slice a7 n7 c7) rfl rfl (by kernel_rfl) (by kernel_rfl) (by kernel_rfl) (by kernel_rfl) (fun _ _ _ h => h) (Or.inl ⟨by rfl, ?_⟩) hHeld ?_
        · intro w' hSw; go_simp
        simp only [Act.put, List.setIfInBounds_toArray, List.set_cons_zero, List.set_cons_succ]
        refine Z.take (i := 1) (d := 51) (v := .slice (some ⟨g8, 0, none⟩) n c8) rfl rfl (by kernel_rfl) (by kernel_rfl) (by kernel_rfl) (by kernel_rfl) (fun _ _ _ h => h) (Or.inl ⟨by rfl, ?_⟩) hHeld ?_
        · intro w' hSw; go_simp
        simp only [Act.put, List.setIfInBounds_toArray, List.set_cons_zero, List.set_cons_succ]
        refine Z.take (i := 2) (d := 52) (v := .int .i64 k) rfl rfl (by kernel_rfl) (by kernel_rfl) (by kernel_rfl) (by kernel_rfl) (fun _ _ _ h => h) (Or.inl ⟨by rfl, ?_⟩) hHeld ?_
        · intro w' hSw; go_simp
        simp only [Act.put, List.setIfInBounds_toArray, List.set_cons_zero, List.set_cons_succ]
        refine Z.take (i := 3) (d := 53) (v := .pointer (some ⟨g8, k, none⟩)) rfl rfl (by kernel_rfl) (by kernel_rfl) (by kernel_rfl) (by kernel_rfl) (fun _ _ _ h => h) (Or.inl ⟨by rfl, ?_⟩) hHeld ?_
        · intro w' hSw; go_simp
        simp only [Act.put, List.setIfInBounds_toArray, List.set_cons_zero, List.set_cons_succ]
        refine Z.take (i := 4) (d := 54) (v := .slice (some ⟨bk, 0, none⟩) q.length ck) rfl rfl (by kernel_rfl) (by kernel_rfl) (by kernel_rfl) (by kernel_rfl) (fun _ _ _ h => h) (Or.inl ⟨by rfl, ?_⟩) hHeld ?_
        · intro w' hSw; have g2 := (unhide KEEPC) _ hSw; go_simp
        simp only [Act.put, List.setIfInBounds_toArray, List.set_cons_zero, List.set_cons_succ]
        refine Z.take (i := 6) (d := 56) (v := .slice pa ahead.length pc) rfl rfl (by kernel_rfl) (by kernel_rfl) (by kernel_rfl) (by kernel_rfl) (fun _ _ _ h => h) (Or.inl ⟨by rfl, ?_⟩) hHeld ?_
        · intro w' hSw; go_simp
        simp only [Act.put, List.setIfInBounds_toArray, List.set_cons_zero, List.set_cons_succ]
        refine Z.take (i := 8) (d := 58) (v := .slice (some ⟨b11, 0, none⟩) 1 d11) rfl rfl (by kernel_rfl) (by kernel_rfl) (by kernel_rfl) (by kernel_rfl) (fun _ _ _ h => h) (Or.inl ⟨by rfl, ?_⟩) hHeld ?_
        · intro w' hSw; go_simp
        simp only [Act.put, List.setIfInBounds_toArray, List.set_cons_zero, List.set_cons_succ]
        refine Z.take (i := 11) (d := 61) (v := .bool false) rfl rfl (by kernel_rfl) (by kernel_rfl) (by kernel_rfl) (by kernel_rfl) (fun _ _ _ h => h) (Or.inl ⟨by rfl, ?_⟩) hHeld ?_
        · intro w' hSw; go_simp
        simp only [Act.put, List.setIfInBounds_toArray, List.set_cons_zero, List.set_cons_succ]

        clear KEEPC
        obtain ⟨Wa, hWa⟩ : ∃ Wa, Wa = (W6.alloc (.cells #[] 27)).drew := ⟨_, rfl⟩
        have Ba : Below W6.heap.size W6 Wa := by rw [hWa]; exact (BR.alloc (Nat.le_refl _) _).drew
        have Ra := hide (show Wa.ownsRow W6.heap.size 27 1 (.slice (some ⟨W6.heap.size, 0, none⟩) 0 0) 0 [] by rw [hWa]; exact empty_row W6 _ _ (Nat.le_refl _))
        have haS : Hid (Wa.heap.size = W6.heap.size + 1) := hide (by rw [hWa]; simp)
        obtain ⟨Wq, hWq⟩ : ∃ Wq, Wq = (W6.alloc (.cells #[.slice (some ⟨b11, 0, none⟩) 1 d11] 27)).drew := ⟨_, rfl⟩
        have Bq : Below W6.heap.size W6 Wq := by rw [hWq]; exact (BR.alloc (Nat.le_refl _) _).drew
        have hNq : ∀ j u, ([Value.slice (some ⟨b11, 0, none⟩) 1 d11] : List Value)[j]? = some u → Wq.cell? ((⟨W6.heap.size, 0, none⟩ : Addr).add j) = some u := by rw [hWq]; exact one_val W6 _ _
        have hqS : Hid (Wq.heap.size = W6.heap.size + 1) := hide (by rw [hWq]; simp)
        refine Z.ready (rs := [5, 9]) (by kernel_rfl) (by simp) (Z.val_cons (i := 5) (d := 55) (v := .slice (some ⟨W6.heap.size, 0, none⟩) 0 0) (w' := Wa) rfl (by rfl) (fun K hK => ?_) (fun _ => (unhide KEEP) Wa Ba) ?_ (Z.val_cons (i := 9) (d := 59) (v := .slice (some ⟨W6.heap.size, 0, none⟩) 1 1) (w' := Wq) rfl (by rfl) (fun K hK => ?_) (fun _ => (unhide KEEP) Wq Bq) ?_ Z.All.nil))
        · go_simp
          rw [← hWa]
          exact hK.out
        · simp only [Act.put, List.setIfInBounds_toArray, List.set_cons_zero, List.set_cons_succ]
          clear hWa hWq hNq Bq hqS
          obtain ⟨Wc, hWc⟩ : ∃ Wc, Wc = Wa.alloc (.cells #[.slice (some ⟨b11, 0, none⟩) 1 d11] 27) := ⟨_, rfl⟩
          have Bc : Below Wa.heap.size Wa Wc := by rw [hWc]; exact (Below.refl _ _).alloc (Nat.le_refl _) _
          have hNc : ∀ j u, ([Value.slice (some ⟨b11, 0, none⟩) 1 d11] : List Value)[j]? = some u → Wc.cell? ((⟨Wa.heap.size, 0, none⟩ : Addr).add j) = some u := by rw [hWc]; exact one_val Wa _ _
          have BVc : Below W6.heap.size W6 Wc := Ba.trans (Bc.mono Ba.size)
          refine Z.ready (rs := [7, 9]) (by kernel_rfl) (by simp) (Z.call_cons (i := 7) rfl (by rfl) (fun K hK => ?_) (Z.val_cons (i := 9) (d := 59) (v := .slice (some ⟨Wa.heap.size, 0, none⟩) 1 1) (w' := Wc) rfl (by rfl) (fun K hK => ?_) (fun _ => (unhide KEEP) Wc BVc) ?_ Z.All.nil))
          · refine wp_row _ (.tmp 55) (.tmp 56) 50 rfl 27 i1 (.slice none 0 0) 24 Tryd.underlying50 hi1 hx0 hx1 hx2 rfl W6.heap.size (.slice (some ⟨W6.heap.size, 0, none⟩) 0 0) 0 [] rfl (unhide Ra) (.slice pa ahead.length pc) rfl vs ((unhide HRD) _ (B6.trans (Ba.mono B6.size))) (unhide hvp) (by unfold maxLen; omega) (by omega) Ba.size ?_
            intro v57 Wb ho7 hg7
            have Bb : Below W6.heap.size W6 Wb := Ba.grown hg7 Ba.size (fun q hq => by cases hq; exact Nat.le_refl _)
            have ho7 : Wb.ownsRow W6.heap.size 27 1 v57 vs.length vs := by have h := ho7; first | (simp only [List.nil_append, Nat.zero_add] at h; exact h) | exact h
            clear hg7 hWc Bc hNc BVc
            obtain ⟨Wc, hWc⟩ : ∃ Wc, Wc = Wb.alloc (.cells #[.slice (some ⟨b11, 0, none⟩) 1 d11] 27) := ⟨_, rfl⟩
            have Bc : Below Wb.heap.size Wb Wc := by rw [hWc]; exact (Below.refl _ _).alloc (Nat.le_refl _) _
            have hNc : ∀ j u, ([Value.slice (some ⟨b11, 0, none⟩) 1 d11] : List Value)[j]? = some u → Wc.cell? ((⟨Wb.heap.size, 0, none⟩ : Addr).add j) = some u := by rw [hWc]; exact one_val Wb _ _
            have BVc : Below W6.heap.size W6 Wc := Bb.trans (Bc.mono Bb.size)
            have HO7 := hide (row_below ho7 Bc)
            obtain ⟨x7, y7, z7, e7⟩ : ∃ a k c, v57 = .slice a k c := row_shape ho7
            subst e7
            refine hK.out _ _ (fun _ => (unhide KEEP) Wb Bb) ?_
            clear hK K ho7
            simp only [Act.put, List.setIfInBounds_toArray, List.set_cons_zero, List.set_cons_succ]
            refine Z.ready (rs := [9]) (by kernel_rfl) (by simp) (Z.val_cons (i := 9) (d := 59) (v := .slice (some ⟨Wb.heap.size, 0, none⟩) 1 1) (w' := Wc) rfl (by rfl) (fun K hK => ?_) (fun _ => (unhide KEEP) Wc BVc) ?_ Z.All.nil)
            · go_simp
              rw [← hWc]
              exact hK.out
            simp only [Act.put, List.setIfInBounds_toArray, List.set_cons_zero, List.set_cons_succ]
            clear hWc
            refine Z.only (i := 10) (d := 60) rfl rfl (by kernel_rfl) (by rfl) (fun K hK => ?_)
            refine wp_row _ (.tmp 57) (.tmp 59) 50 rfl 27 i1 (.slice none 0 0) 24 Tryd.underlying50 hi1 hx0 hx1 hx2 rfl W6.heap.size (.slice x7 y7 z7) vs.length vs rfl (unhide HO7) (.slice (some ⟨Wb.heap.size, 0, none⟩) 1 1) rfl [.slice (some ⟨b11, 0, none⟩) 1 d11] (.inr ⟨_, 1, rfl, hNc⟩) (by intro u hu; rw [List.mem_singleton.1 hu]; rfl) (by unfold maxLen; simp; omega) (by simp; omega) BVc.size ?_
            intro v60 Wd ho10 hg10
            have Bd : Below W6.heap.size W6 Wd := BVc.grown hg10 BVc.size (row_base (unhide HO7))
            clear hg10 HO7 hNc BVc Bc Bb Ra haS Ba
            have HO10 := hide ho10
            clear ho10
            have hst10 := hide ((Kq.ofBelow Bd).ownG (unhide hst))
            have hsl10 := hide (((unhide HVS) Wd (B6.trans (Bd.mono B6.size))).snoc hd11 (unhide hst10))
            obtain ⟨ah, hah⟩ : ∃ ah, ah = ahead ++ [stepAt ob ks k] := ⟨_, rfl⟩
            have HAH := hide hah
            have hal : Hid (ah.length = ahead.length + 1) := hide (by rw [hah]; simp)
            have han : Hid (ah = [] → False) := hide (fun h => by rw [hah] at h; simp at h)
            obtain ⟨a60, c60, e60, h60c, h60m, hpt60⟩ := PT.of_own (cs := ah) (by rw [hah, List.length_append, List.length_cons, List.length_nil, ← unhide HVL]; exact unhide HO10) (by rw [hah]; exact unhide hsl10)
            clear hah
            subst e60
            have HC12 := hide (ih.out q bk 0 ck a60 c60 ah false Wd hpv (by have := hpl; omega) (hrowk.below Bd hbk) (Nat.lt_of_lt_of_le hbk Bd.size) hck hpt60 (fun h => ((unhide han) h).elim) h60c h60m (by have := hpl; have := unhide hal; omega))
            refine hK.out (.slice a60 ah.length c60) Wd ((unhide KEEP) Wd Bd) ?_
            clear hK K HO10 hsl10 hst10 hpt60 han
            simp only [Act.put, List.setIfInBounds_toArray, List.set_cons_zero, List.set_cons_succ]
            refine Z.only (i := 12) (d := 62) rfl rfl (by kernel_rfl) (by rfl) (fun K hK => ?_)
            go_simp
            refine (unhide HC12).mono ?_
            rintro e12 We ⟨s62, rfl, hp62, hbe⟩
            have BWe : Below W6.heap.size W6 We := Bd.trans (hbe.mono Bd.size)
            obtain ⟨a62, n62, c62, rfl⟩ := hp62.shape
            have HP62 := hide hp62
            go_simp
            refine hK.out (.slice a62 n62 c62) We ((unhide KEEP) We BWe) ?_
            clear hK K HC12 hbe hp62
            simp only [Act.put, List.setIfInBounds_toArray, List.set_cons_zero, List.set_cons_succ]
            obtain ⟨ys, hy3, hy4⟩ := unhide HP62
            obtain ⟨xs, hx3, hx4⟩ := (unhide HP6).below BWe
            have hxl : xs.length = (O ++ allK (all false f) ob ks ps ahead k).length := by have := hx3.1; omega
            have hyl : ys.length = (all false f q ah).length := by have := hy3.1; omega
            have hLL : (O ++ allK (all false f) ob ks ps ahead k).length ≤ 201 := by rw [List.length_append]; have := (unhide HAK) k (Nat.le_of_lt (unhide HLT)); omega
            have hGG := (unhide HGL) q ah hpv
            have hGy : ys.length ≤ 200 := by rw [hyl]; exact hGG
            refine Z.only (i := 13) (d := 63) rfl rfl (by kernel_rfl) (by rfl) (fun K hK => ?_)
            refine wp_row _ (.tmp 50) (.tmp 62) 90 rfl 50 i2 (.slice none 0 0) 24 Tryd.underlying90 hi2 hy0 hy1 hy2 rfl w.heap.size (.slice a7 n7 c7) _ xs rfl hx3 (.slice a62 n62 c62) rfl ys (row_read hy3) (PPL.plain hyl hy4) (by unfold maxLen; omega) (by omega) (by have := B6.size; have := BWe.size; omega) ?_
            intro s63 Wf ho13 hg13
            have KQ13 := Kq.grown hx3 (by decide) (by decide) (by decide) hg13
            have HPF := hide (show PPL Wf w.heap.size s63 (O ++ allK (all false f) ob ks ps ahead (k + 1)) from by
              have h := PPL.app (w := We) hxl hx4 hyl hy4 (by rw [← hyl]; exact ho13) KQ13
              rw [List.append_assoc, unhide HQ, unhide HAH] at h
              exact h)
            have HSF := hide (KQ13.ss ((unhide HS6).below BWe))
            have HKF := hide (KQ13.ks ((unhide HK6).below BWe))
            have BWf : Below w.heap.size w Wf := (B6.trans (BWe.mono B6.size)).grown hg13 (by have := B6.size; have := BWe.size; omega) (row_base hx3)
            have HHF : (Wf.heap[g8]? = some (.cells cur8 27 (0, 0))) := ((KQ13 g8 cur8 27 ((unhide KEEP) We BWe) (.inl rfl)).trans ((unhide KEEP) We BWe))
            obtain ⟨a63, n63, c63, rfl⟩ := (unhide HPF).shape
            refine hK.out (.slice a63 n63 c63) Wf HHF ?_
            clear hK K ho13 hg13 hx3 hx4 hy3 hy4 hxl hyl hLL hGG hGy KQ13
            simp only [Act.put, List.setIfInBounds_toArray, List.set_cons_zero, List.set_cons_succ]
            refine Z.ready (rs := [14]) (by kernel_rfl) (by simp) (Z.val_cons (i := 14) (d := 7) (v := .slice a63 n63 c63) (w' := Wf) rfl (by rfl) (fun K hK => ?_) (fun h => absurd rfl h) ?_ Z.All.nil)
            · go_simp
              exact hK.out
            simp only [Act.put, List.setIfInBounds_toArray, List.set_cons_zero, List.set_cons_succ]
            refine Z.done (by kernel_rfl) ?_ _
            clear HHF KEEP hHeld HP62 BWe Bd HP6 HS6 HK6 hst hrowk hS0 hh8
            go_wp2_with fail
            go_roundg (n - (k + 1))
            case rel => exact ⟨k + 1, rfl, by go_num, by have := unhide HLT; omega, unhide HPF, unhide HSF, unhide HKF, BWf⟩
            case measure => have := hg.out; have := unhide HLT; omega
          · go_simp
            rw [← hWc]
            exact hK.out
          · simp only [Act.put, List.setIfInBounds_toArray, List.set_cons_zero, List.set_cons_succ]
            have hcS : Hid (Wc.heap.size = Wa.heap.size + 1) := hide (by rw [hWc]; simp)
            have Rc := hide (row_below (unhide Ra) Bc)
            clear hWc
            refine Z.ready (rs := [7]) (by kernel_rfl) (by simp) (Z.call_cons (i := 7) rfl (by rfl) (fun K hK => ?_) Z.All.nil)
            refine wp_row _ (.tmp 55) (.tmp 56) 50 rfl 27 i1 (.slice none 0 0) 24 Tryd.underlying50 hi1 hx0 hx1 hx2 rfl W6.heap.size (.slice (some ⟨W6.heap.size, 0, none⟩) 0 0) 0 [] rfl (unhide Rc) (.slice pa ahead.length pc) rfl vs ((unhide HRD) _ (B6.trans (BVc.mono B6.size))) (unhide hvp) (by unfold maxLen; omega) (by omega) BVc.size ?_
            intro v57 Wb ho7 hg7
            have Bb : Below W6.heap.size W6 Wb := BVc.grown hg7 BVc.size (fun q hq => by cases hq; exact Nat.le_refl _)
            have ho7 : Wb.ownsRow W6.heap.size 27 1 v57 vs.length vs := by have h := ho7; first | (simp only [List.nil_append, Nat.zero_add] at h; exact h) | exact h
            have hNb : ∀ j u, ([Value.slice (some ⟨b11, 0, none⟩) 1 d11] : List Value)[j]? = some u → Wb.cell? ((⟨Wa.heap.size, 0, none⟩ : Addr).add j) = some u := fun j u hu => by
              have h := hNc j u hu
              rw [Go.WideShapes.add_plain] at h ⊢
              rw [← h]
              exact cell_block (hg7.block Wa.heap.size (by have := hcS.out; omega) (fun e => by simp only [Value.ownBlock, Option.some.injEq] at e; have := haS.out; omega))
            have HO7 := hide ho7
            obtain ⟨x7, y7, z7, e7⟩ : ∃ a k c, v57 = .slice a k c := row_shape ho7
            subst e7
            refine hK.out _ _ (fun _ => (unhide KEEP) Wb Bb) ?_
            clear hK K ho7 hg7 hNc Rc
            simp only [Act.put, List.setIfInBounds_toArray, List.set_cons_zero, List.set_cons_succ]
            refine Z.only (i := 10) (d := 60) rfl rfl (by kernel_rfl) (by rfl) (fun K hK => ?_)
            refine wp_row _ (.tmp 57) (.tmp 59) 50 rfl 27 i1 (.slice none 0 0) 24 Tryd.underlying50 hi1 hx0 hx1 hx2 rfl W6.heap.size (.slice x7 y7 z7) vs.length vs rfl (unhide HO7) (.slice (some ⟨Wa.heap.size, 0, none⟩) 1 1) rfl [.slice (some ⟨b11, 0, none⟩) 1 d11] (.inr ⟨_, 1, rfl, hNb⟩) (by intro u hu; rw [List.mem_singleton.1 hu]; rfl) (by unfold maxLen; simp; omega) (by simp; omega) Bb.size ?_
            intro v60 Wd ho10 hg10
            have Bd : Below W6.heap.size W6 Wd := Bb.grown hg10 Bb.size (row_base (unhide HO7))
            clear hg10 HO7 hNb BVc Bc Bb Ra haS Ba hcS
            have HO10 := hide ho10
            clear ho10
            have hst10 := hide ((Kq.ofBelow Bd).ownG (unhide hst))
            have hsl10 := hide (((unhide HVS) Wd (B6.trans (Bd.mono B6.size))).snoc hd11 (unhide hst10))
            obtain ⟨ah, hah⟩ : ∃ ah, ah = ahead ++ [stepAt ob ks k] := ⟨_, rfl⟩
            have HAH := hide hah
            have hal : Hid (ah.length = ahead.length + 1) := hide (by rw [hah]; simp)
            have han : Hid (ah = [] → False) := hide (fun h => by rw [hah] at h; simp at h)
            obtain ⟨a60, c60, e60, h60c, h60m, hpt60⟩ := PT.of_own (cs := ah) (by rw [hah, List.length_append, List.length_cons, List.length_nil, ← unhide HVL]; exact unhide HO10) (by rw [hah]; exact unhide hsl10)
            clear hah
            subst e60
            have HC12 := hide (ih.out q bk 0 ck a60 c60 ah false Wd hpv (by have := hpl; omega) (hrowk.below Bd hbk) (Nat.lt_of_lt_of_le hbk Bd.size) hck hpt60 (fun h => ((unhide han) h).elim) h60c h60m (by have := hpl; have := unhide hal; omega))
            refine hK.out (.slice a60 ah.length c60) Wd ((unhide KEEP) Wd Bd) ?_
            clear hK K HO10 hsl10 hst10 hpt60 han
            simp only [Act.put, List.setIfInBounds_toArray, List.set_cons_zero, List.set_cons_succ]
            refine Z.only (i := 12) (d := 62) rfl rfl (by kernel_rfl) (by rfl) (fun K hK => ?_)
            go_simp
            refine (unhide HC12).mono ?_
            rintro e12 We ⟨s62, rfl, hp62, hbe⟩
            have BWe : Below W6.heap.size W6 We := Bd.trans (hbe.mono Bd.size)
            obtain ⟨a62, n62, c62, rfl⟩ := hp62.shape
            have HP62 := hide hp62
            go_simp
            refine hK.out (.slice a62 n62 c62) We ((unhide KEEP) We BWe) ?_
            clear hK K HC12 hbe hp62
            simp only [Act.put, List.setIfInBounds_toArray, List.set_cons_zero, List.set_cons_succ]
            obtain ⟨ys, hy3, hy4⟩ := unhide HP62
            obtain ⟨xs, hx3, hx4⟩ := (unhide HP6).below BWe
            have hxl : xs.length = (O ++ allK (all false f) ob ks ps ahead k).length := by have := hx3.1; omega
            have hyl : ys.length = (all false f q ah).length := by have := hy3.1; omega
            have hLL : (O ++ allK (all false f) ob ks ps ahead k).length ≤ 201 := by rw [List.length_append]; have := (unhide HAK) k (Nat.le_of_lt (unhide HLT)); omega
            have hGG := (unhide HGL) q ah hpv
            have hGy : ys.length ≤ 200 := by rw [hyl]; exact hGG
            refine Z.only (i := 13) (d := 63) rfl rfl (by kernel_rfl) (by rfl) (fun K hK => ?_)
            refine wp_row _ (.tmp 50) (.tmp 62) 90 rfl 50 i2 (.slice none 0 0) 24 Tryd.underlying90 hi2 hy0 hy1 hy2 rfl w.heap.size (.slice a7 n7 c7) _ xs rfl hx3 (.slice a62 n62 c62) rfl ys (row_read hy3) (PPL.plain hyl hy4) (by unfold maxLen; omega) (by omega) (by have := B6.size; have := BWe.size; omega) ?_
            intro s63 Wf ho13 hg13
            have KQ13 := Kq.grown hx3 (by decide) (by decide) (by decide) hg13
            have HPF := hide (show PPL Wf w.heap.size s63 (O ++ allK (all false f) ob ks ps ahead (k + 1)) from by
              have h := PPL.app (w := We) hxl hx4 hyl hy4 (by rw [← hyl]; exact ho13) KQ13
              rw [List.append_assoc, unhide HQ, unhide HAH] at h
              exact h)
            have HSF := hide (KQ13.ss ((unhide HS6).below BWe))
            have HKF := hide (KQ13.ks ((unhide HK6).below BWe))
            have BWf : Below w.heap.size w Wf := (B6.trans (BWe.mono B6.size)).grown hg13 (by have := B6.size; have := BWe.size; omega) (row_base hx3)
            have HHF : (Wf.heap[g8]? = some (.cells cur8 27 (0, 0))) := ((KQ13 g8 cur8 27 ((unhide KEEP) We BWe) (.inl rfl)).trans ((unhide KEEP) We BWe))
            obtain ⟨a63, n63, c63, rfl⟩ := (unhide HPF).shape
            refine hK.out (.slice a63 n63 c63) Wf HHF ?_
            clear hK K ho13 hg13 hx3 hx4 hy3 hy4 hxl hyl hLL hGG hGy KQ13
            simp only [Act.put, List.setIfInBounds_toArray, List.set_cons_zero, List.set_cons_succ]
            refine Z.ready (rs := [14]) (by kernel_rfl) (by simp) (Z.val_cons (i := 14) (d := 7) (v := .slice a63 n63 c63) (w' := Wf) rfl (by rfl) (fun K hK => ?_) (fun h => absurd rfl h) ?_ Z.All.nil)
            · go_simp
              exact hK.out
            simp only [Act.put, List.setIfInBounds_toArray, List.set_cons_zero, List.set_cons_succ]
            refine Z.done (by kernel_rfl) ?_ _
            clear HHF KEEP hHeld HP62 BWe Bd HP6 HS6 HK6 hst hrowk hS0 hh8
            go_wp2_with fail
            go_roundg (n - (k + 1))
            case rel => exact ⟨k + 1, rfl, by go_num, by have := unhide HLT; omega, unhide HPF, unhide HSF, unhide HKF, BWf⟩
            case measure => have := hg.out; have := unhide HLT; omega
        · go_simp
          rw [← hWq]
          exact hK.out
        · simp only [Act.put, List.setIfInBounds_toArray, List.set_cons_zero, List.set_cons_succ]
          clear hWa hWq Ba Ra haS
          obtain ⟨Wc, hWc⟩ : ∃ Wc, Wc = Wq.alloc (.cells #[] 27) := ⟨_, rfl⟩
          have Bc : Below Wq.heap.size Wq Wc := by rw [hWc]; exact (Below.refl _ _).alloc (Nat.le_refl _) _
          have Rc := hide (show Wc.ownsRow W6.heap.size 27 1 (.slice (some ⟨Wq.heap.size, 0, none⟩) 0 0) 0 [] by rw [hWc]; exact empty_row Wq _ _ Bq.size)
          have hcS : Hid (Wc.heap.size = Wq.heap.size + 1) := hide (by rw [hWc]; simp)
          have BVc : Below W6.heap.size W6 Wc := Bq.trans (Bc.mono Bq.size)
          have hNc : ∀ j u, ([Value.slice (some ⟨b11, 0, none⟩) 1 d11] : List Value)[j]? = some u → Wc.cell? ((⟨W6.heap.size, 0, none⟩ : Addr).add j) = some u := fun j u hu => by
            have h := hNq j u hu
            rw [Go.WideShapes.add_plain] at h ⊢
            rw [← h]
            exact cell_block (Bc.block W6.heap.size (by have := hqS.out; omega))
          refine Z.ready (rs := [5]) (by kernel_rfl) (by simp) (Z.val_cons (i := 5) (d := 55) (v := .slice (some ⟨Wq.heap.size, 0, none⟩) 0 0) (w' := Wc) rfl (by rfl) (fun K hK => ?_) (fun _ => (unhide KEEP) Wc BVc) ?_ Z.All.nil)
          · go_simp
            rw [← hWc]
            exact hK.out
          simp only [Act.put, List.setIfInBounds_toArray, List.set_cons_zero, List.set_cons_succ]
          clear hWc hNq
          refine Z.ready (rs := [7]) (by kernel_rfl) (by simp) (Z.call_cons (i := 7) rfl (by rfl) (fun K hK => ?_) Z.All.nil)
          refine wp_row _ (.tmp 55) (.tmp 56) 50 rfl 27 i1 (.slice none 0 0) 24 Tryd.underlying50 hi1 hx0 hx1 hx2 rfl W6.heap.size (.slice (some ⟨Wq.heap.size, 0, none⟩) 0 0) 0 [] rfl (unhide Rc) (.slice pa ahead.length pc) rfl vs ((unhide HRD) _ (B6.trans (BVc.mono B6.size))) (unhide hvp) (by unfold maxLen; omega) (by omega) BVc.size ?_
          intro v57 Wb ho7 hg7
          have Bb : Below W6.heap.size W6 Wb := BVc.grown hg7 BVc.size (fun q hq => by cases hq; exact Bq.size)
          have ho7 : Wb.ownsRow W6.heap.size 27 1 v57 vs.length vs := by have h := ho7; first | (simp only [List.nil_append, Nat.zero_add] at h; exact h) | exact h
          have hNb : ∀ j u, ([Value.slice (some ⟨b11, 0, none⟩) 1 d11] : List Value)[j]? = some u → Wb.cell? ((⟨W6.heap.size, 0, none⟩ : Addr).add j) = some u := fun j u hu => by
            have h := hNc j u hu
            rw [Go.WideShapes.add_plain] at h ⊢
            rw [← h]
            exact cell_block (hg7.block W6.heap.size (by have := hcS.out; have := hqS.out; omega) (fun e => by simp only [Value.ownBlock, Option.some.injEq] at e; have := hqS.out; omega))
          have HO7 := hide ho7
          obtain ⟨x7, y7, z7, e7⟩ : ∃ a k c, v57 = .slice a k c := row_shape ho7
          subst e7
          refine hK.out _ _ (fun _ => (unhide KEEP) Wb Bb) ?_
          clear hK K ho7 hg7 hNc Rc
          simp only [Act.put, List.setIfInBounds_toArray, List.set_cons_zero, List.set_cons_succ]
          refine Z.only (i := 10) (d := 60) rfl rfl (by kernel_rfl) (by rfl) (fun K hK => ?_)
          refine wp_row _ (.tmp 57) (.tmp 59) 50 rfl 27 i1 (.slice none 0 0) 24 Tryd.underlying50 hi1 hx0 hx1 hx2 rfl W6.heap.size (.slice x7 y7 z7) vs.length vs rfl (unhide HO7) (.slice (some ⟨W6.heap.size, 0, none⟩) 1 1) rfl [.slice (some ⟨b11, 0, none⟩) 1 d11] (.inr ⟨_, 1, rfl, hNb⟩) (by intro u hu; rw [List.mem_singleton.1 hu]; rfl) (by unfold maxLen; simp; omega) (by simp; omega) Bb.size ?_
          intro v60 Wd ho10 hg10
          have Bd : Below W6.heap.size W6 Wd := Bb.grown hg10 Bb.size (row_base (unhide HO7))
          clear hg10 HO7 hNb BVc Bc Bb hqS Bq hcS
          have HO10 := hide ho10
          clear ho10
          have hst10 := hide ((Kq.ofBelow Bd).ownG (unhide hst))
          have hsl10 := hide (((unhide HVS) Wd (B6.trans (Bd.mono B6.size))).snoc hd11 (unhide hst10))
          obtain ⟨ah, hah⟩ : ∃ ah, ah = ahead ++ [stepAt ob ks k] := ⟨_, rfl⟩
          have HAH := hide hah
          have hal : Hid (ah.length = ahead.length + 1) := hide (by rw [hah]; simp)
          have han : Hid (ah = [] → False) := hide (fun h => by rw [hah] at h; simp at h)
          obtain ⟨a60, c60, e60, h60c, h60m, hpt60⟩ := PT.of_own (cs := ah) (by rw [hah, List.length_append, List.length_cons, List.length_nil, ← unhide HVL]; exact unhide HO10) (by rw [hah]; exact unhide hsl10)
          clear hah
          subst e60
          have HC12 := hide (ih.out q bk 0 ck a60 c60 ah false Wd hpv (by have := hpl; omega) (hrowk.below Bd hbk) (Nat.lt_of_lt_of_le hbk Bd.size) hck hpt60 (fun h => ((unhide han) h).elim) h60c h60m (by have := hpl; have := unhide hal; omega))
          refine hK.out (.slice a60 ah.length c60) Wd ((unhide KEEP) Wd Bd) ?_
          clear hK K HO10 hsl10 hst10 hpt60 han
          simp only [Act.put, List.setIfInBounds_toArray, List.set_cons_zero, List.set_cons_succ]
          refine Z.only (i := 12) (d := 62) rfl rfl (by kernel_rfl) (by rfl) (fun K hK => ?_)
          go_simp
          refine (unhide HC12).mono ?_
          rintro e12 We ⟨s62, rfl, hp62, hbe⟩
          have BWe : Below W6.heap.size W6 We := Bd.trans (hbe.mono Bd.size)
          obtain ⟨a62, n62, c62, rfl⟩ := hp62.shape
          have HP62 := hide hp62
          go_simp
          refine hK.out (.slice a62 n62 c62) We ((unhide KEEP) We BWe) ?_
          clear hK K HC12 hbe hp62
          simp only [Act.put, List.setIfInBounds_toArray, List.set_cons_zero, List.set_cons_succ]
          obtain ⟨ys, hy3, hy4⟩ := unhide HP62
          obtain ⟨xs, hx3, hx4⟩ := (unhide HP6).below BWe
          have hxl : xs.length = (O ++ allK (all false f) ob ks ps ahead k).length := by have := hx3.1; omega
          have hyl : ys.length = (all false f q ah).length := by have := hy3.1; omega
          have hLL : (O ++ allK (all false f) ob ks ps ahead k).length ≤ 201 := by rw [List.length_append]; have := (unhide HAK) k (Nat.le_of_lt (unhide HLT)); omega
          have hGG := (unhide HGL) q ah hpv
          have hGy : ys.length ≤ 200 := by rw [hyl]; exact hGG
          refine Z.only (i := 13) (d := 63) rfl rfl (by kernel_rfl) (by rfl) (fun K hK => ?_)
          refine wp_row _ (.tmp 50) (.tmp 62) 90 rfl 50 i2 (.slice none 0 0) 24 Tryd.underlying90 hi2 hy0 hy1 hy2 rfl w.heap.size (.slice a7 n7 c7) _ xs rfl hx3 (.slice a62 n62 c62) rfl ys (row_read hy3) (PPL.plain hyl hy4) (by unfold maxLen; omega) (by omega) (by have := B6.size; have := BWe.size; omega) ?_
          intro s63 Wf ho13 hg13
          have KQ13 := Kq.grown hx3 (by decide) (by decide) (by decide) hg13
          have HPF := hide (show PPL Wf w.heap.size s63 (O ++ allK (all false f) ob ks ps ahead (k + 1)) from by
            have h := PPL.app (w := We) hxl hx4 hyl hy4 (by rw [← hyl]; exact ho13) KQ13
            rw [List.append_assoc, unhide HQ, unhide HAH] at h
            exact h)
          have HSF := hide (KQ13.ss ((unhide HS6).below BWe))
          have HKF := hide (KQ13.ks ((unhide HK6).below BWe))
          have BWf : Below w.heap.size w Wf := (B6.trans (BWe.mono B6.size)).grown hg13 (by have := B6.size; have := BWe.size; omega) (row_base hx3)
          have HHF : (Wf.heap[g8]? = some (.cells cur8 27 (0, 0))) := ((KQ13 g8 cur8 27 ((unhide KEEP) We BWe) (.inl rfl)).trans ((unhide KEEP) We BWe))
          obtain ⟨a63, n63, c63, rfl⟩ := (unhide HPF).shape
          refine hK.out (.slice a63 n63 c63) Wf HHF ?_
          clear hK K ho13 hg13 hx3 hx4 hy3 hy4 hxl hyl hLL hGG hGy KQ13
          simp only [Act.put, List.setIfInBounds_toArray, List.set_cons_zero, List.set_cons_succ]
          refine Z.ready (rs := [14]) (by kernel_rfl) (by simp) (Z.val_cons (i := 14) (d := 7) (v := .slice a63 n63 c63) (w' := Wf) rfl (by rfl) (fun K hK => ?_) (fun h => absurd rfl h) ?_ Z.All.nil)
          · go_simp
            exact hK.out
          simp only [Act.put, List.setIfInBounds_toArray, List.set_cons_zero, List.set_cons_succ]
          refine Z.done (by kernel_rfl) ?_ _
          clear HHF KEEP hHeld HP62 BWe Bd HP6 HS6 HK6 hst hrowk hS0 hh8
          go_wp2_with fail
          go_roundg (n - (k + 1))
          case rel => exact ⟨k + 1, rfl, by go_num, by have := unhide HLT; omega, unhide HPF, unhide HSF, unhide HKF, BWf⟩
          case measure => have := hg.out; have := unhide HLT; omega
    · have hke : k = n := by omega
      have fin := hide (show PPL wr w.heap.size (.slice a7 n7 c7) (all false (f + 1) v ahead) by rw [unhide HE, ← hke]; exact hP.out)
      clear hke
      go_wp2_with fail
      go_ret
      exact ⟨_, rfl, unhide fin, hbel⟩
end Al
end Go.Proofs.YtlbmpldknfcfhaaDoor
