/-
  spec.l3Sub: of two arrays, of what has no difference; whole.
  impl.withoutElements, and impl.differenceOf whole.
  spec.l3Binary and spec.Binary.
  impl.opTable and impl.Binary.
-/
import Derived.Test.YtemehbjlfiebdaaGreatX15
import Derived.Test.YtemehbjlfiebdaaGreatX17
import Derived.Test.YtemehbjlfiebdaaGreatX41
import Derived.Test.YtemehbjlfiebdaaGreatX43
import Derived.Test.YtemehbjlfiebdaaGreatX44
import Derived.Test.YtemehbjlfiebdaaGreatX50
import Derived.Laws.EntriesVeiled
import Derived.Maps.AppendAt
namespace Go.Proofs.YtemehbjlfiebdaaGreat
open Go.RowKit
set_option linter.unusedVariables false

theorem SS.seen {w : World} {B : Nat} {v : Value} {ps : List (List M.Cl)} (h : SS w B v ps) (hne : ∀ i, i < ps.length → ps.getD i [] ≠ []) : Vw w w.heap.size v ps := (h.ps hne).vw (.inl (Nat.le_refl _))
/-- A list of its own, as a row. -/
theorem Res.rowed {w : World} {B : Nat} {s : Value} {l : List M.Cl} (h : Res w B s l) (hne : l ≠ []) : ∃ b cap, s = .slice (some ⟨b, 0, none⟩) l.length cap ∧ l.length ≤ cap ∧ b < w.heap.size ∧ Row w b 0 l := by
  obtain ⟨_, ⟨_, h2⟩ | ⟨c, cc, h3, h4, h5, h6⟩⟩ := h
  · exact absurd h2 hne
  · exact ⟨c, cc, h3, h5, h6.lt, h6.row⟩

/-- What the walk of a difference holds: the lists that go, the lists that are asked, and what is left so far. -/
structure Lf (w0 wr : World) (B : Nat) (s5 s6 s7 : Value) (ps qs : List (List M.Cl)) (k : Nat) : Prop where
  gone : SS wr B s5 qs
  asked : SS wr B s6 ps
  left : SS wr B s7 (leftOf ps qs k)
  ap5 : Apart s7 s5
  ap6 : Apart s7 s6
  bel : Below B w0 wr
  low : B ≤ wr.heap.size
theorem Lf.below {w0 wr w' : World} {B : Nat} {s5 s6 s7 : Value} {ps qs : List (List M.Cl)} {k : Nat} (h : Lf w0 wr B s5 s6 s7 ps qs k) (hb : Below wr.heap.size wr w') : Lf w0 w' B s5 s6 s7 ps qs k :=
  ⟨h.gone.below hb, h.asked.below hb, h.left.below hb, h.ap5, h.ap6, h.bel.trans (hb.mono h.low), Nat.le_trans h.low hb.size⟩
theorem Lf.go {w0 wr : World} {B : Nat} {s5 s6 s7 : Value} {ps qs : List (List M.Cl)} {k : Nat} (h : Lf w0 wr B s5 s6 s7 ps qs k) (hk : k < ps.length) (ha : among qs (ps.getD k []) = true) : Lf w0 wr B s5 s6 s7 ps qs (k + 1) :=
  ⟨h.gone, h.asked, by rw [left_yes hk ha]; exact h.left, h.ap5, h.ap6, h.bel, h.low⟩
/-- One more list is left: what an append asks and what it gives. -/
theorem Lf.put {w0 wr : World} {B : Nat} {s5 s6 s7 sp : Value} {ps qs : List (List M.Cl)} {k : Nat} (h : Lf w0 wr B s5 s6 s7 ps qs k) (hk : k < ps.length) (ha : among qs (ps.getD k []) = false) (hp : Res wr B sp (ps.getD k [])) :
    ∃ ss, wr.ownsRow B 24 1 s7 (leftOf ps qs k).length ss ∧ ∀ o v' w', w'.ownsRow B 24 1 v' ((leftOf ps qs k).length + 1) (ss ++ [sp]) → (wr.alloc o).grownBy w' s7.ownBlock → (v'.ownBlock = s7.ownBlock ∨ v'.ownBlock = some (wr.alloc o).heap.size) → Lf w0 w' B s5 s6 v' ps qs (k + 1) := by
  obtain ⟨ss, hsl, hown, hres⟩ := h.left
  refine ⟨ss, hown, fun o v' w' ho hg hat => ?_⟩
  obtain ⟨x5, hx5⟩ := h.gone.ownsRow
  obtain ⟨x6, hx6⟩ := h.asked.ownsRow
  have hbse := ownsRow_base hown
  have hB1 : Below B w0 (wr.alloc o) := h.bel.alloc h.low _
  have hB2 : Below B w0 w' := hB1.grown hg (by simp; have := h.low; omega) hbse
  refine ⟨(h.gone.alloc o).keptB (hown.alloc o) h.ap5.or hg, (h.asked.alloc o).keptB (hown.alloc o) h.ap6.or hg, ?_, h.ap5.next (fun g hg' => Nat.lt_trans (row_blt hx5 g hg').2 (by simp)) hat, h.ap6.next (fun g hg' => Nat.lt_trans (row_blt hx6 g hg').2 (by simp)) hat, hB2, ?_⟩
  · rw [left_no hk ha]
    exact SS.snoc rfl hsl hown hres hp hg ho
  · have := hg.size
    have := h.low
    simp at *
    omega

set_option maxRecDepth 100000 in
set_option maxHeartbeats 4000000 in
theorem subSpec_no (v : List M.Cl) (b off cap : Nat) (u : List M.Cl) (b' off' cap' : Nat) (w : World) (hv : M.valueFault v = 0) (hu : M.valueFault u = 0) (hrow : Row w b off v) (hb : b < w.heap.size) (hn : v.length ≤ 1048576) (hcap : v.length ≤ cap) (hok : ∀ c ∈ v, c.ok) (hrow' : Row w b' off' u) (hb' : b' < w.heap.size) (hn' : u.length ≤ 1048576) (hcap' : u.length ≤ cap') (hok' : ∀ c ∈ u, c.ok) (h3 : ¬ ((v.getD 0 M.zero).kind = 3 ∧ (u.getD 0 M.zero).kind = 3)) (h5 : ¬ ((v.getD 0 M.zero).kind = 5 ∧ (u.getD 0 M.zero).kind = 5)) :
    Calls Tryz.prog 52 #[.slice (some ⟨b, off, none⟩) v.length cap, .slice (some ⟨b', off', none⟩) u.length cap'] w (Ans w (subIn v u)) := by
  have fin := hide (sub_k h3 h5)
  have hl1 := (M.fault_zero hv).1
  have hl1' := (M.fault_zero hu).1
  obtain ⟨w0, hw0⟩ : ∃ w0, w0 = w.alloc (.cells #[.int .i64 0, .slice none 0 0] 28) := ⟨_, rfl⟩
  have HR0 : Own w0 w.heap.size 28 [.int .i64 0, .slice none 0 0] := by rw [hw0]; exact ⟨_, heap_alloc_new _ _, rfl⟩
  have B00 : Below w.heap.size w w0 := by rw [hw0]; exact (Below.refl _ _).alloc (Nat.le_refl _) _
  have hrow0 := hrow.below B00 hb
  have hrow0' := hrow'.below B00 hb'
  have hb0 : b < w0.heap.size := Nat.lt_of_lt_of_le hb B00.size
  have hb0' : b' < w0.heap.size := Nat.lt_of_lt_of_le hb' B00.size
  obtain ⟨f0, _, _, _, _⟩ := hrow0 0 (by omega)
  obtain ⟨g0, _, _, _, _⟩ := hrow0' 0 (by omega)
  simp only [Nat.zero_mul, Nat.add_zero] at f0 g0
  rw [hw0] at f0 g0
  clear hv hu hok hok' hrow hrow' hrow0 hrow0' hcap hcap' hn hn'
  generalize v.getD 0 M.zero = c at *
  generalize u.getD 0 M.zero = d at *
  generalize c.kind = x at *
  generalize d.kind = y at *
  have fin3 : (x = 3 ∧ y ≠ 3) ∨ (x ≠ 3 ∧ x ≠ 5) ∨ (x = 5 ∧ y ≠ 5) := by omega
  clear h3 h5
  rcases fin3 with ⟨hx, hy⟩ | ⟨hx, hx5⟩ | ⟨hx, hy⟩
  · subst hx
    have ey : (y == 3) = false := by simpa using hy
    clear hy
    go_enter Tryz.func52, Tryz.ntmps52
    go_wp2_with fail
    all_goals
      rw [← hw0]
      refine (l3Bad_any _ _).mono ?_
      rintro ec wc ⟨sc, rfl, hrc, hbc⟩
      have hRc := HR0.below hbc HR0.lt
      have r0 := hRc.cell 0
      have r1 := hRc.cell 1
      have z0 := hRc.frozen 0
      have z1 := hRc.frozen 1
      simp only [List.getElem?_cons_zero, List.getElem?_cons_succ] at r0 r1
      have HE := hide (Ans.store hrc B00 HR0.lt hbc)
      obtain ⟨ac, mc, cc, rfl⟩ := hrc.shape
      clear hrc hbc f0 g0
      go_wp2_with fail
      refine bodyPost_ret (v := .agg #[.int .i64 6, .slice ac mc cc]) (by simp [results, Tryz.results52, go_sem, r0, r1]) rfl (ans_of (unhide fin) ((unhide HE) _ _).1 ((unhide HE) _ _).2)
  · have ex : (x == 3) = false := by simpa using hx
    have ex5 : (x != 5) = true := by simpa using hx5
    have ex6 : (x == 5) = false := by simpa using hx5
    clear hx hx5
    go_enter Tryz.func52, Tryz.ntmps52
    go_wp2_with fail
    all_goals
      rw [← hw0]
      refine (l3Bad_any _ _).mono ?_
      rintro ec wc ⟨sc, rfl, hrc, hbc⟩
      have hRc := HR0.below hbc HR0.lt
      have r0 := hRc.cell 0
      have r1 := hRc.cell 1
      have z0 := hRc.frozen 0
      have z1 := hRc.frozen 1
      simp only [List.getElem?_cons_zero, List.getElem?_cons_succ] at r0 r1
      have HE := hide (Ans.store hrc B00 HR0.lt hbc)
      obtain ⟨ac, mc, cc, rfl⟩ := hrc.shape
      clear hrc hbc f0 g0
      go_wp2_with fail
      refine bodyPost_ret (v := .agg #[.int .i64 6, .slice ac mc cc]) (by simp [results, Tryz.results52, go_sem, r0, r1]) rfl (ans_of (unhide fin) ((unhide HE) _ _).1 ((unhide HE) _ _).2)
  · subst hx
    have ey : (y != 5) = true := by simpa using hy
    have ey5 : (y == 5) = false := by simpa using hy
    clear hy
    go_enter Tryz.func52, Tryz.ntmps52
    go_wp2_with fail
    all_goals
      rw [← hw0]
      refine (l3Bad_any _ _).mono ?_
      rintro ec wc ⟨sc, rfl, hrc, hbc⟩
      have hRc := HR0.below hbc HR0.lt
      have r0 := hRc.cell 0
      have r1 := hRc.cell 1
      have z0 := hRc.frozen 0
      have z1 := hRc.frozen 1
      simp only [List.getElem?_cons_zero, List.getElem?_cons_succ] at r0 r1
      have HE := hide (Ans.store hrc B00 HR0.lt hbc)
      obtain ⟨ac, mc, cc, rfl⟩ := hrc.shape
      clear hrc hbc f0 g0
      go_wp2_with fail
      refine bodyPost_ret (v := .agg #[.int .i64 6, .slice ac mc cc]) (by simp [results, Tryz.results52, go_sem, r0, r1]) rfl (ans_of (unhide fin) ((unhide HE) _ _).1 ((unhide HE) _ _).2)

set_option maxRecDepth 100000 in
set_option maxHeartbeats 8000000 in
theorem subSpec_arr (v : List M.Cl) (b off cap : Nat) (u : List M.Cl) (b' off' cap' : Nat) (w : World) (hv : M.valueFault v = 0) (hu : M.valueFault u = 0) (hrow : Row w b off v) (hb : b < w.heap.size) (hn : v.length ≤ 1048576) (hcap : v.length ≤ cap) (hok : ∀ c ∈ v, c.ok) (hrow' : Row w b' off' u) (hb' : b' < w.heap.size) (hn' : u.length ≤ 1048576) (hcap' : u.length ≤ cap') (hok' : ∀ c ∈ u, c.ok) (k5 : (v.getD 0 M.zero).kind = 5) (k5' : (u.getD 0 M.zero).kind = 5) :
    Calls Tryz.prog 52 #[.slice (some ⟨b, off, none⟩) v.length cap, .slice (some ⟨b', off', none⟩) u.length cap'] w (Ans w (subIn v u)) := by
  have fin := hide ((sub_5 k5 k5').trans (by rw [← left_whole]))
  have hl1 := (M.fault_zero hv).1
  have hl1' := (M.fault_zero hu).1
  obtain ⟨w0, hw0⟩ : ∃ w0, w0 = w.alloc (.cells #[.int .i64 0, .slice none 0 0] 28) := ⟨_, rfl⟩
  have HR0 : Own w0 w.heap.size 28 [.int .i64 0, .slice none 0 0] := by rw [hw0]; exact ⟨_, heap_alloc_new _ _, rfl⟩
  have B00 : Below w.heap.size w w0 := by rw [hw0]; exact (Below.refl _ _).alloc (Nat.le_refl _) _
  have hrow0 := hrow.below B00 hb
  have hrow0' := hrow'.below B00 hb'
  have hb0 : b < w0.heap.size := Nat.lt_of_lt_of_le hb B00.size
  have hb0' : b' < w0.heap.size := Nat.lt_of_lt_of_le hb' B00.size
  obtain ⟨f0, _, _, _, _⟩ := hrow0 0 (by omega)
  obtain ⟨g0, _, _, _, _⟩ := hrow0' 0 (by omega)
  simp only [Nat.zero_mul, Nat.add_zero] at f0 g0
  rw [hw0] at f0 g0
  rw [k5] at f0
  rw [k5'] at g0
  have HPF := hide (fun w' (r : Row w' b off v) hb' => l1Parts_any v b off cap w' hv r hb' hcap hok)
  have HPF' := hide (l1Parts_any u b' off' cap' w0 hu hrow0' hb0' hcap' hok')
  have HRW := hide (fun w' (B : Below w0.heap.size w0 w') => hrow0.below B hb0)
  have hall := subs_all hv hok
  have hall' := subs_all hu hok'
  have HNE := hide hall.2.2.2
  have HNE' := hide hall'.2.2.2
  have HAM : Hid (∀ (s5 : Value) (wr : World) (k b2 c2 : Nat), SS wr w0.heap.size s5 (subs u 0) → k < (subs v 0).length → Row wr b2 0 ((subs v 0).getD k []) → b2 < wr.heap.size → ((subs v 0).getD k []).length ≤ c2 → Calls Tryz.prog 74 #[s5, .slice (some ⟨b2, 0, none⟩) ((subs v 0).getD k []).length c2] wr fun e w' => e = .returned (.bool (among (subs u 0) ((subs v 0).getD k []))) ∧ Below wr.heap.size wr w') := fun s5 wr k b2 c2 h1 h2 h3 h4 h5 =>
    l3Among_any s5 (subs u 0) wr.heap.size _ b2 0 c2 wr (h1.seen hall'.2.2.2) hall'.1 hall'.2.1 hall'.2.2.1 (hall.2.1 k h2) h3 h4 h5 (hall.2.2.1 k h2)
  have HLF := hide (left_facts (subs u 0) hv hok (subs v 0).length)
  have h200 := hall.1
  obtain ⟨i0, hi, hz0, hz1, hz2⟩ := info_parts Tryz.info24
  clear hall hall' hv hu hok hok' hrow hrow' hrow0 hrow0' hn hn' k5 k5'
  go_enter Tryz.func52, Tryz.ntmps52
  go_wp2_with fail
  rw [← hw0]
  clear hw0 f0 g0
  refine (unhide HPF').mono ?_
  rintro e1 w1 ⟨s5, rfl, hs5, hb1⟩
  have B1 : Below w0.heap.size w0 w1 := hb1
  clear hb1 HPF'
  go_wp2_with fail
  refine ((unhide HPF) _ ((unhide HRW) _ B1) (Nat.lt_of_lt_of_le hb0 B1.size)).mono ?_
  rintro e2 w2 ⟨s6, rfl, hs6, hb2⟩
  have B2 : Below w0.heap.size w0 w2 := B1.trans (hb2.mono B1.size)
  have H5 := hs5.below hb2
  have H6 := hs6.mono B1.size
  clear hb2 hs5 hs6 HPF HRW
  have L0 : Lf w0 (w2.alloc (.cells #[] 24)) w0.heap.size s5 s6 (.slice (some ⟨w2.heap.size, 0, none⟩) 0 0) (subs v 0) (subs u 0) 0 := by
    obtain ⟨x5, hx5⟩ := H5.ownsRow
    obtain ⟨x6, hx6⟩ := H6.ownsRow
    refine ⟨H5.alloc _, H6.alloc _, by rw [left_zero]; exact SS.empty w2 w0.heap.size w2.heap.size rfl B2.size, fun g hg e => ?_, fun g hg e => ?_, B2.alloc B2.size _, by simp; have := B2.size; omega⟩
    · have := (row_blt hx5 g hg).2
      simp only [Value.ownBlock, Option.some.injEq] at e
      omega
    · have := (row_blt hx6 g hg).2
      simp only [Value.ownBlock, Option.some.injEq] at e
      omega
  obtain ⟨pa, pc, hsh, hpc, _⟩ := H6.lv (unhide HNE)
  subst hsh
  have HL0 := hide L0
  clear L0 H5 H6 B1 B2
  obtain ⟨m, hm⟩ : ∃ m, m = (subs v 0).length := ⟨_, rfl⟩
  have HM := hide hm
  rw [← hm] at hpc h200 HL0 fin HLF ⊢
  clear hm
  go_wp2_with fail
  go_loopg [7, 8] m (fun gh s7 s8 wr => ∃ k : Nat, Hid (gh = m - k) ∧ s8 = .int .i64 k ∧ k ≤ m ∧ Hid (Lf w0 wr w0.heap.size s5 (.slice pa m pc) s7 (subs v 0) (subs u 0) k))
  case atStart => exact ⟨0, rfl, rfl, by omega, unhide HL0⟩
  case round =>
    clear HL0
    obtain ⟨k, hg, rfl, hk, hL⟩ := hrel
    by_cases hlt : k < m
    · have hlt2 : k < (subs v 0).length := by rw [← unhide HM]; exact hlt
      obtain ⟨g2, cap2, sv, heq2, hcap2, f2, hr2⟩ := (hL.out).asked.at hlt2
      rw [← unhide HM] at heq2 hcap2
      cases heq2
      obtain ⟨b2, c2, hsv, hc2, hb2, hrw2⟩ := hr2.rowed ((unhide HNE) k hlt2)
      subst hsv
      have HQ := hide ((unhide HAM) s5 wr k b2 c2 (hL.out).gone hlt2 hrw2 hb2 hc2)
      have hr2' := hide hr2
      have hg2 : g2 < wr.heap.size := by
        obtain ⟨x6, hx6⟩ := (hL.out).asked.ownsRow
        exact (row_blt hx6 g2 rfl).2
      have HGO : Hid (∀ w7, Below wr.heap.size wr w7 → among (subs u 0) ((subs v 0).getD k []) = true → Lf w0 w7 w0.heap.size s5 (.slice (some ⟨g2, 0, none⟩) m pc) u7 (subs v 0) (subs u 0) (k + 1)) := fun w7 h7 ha => ((hL.out).below h7).go hlt2 ha
      have HPUT : Hid (∀ w7, Below wr.heap.size wr w7 → among (subs u 0) ((subs v 0).getD k []) = false → _) := fun w7 h7 ha => ((hL.out).below h7).put hlt2 ha (hr2.below h7)
      have hsz := (hL.out).low
      have hle := left_length (subs v 0) (subs u 0) k
      clear hL hr2 hrw2 hlt2
      generalize hq : among (subs u 0) ((subs v 0).getD k []) = q at HQ HGO HPUT
      generalize hN : (leftOf (subs v 0) (subs u 0) k).length = N at HPUT hle
      clear hq hN hr2'
      generalize ((subs v 0).getD k []).length = x2 at f2 HQ HPUT hc2
      go_wp2_with fail
      refine (unhide HQ).mono ?_
      rintro e7 w7 ⟨rfl, hb7⟩
      cases q with
      | true =>
        have hn2 := hide ((unhide HGO) w7 hb7 rfl)
        clear HGO HPUT HQ hb7 f2
        go_wp2_with fail
        go_roundg (m - (k + 1))
        case rel => exact ⟨k + 1, rfl, by go_num, by omega, unhide hn2⟩
        case measure => have := hg.out; omega
      | false =>
        have f7 := (hb7.cell hg2).trans f2
        obtain ⟨ss, hown, hput⟩ := (unhide HPUT) w7 hb7 rfl
        have hown' := hide (fun o => hown.alloc o)
        have HP := hide hput
        have hone := hide (one_val w7 (.slice (some ⟨b2, 0, none⟩) x2 c2) 24)
        have honep := hide (one_plain' (some ⟨b2, 0, none⟩) x2 c2)
        have hk63 : N + 1 ≤ maxLen := by unfold maxLen; omega
        have hby : (N + 1) * 24 ≤ 140737488355328 := by omega
        have hs7 : w0.heap.size ≤ w7.heap.size := Nat.le_trans hsz hb7.size
        clear HGO HPUT HQ hb7 f2 hown hput
        go_wp2_with (at_builtin; refine wpList_append_own_at _ rfl (.tmp 63) (.tmp 68) 44 rfl w0.heap.size 24 i0 (.slice none 0 0) 1 24 Tryz.underlying44 hi hz0 hz1 hz2 rfl (by decide) _ N ss rfl ((unhide hown') _) ⟨w7.heap.size, 0, none⟩ 1 1 [.slice (some ⟨b2, 0, none⟩) x2 c2] rfl rfl (unhide hone) (unhide honep) hk63 hby (by simp; omega) ?_)
        intro v8 w8 ho8 hg8 _ hat8
        have R := hide ((unhide HP) _ v8 w8 ho8 hg8 (by simpa using hat8))
        clear ho8 hg8 hat8 HP hown' f7 hone honep
        go_wp2_with fail
        go_roundg (m - (k + 1))
        case rel => exact ⟨k + 1, rfl, by go_num, by omega, unhide R⟩
        case measure => have := hg.out; omega
    · have hke : k = m := by omega
      subst hke
      have BR : Below w.heap.size w wr := B00.trans ((hL.out).bel.mono B00.size)
      have hRr := HR0.below (hL.out).bel HR0.lt
      have hwr : w.heap.size < wr.heap.size := hRr.lt
      obtain ⟨la, lc, hla, hlc, hlv⟩ := (hL.out).left.lv (valid_ne (unhide HLF).2.1)
      subst hla
      have HF1 := hide (show (leftOf (subs v 0) (subs u 0) k).length ≤ 4096 by have := (unhide HLF).1; omega)
      have HF2 := hide (unhide HLF).2.1
      clear hL HLF
      generalize leftOf (subs v 0) (subs u 0) k = SP at *
      go_wp2_with fail
      refine (l1ArrayV_any la lc SP _ hlv hlc (unhide HF1) (unhide HF2)).mono ?_
      rintro e6 w6 ⟨s6, rfl, hr6, hb6⟩
      have hR6 := hRr.below hb6 hRr.lt
      have r0 := hR6.cell 0
      have r1 := hR6.cell 1
      have z0 := hR6.frozen 0
      have z1 := hR6.frozen 1
      simp only [List.getElem?_cons_zero, List.getElem?_cons_succ] at r0 r1
      have HE := hide (Ans.store hr6 BR hwr hb6)
      obtain ⟨ac, mc, cc, rfl⟩ := hr6.shape
      clear hr6 hb6 hlv
      go_wp2_with fail
      refine bodyPost_ret (v := .agg #[.int .i64 0, .slice ac mc cc]) (by simp [results, Tryz.results52, go_sem, r0, r1]) rfl (ans_of (unhide fin) ((unhide HE) _ _).1 ((unhide HE) _ _).2)

theorem l3Sub_any (v : List M.Cl) (b off cap : Nat) (u : List M.Cl) (b' off' cap' : Nat) (w : World) (hv : M.valueFault v = 0) (hu : M.valueFault u = 0) (hrow : Row w b off v) (hb : b < w.heap.size) (hn : v.length ≤ 1048576) (hcap : v.length ≤ cap) (hok : ∀ c ∈ v, c.ok) (hrow' : Row w b' off' u) (hb' : b' < w.heap.size) (hn' : u.length ≤ 1048576) (hcap' : u.length ≤ cap') (hok' : ∀ c ∈ u, c.ok) :
    Calls Tryz.prog 52 #[.slice (some ⟨b, off, none⟩) v.length cap, .slice (some ⟨b', off', none⟩) u.length cap'] w (Ans w (subIn v u)) := by
  by_cases h3 : (v.getD 0 M.zero).kind = 3 ∧ (u.getD 0 M.zero).kind = 3
  · exact subSpec_num v b off cap u b' off' cap' w hv hu hrow hb hn hcap hok hrow' hb' hn' hcap' hok' h3.1 h3.2
  by_cases h5 : (v.getD 0 M.zero).kind = 5 ∧ (u.getD 0 M.zero).kind = 5
  · exact subSpec_arr v b off cap u b' off' cap' w hv hu hrow hb hn hcap hok hrow' hb' hn' hcap' hok' h5.1 h5.2
  · exact subSpec_no v b off cap u b' off' cap' w hv hu hrow hb hn hcap hok hrow' hb' hn' hcap' hok' h3 h5

end Go.Proofs.YtemehbjlfiebdaaGreat

namespace Go.Proofs.YtemehbjlfiebdaaGreat
open Go.RowKit
set_option linter.unusedVariables false

set_option maxRecDepth 100000 in
set_option maxHeartbeats 8000000 in
theorem withoutElements_any (v : List M.Cl) (b off cap : Nat) (u : List M.Cl) (b' off' cap' : Nat) (w : World) (hv : M.valueFault v = 0) (hu : M.valueFault u = 0) (hrow : Row w b off v) (hb : b < w.heap.size) (hn : v.length ≤ 1048576) (hcap : v.length ≤ cap) (hok : ∀ c ∈ v, c.ok) (hrow' : Row w b' off' u) (hb' : b' < w.heap.size) (hn' : u.length ≤ 1048576) (hcap' : u.length ≤ cap') (hok' : ∀ c ∈ u, c.ok) :
    Calls Tryz.prog 63 #[.slice (some ⟨b, off, none⟩) v.length cap, .slice (some ⟨b', off', none⟩) u.length cap'] w (Ans w (0, arrV (leftOf (subs v 0) (subs u 0) (subs v 0).length))) := by
  obtain ⟨w0, hw0⟩ : ∃ w0, w0 = w.alloc (.cells #[.int .i64 0, .slice none 0 0] 28) := ⟨_, rfl⟩
  have HR0 : Own w0 w.heap.size 28 [.int .i64 0, .slice none 0 0] := by rw [hw0]; exact ⟨_, heap_alloc_new _ _, rfl⟩
  have B00 : Below w.heap.size w w0 := by rw [hw0]; exact (Below.refl _ _).alloc (Nat.le_refl _) _
  have hrow0 := hrow.below B00 hb
  have hrow0' := hrow'.below B00 hb'
  have hb0 : b < w0.heap.size := Nat.lt_of_lt_of_le hb B00.size
  have hb0' : b' < w0.heap.size := Nat.lt_of_lt_of_le hb' B00.size
  have HPF := hide (fun w' (r : Row w' b off v) hb' => partsOf_any v b off cap w' hv r hb' hcap)
  have HPF' := hide (partsOf_any u b' off' cap' w0 hu hrow0' hb0' hcap')
  have HRW := hide (fun w' (B : Below w0.heap.size w0 w') => hrow0.below B hb0)
  have hall := subs_all hv hok
  have hall' := subs_all hu hok'
  have HNE := hide hall.2.2.2
  have HAM : Hid (∀ (s5 : Value) (wr : World) (k kb b2 c2 : Nat), SS wr w0.heap.size s5 (subs u 0) → k < (subs v 0).length → Row wr b2 0 ((subs v 0).getD k []) → b2 < wr.heap.size → ((subs v 0).getD k []).length ≤ c2 → kb < wr.heap.size → wr.cell? ⟨kb, 0, none⟩ = some (.slice (some ⟨b2, 0, none⟩) ((subs v 0).getD k []).length c2) → Calls Tryz.prog 89 #[s5, .func (.func 88) #[] #[.pointer (some ⟨kb, 0, none⟩)]] wr fun e w' => e = .returned (.bool (among (subs u 0) ((subs v 0).getD k []))) ∧ Below wr.heap.size wr w') := fun s5 wr k kb b2 c2 h1 h2 h3 h4 h5 h6 h7 =>
    (containsSame_any s5 (subs u 0) wr.heap.size kb _ b2 0 c2 wr (h1.seen hall'.2.2.2) hall'.1 hall'.2.1 hall'.2.2.1 (hall.2.1 k h2) h3 h4 h5 (hall.2.2.1 k h2) h6 h7).mono (by
      rintro e w1 ⟨⟨q, rfl, hq⟩, hb1⟩
      refine ⟨ret_bool ?_, hb1⟩
      rw [Bool.eq_iff_iff, hq, among_iff (hall.2.1 k h2) (hall.2.2.1 k h2) hall'.2.1 hall'.2.2.1])
  have HLF := hide (left_facts (subs u 0) hv hok (subs v 0).length)
  have HLV := hide (left_valid (subs u 0) hv hok)
  have h200 := hall.1
  obtain ⟨i0, hi, hz0, hz1, hz2⟩ := info_parts Tryz.info24
  clear hall hall' hv hu hok hok' hrow hrow' hrow0 hrow0' hn hn'
  go_enter Tryz.func63, Tryz.ntmps63
  go_wp2_with fail
  rw [← hw0]
  clear hw0
  refine (unhide HPF').mono ?_
  rintro e1 w1 ⟨s5, rfl, hs5, hb1⟩
  have B1 : Below w0.heap.size w0 w1 := hb1
  clear hb1 HPF'
  go_wp2_with fail
  refine ((unhide HPF) _ ((unhide HRW) _ B1) (Nat.lt_of_lt_of_le hb0 B1.size)).mono ?_
  rintro e2 w2 ⟨s6, rfl, hs6, hb2⟩
  have B2 : Below w0.heap.size w0 w2 := B1.trans (hb2.mono B1.size)
  have H5 := hs5.ss.below hb2
  have H6 := hs6.ss.mono B1.size
  clear hb2 hs5 hs6 HPF HRW
  have L0 : Lf w0 w2 w0.heap.size s5 s6 (.slice none 0 0) (subs v 0) (subs u 0) 0 :=
    ⟨H5, H6, by rw [left_zero]; exact SS.nil _ _, fun g hg e => by simp [Value.ownBlock] at e, fun g hg e => by simp [Value.ownBlock] at e, B2, B2.size⟩
  obtain ⟨pa, pc, hsh, hpc, _⟩ := H6.lv (unhide HNE)
  subst hsh
  have HL0 := hide L0
  clear L0 H5 H6 B1 B2
  obtain ⟨m, hm⟩ : ∃ m, m = (subs v 0).length := ⟨_, rfl⟩
  have HM := hide hm
  have fin : Hid (((0 : Int), arrV (leftOf (subs v 0) (subs u 0) (subs v 0).length)) = (0, arrV (leftOf (subs v 0) (subs u 0) m))) := by rw [hm]; exact rfl
  rw [← hm] at hpc h200 HL0 HLF HLV ⊢
  clear hm
  go_wp2_with fail
  go_loopg [6, 15] m (fun gh s7 s8 wr => ∃ k : Nat, Hid (gh = m - k) ∧ s8 = .int .i64 k ∧ k ≤ m ∧ Hid (Lf w0 wr w0.heap.size s5 (.slice pa m pc) s7 (subs v 0) (subs u 0) k))
  case atStart => exact ⟨0, rfl, rfl, by omega, unhide HL0⟩
  case round =>
    clear HL0
    obtain ⟨k, hg, rfl, hk, hL⟩ := hrel
    by_cases hlt : k < m
    · have hlt2 : k < (subs v 0).length := by rw [← unhide HM]; exact hlt
      obtain ⟨g2, cap2, sv, heq2, hcap2, f2, hr2⟩ := (hL.out).asked.at hlt2
      rw [← unhide HM] at heq2 hcap2
      cases heq2
      obtain ⟨b2, c2, hsv, hc2, hb2, hrw2⟩ := hr2.rowed ((unhide HNE) k hlt2)
      subst hsv
      have hg2 : g2 < wr.heap.size := by
        obtain ⟨x6, hx6⟩ := (hL.out).asked.ownsRow
        exact (row_blt hx6 g2 rfl).2
      have HC : Hid (∀ w5, Below wr.heap.size wr w5 → wr.heap.size < w5.heap.size → w5.cell? ⟨wr.heap.size, 0, none⟩ = some (.slice (some ⟨b2, 0, none⟩) ((subs v 0).getD k []).length c2) → Calls Tryz.prog 89 #[s5, .func (.func 88) #[] #[.pointer (some ⟨wr.heap.size, 0, none⟩)]] w5 fun e w' => e = .returned (.bool (among (subs u 0) ((subs v 0).getD k []))) ∧ Below w5.heap.size w5 w') := fun w5 h5 h6 h7 =>
        (unhide HAM) s5 w5 k wr.heap.size b2 c2 ((hL.out).gone.below h5) hlt2 (hrw2.below h5 hb2) (Nat.lt_of_lt_of_le hb2 h5.size) hc2 h6 h7
      have HGO : Hid (∀ w7, Below wr.heap.size wr w7 → among (subs u 0) ((subs v 0).getD k []) = true → Lf w0 w7 w0.heap.size s5 (.slice (some ⟨g2, 0, none⟩) m pc) u6 (subs v 0) (subs u 0) (k + 1)) := fun w7 h7 ha => ((hL.out).below h7).go hlt2 ha
      have HPUT : Hid (∀ w7, Below wr.heap.size wr w7 → among (subs u 0) ((subs v 0).getD k []) = false → _) := fun w7 h7 ha => ((hL.out).below h7).put hlt2 ha (hr2.below h7)
      have hsz := (hL.out).low
      have hle := left_length (subs v 0) (subs u 0) k
      clear hL hr2 hrw2 hlt2
      generalize hq : among (subs u 0) ((subs v 0).getD k []) = q at HC HGO HPUT
      generalize hN : (leftOf (subs v 0) (subs u 0) k).length = N at HPUT hle
      clear hq hN
      generalize ((subs v 0).getD k []).length = x2 at f2 HC HPUT hc2
      obtain ⟨w5, hw5⟩ : ∃ w5, w5 = wr.alloc (.cells #[.slice (some ⟨b2, 0, none⟩) x2 c2] 24) := ⟨_, rfl⟩
      have O4 : Own (wr.alloc (.cells #[.slice (some ⟨b2, 0, none⟩) x2 c2] 24)) wr.heap.size 24 [.slice (some ⟨b2, 0, none⟩) x2 c2] := ⟨_, heap_alloc_new _ _, rfl⟩
      have B5 : Below wr.heap.size wr w5 := by rw [hw5]; exact (Below.refl _ _).alloc (Nat.le_refl _) _
      have s5' : wr.heap.size < w5.heap.size := by rw [hw5]; simp
      have c5 : w5.cell? ⟨wr.heap.size, 0, none⟩ = some (.slice (some ⟨b2, 0, none⟩) x2 c2) := by rw [hw5]; exact O4.cell 0
      go_wp2_with fail
      rw [← hw5]
      clear hw5 O4
      refine ((unhide HC) w5 B5 s5' c5).mono ?_
      rintro e7 w7 ⟨rfl, hb7⟩
      have B7 : Below wr.heap.size wr w7 := B5.trans (hb7.mono B5.size)
      cases q with
      | true =>
        have hn2 := hide ((unhide HGO) w7 B7 rfl)
        clear HGO HPUT HC hb7 f2 c5
        go_wp2_with fail
        go_roundg (m - (k + 1))
        case rel => exact ⟨k + 1, rfl, by go_num, by omega, unhide hn2⟩
        case measure => have := hg.out; omega
      | false =>
        have f7 := (hb7.cell s5').trans c5
        obtain ⟨ss, hown, hput⟩ := (unhide HPUT) w7 B7 rfl
        have hown' := hide (fun o => hown.alloc o)
        have HP := hide hput
        have hone := hide (one_val w7 (.slice (some ⟨b2, 0, none⟩) x2 c2) 24)
        have honep := hide (one_plain' (some ⟨b2, 0, none⟩) x2 c2)
        have hk63 : N + 1 ≤ maxLen := by unfold maxLen; omega
        have hby : (N + 1) * 24 ≤ 140737488355328 := by omega
        have hs7 : w0.heap.size ≤ w7.heap.size := Nat.le_trans hsz B7.size
        clear HGO HPUT HC hb7 f2 c5 hown hput
        go_wp2_with (at_builtin; refine wpList_append_own_at _ rfl (.tmp 24) (.tmp 26) 44 rfl w0.heap.size 24 i0 (.slice none 0 0) 1 24 Tryz.underlying44 hi hz0 hz1 hz2 rfl (by decide) _ N ss rfl ((unhide hown') _) ⟨w7.heap.size, 0, none⟩ 1 1 [.slice (some ⟨b2, 0, none⟩) x2 c2] rfl rfl (unhide hone) (unhide honep) hk63 hby (by simp; omega) ?_)
        intro v8 w8 ho8 hg8 _ hat8
        have R := hide ((unhide HP) _ v8 w8 ho8 hg8 (by simpa using hat8))
        clear ho8 hg8 hat8 HP hown' f7 hone honep
        go_wp2_with fail
        go_roundg (m - (k + 1))
        case rel => exact ⟨k + 1, rfl, by go_num, by omega, unhide R⟩
        case measure => have := hg.out; omega
    · have hke : k = m := by omega
      subst hke
      have BR : Below w.heap.size w wr := B00.trans ((hL.out).bel.mono B00.size)
      have hRr := HR0.below (hL.out).bel HR0.lt
      have hwr : w.heap.size < wr.heap.size := hRr.lt
      obtain ⟨la, lc, hla, hlc, hlv⟩ := (hL.out).left.lv (valid_ne (unhide HLF).2.1)
      subst hla
      have HF1 := hide (show (leftOf (subs v 0) (subs u 0) k).length ≤ 4096 by have := (unhide HLF).1; omega)
      have HF2 := hide (unhide HLF).2.1
      have HOM := hide (show arrV (leftOf (subs v 0) (subs u 0) k) ≠ [] ∧ (arrV (leftOf (subs v 0) (subs u 0) k)).length ≤ 1048576 ∧ ∀ c ∈ arrV (leftOf (subs v 0) (subs u 0) k), c.ok from ⟨arrV_ne _, arrV_le (unhide HF1) (unhide HF2), arrK_ok _ (unhide HF1) (unhide HLF).2.2 _ (Nat.le_refl _)⟩)
      have HTO := hide (told_ok (unhide HLV))
      clear hL HLF HLV
      generalize leftOf (subs v 0) (subs u 0) k = SP at *
      go_wp2_with fail
      refine (layArrayV_any la lc SP _ hlv hlc (unhide HF1) (unhide HF2)).mono ?_
      rintro e6 w6 ⟨s6, rfl, hr6, hb6⟩
      have hR6 := hRr.below hb6 hRr.lt
      have B6 : Below w.heap.size w w6 := BR.trans (hb6.mono BR.size)
      have HT := hide (implTold_any s6 _ _ w6 hr6 hb6.size (unhide HOM).1 (unhide HOM).2.1 (unhide HOM).2.2)
      rw [unhide HTO] at HT
      obtain ⟨at6, mt6, ct6, rfl⟩ := hr6.shape
      clear hr6 hb6 hlv
      go_wp2_with fail
      refine (unhide HT).mono ?_
      rintro e7 w7 ⟨s7, rfl, hr7, hb7⟩
      have hR7 := hR6.below hb7 hR6.lt
      have r0 := hR7.cell 0
      have r1 := hR7.cell 1
      have z0 := hR7.frozen 0
      have z1 := hR7.frozen 1
      simp only [List.getElem?_cons_zero, List.getElem?_cons_succ] at r0 r1
      have HE := hide (Ans.storeC hr7 hwr (B6.trans (hb7.mono B6.size)))
      obtain ⟨ac, mc, cc, rfl⟩ := hr7.shape
      clear hr7 hb7 HT
      go_wp2_with fail
      refine bodyPost_ret (v := .agg #[.int .i64 0, .slice ac mc cc]) (by simp [results, Tryz.results63, go_sem, r0, r1]) rfl (ans_of (unhide fin) ((unhide HE) _ _).1 ((unhide HE) _ _).2)

set_option maxRecDepth 100000 in
set_option maxHeartbeats 4000000 in
theorem subImpl_arr (v : List M.Cl) (b off cap : Nat) (u : List M.Cl) (b' off' cap' : Nat) (w : World) (hv : M.valueFault v = 0) (hu : M.valueFault u = 0) (hrow : Row w b off v) (hb : b < w.heap.size) (hn : v.length ≤ 1048576) (hcap : v.length ≤ cap) (hok : ∀ c ∈ v, c.ok) (hrow' : Row w b' off' u) (hb' : b' < w.heap.size) (hn' : u.length ≤ 1048576) (hcap' : u.length ≤ cap') (hok' : ∀ c ∈ u, c.ok) (k5 : (v.getD 0 M.zero).kind = 5) (k5' : (u.getD 0 M.zero).kind = 5) :
    Calls Tryz.prog 37 #[.slice (some ⟨b, off, none⟩) v.length cap, .slice (some ⟨b', off', none⟩) u.length cap'] w (Ans w (subIn v u)) := by
  have fin := hide ((sub_5 k5 k5').trans (by rw [← left_whole]))
  have hl1 := (M.fault_zero hv).1
  have hl1' := (M.fault_zero hu).1
  obtain ⟨w0, hw0⟩ : ∃ w0, w0 = w.alloc (.cells #[.int .i64 0, .slice none 0 0] 28) := ⟨_, rfl⟩
  have HR0 : Own w0 w.heap.size 28 [.int .i64 0, .slice none 0 0] := by rw [hw0]; exact ⟨_, heap_alloc_new _ _, rfl⟩
  have B00 : Below w.heap.size w w0 := by rw [hw0]; exact (Below.refl _ _).alloc (Nat.le_refl _) _
  obtain ⟨f0, _, _, _, _⟩ := (hrow.below B00 hb) 0 (by omega)
  obtain ⟨g0, _, _, _, _⟩ := (hrow'.below B00 hb') 0 (by omega)
  simp only [Nat.zero_mul, Nat.add_zero] at f0 g0
  have HW := hide (withoutElements_any v b off cap u b' off' cap' w0 hv hu (hrow.below B00 hb) (Nat.lt_of_lt_of_le hb B00.size) hn hcap hok (hrow'.below B00 hb') (Nat.lt_of_lt_of_le hb' B00.size) hn' hcap' hok')
  have HA := hide (areBoth_no 3 _ _ b off v.length cap b' off' u.length cap' w0 (by omega) (by omega) f0 g0 (by omega))
  rw [k5] at f0
  rw [k5'] at g0
  have HB := hide (areBoth_yes 5 b off v.length cap b' off' u.length cap' w0 (by omega) (by omega) f0 g0)
  clear hv hu hok hok' hrow hrow' hcap hcap' hn hn' f0 g0 k5 k5'
  generalize arrV (leftOf (subs v 0) (subs u 0) (subs v 0).length) = rl at *
  go_enter Tryz.func37, Tryz.ntmps37
  go_wp2_with fail
  rw [← hw0]
  clear hw0
  refine (unhide HA).mono ?_
  rintro e1 w1 ⟨rfl, hw1⟩
  have hw2 := hw1.symm
  clear hw1
  subst hw2
  go_wp2_with fail
  refine (unhide HB).mono ?_
  rintro e2 w2 ⟨rfl, hw3⟩
  have hw4 := hw3.symm
  clear hw3
  subst hw4
  go_wp2_with fail
  refine (unhide HW).mono ?_
  rintro ec wc ⟨sc, rfl, hrc, hbc⟩
  have hRc := HR0.below hbc HR0.lt
  have r0 := hRc.cell 0
  have r1 := hRc.cell 1
  have z0 := hRc.frozen 0
  have z1 := hRc.frozen 1
  simp only [List.getElem?_cons_zero, List.getElem?_cons_succ] at r0 r1
  have HE := hide (Ans.store hrc B00 HR0.lt hbc)
  obtain ⟨ac, mc, cc, rfl⟩ := hrc.shape
  clear hrc hbc
  go_wp2_with fail
  refine bodyPost_ret (v := .agg #[.int .i64 0, .slice ac mc cc]) (by simp [results, Tryz.results37, go_sem, r0, r1]) rfl (ans_of (unhide fin) ((unhide HE) _ _).1 ((unhide HE) _ _).2)

theorem differenceOf_any (v : List M.Cl) (b off cap : Nat) (u : List M.Cl) (b' off' cap' : Nat) (w : World) (hv : M.valueFault v = 0) (hu : M.valueFault u = 0) (hrow : Row w b off v) (hb : b < w.heap.size) (hn : v.length ≤ 1048576) (hcap : v.length ≤ cap) (hok : ∀ c ∈ v, c.ok) (hrow' : Row w b' off' u) (hb' : b' < w.heap.size) (hn' : u.length ≤ 1048576) (hcap' : u.length ≤ cap') (hok' : ∀ c ∈ u, c.ok) :
    Calls Tryz.prog 37 #[.slice (some ⟨b, off, none⟩) v.length cap, .slice (some ⟨b', off', none⟩) u.length cap'] w (Ans w (subIn v u)) := by
  by_cases h3 : (v.getD 0 M.zero).kind = 3 ∧ (u.getD 0 M.zero).kind = 3
  · exact subImpl_num v b off cap u b' off' cap' w hv hu hrow hb hn hcap hok hrow' hb' hn' hcap' hok' h3.1 h3.2
  by_cases h5 : (v.getD 0 M.zero).kind = 5 ∧ (u.getD 0 M.zero).kind = 5
  · exact subImpl_arr v b off cap u b' off' cap' w hv hu hrow hb hn hcap hok hrow' hb' hn' hcap' hok' h5.1 h5.2
  · exact subImpl_no v b off cap u b' off' cap' w hv hu hrow hb hn hcap hok hrow' hb' hn' hcap' hok' h3 h5

end Go.Proofs.YtemehbjlfiebdaaGreat

namespace Go.Proofs.YtemehbjlfiebdaaGreat
open Go.RowKit
set_option linter.unusedVariables false

set_option linter.unusedSimpArgs false
/-- What an operation tells of an order. -/
def ordIs (op c : Int) : Bool := if op = 4 then c == 0 else if op = 5 then c != 0 else if op = 6 then decide (c < 0) else if op = 7 then decide (c ≤ 0) else if op = 8 then decide (c > 0) else decide (c ≥ 0)
def binIn (op : Int) (v u : List M.Cl) : Int × List M.Cl :=
  if op = 1 then addIn v u else if op = 2 then subIn v u else if op = 3 ∨ op = 10 ∨ op = 11 then timesIn op v u else (0, [boolCl (ordIs op (cmpL v.length v u))])
def binOut (op : Int) (v u : List M.Cl) : Int × List M.Cl := if bothOut v u ≠ 0 then (bothOut v u, []) else if 1 ≤ op ∧ op ≤ 11 then binIn op v u else (1, [])
theorem bin_bad {op : Int} {v u : List M.Cl} (h : bothOut v u ≠ 0) : binOut op v u = (bothOut v u, []) := if_pos h
theorem bin_ok {op : Int} {v u : List M.Cl} (h : bothOut v u = 0) (ho : 1 ≤ op ∧ op ≤ 11) : binOut op v u = binIn op v u := by unfold binOut; rw [if_neg (by simp [h]), if_pos ho]
theorem bin_form {op : Int} {v u : List M.Cl} (h : bothOut v u = 0) (ho : ¬ (1 ≤ op ∧ op ≤ 11)) : binOut op v u = (1, []) := by unfold binOut; rw [if_neg (by simp [h]), if_neg ho]
theorem bin_1 {v u : List M.Cl} : binIn 1 v u = addIn v u := if_pos rfl
theorem bin_2 {v u : List M.Cl} : binIn 2 v u = subIn v u := by unfold binIn; rw [if_neg (by decide), if_pos rfl]
theorem bin_t {op : Int} {v u : List M.Cl} (h : op = 3 ∨ op = 10 ∨ op = 11) : binIn op v u = timesIn op v u := by unfold binIn; rw [if_neg (by omega), if_neg (by omega), if_pos h]
theorem bin_o {op : Int} {v u : List M.Cl} (h : 4 ≤ op ∧ op ≤ 9) : binIn op v u = (0, [boolCl (ordIs op (cmpL v.length v u))]) := by unfold binIn; rw [if_neg (by omega), if_neg (by omega), if_neg (by omega)]

set_option maxRecDepth 100000 in
set_option maxHeartbeats 2000000 in
theorem binSpec_4 (v : List M.Cl) (b off cap : Nat) (u : List M.Cl) (b' off' cap' : Nat) (w : World) (hv : M.valueFault v = 0) (hu : M.valueFault u = 0) (hrow : Row w b off v) (hb : b < w.heap.size) (hn : v.length ≤ 1048576) (hcap : v.length ≤ cap) (hok : ∀ c ∈ v, c.ok) (hrow' : Row w b' off' u) (hb' : b' < w.heap.size) (hn' : u.length ≤ 1048576) (hcap' : u.length ≤ cap') (hok' : ∀ c ∈ u, c.ok) :
    Calls Tryz.prog 25 #[.int .i64 4, .slice (some ⟨b, off, none⟩) v.length cap, .slice (some ⟨b', off', none⟩) u.length cap'] w (Ans w (binIn 4 v u)) := by
  have fin := hide (bin_o (op := 4) (v := v) (u := u) (by decide))
  obtain ⟨w0, hw0⟩ : ∃ w0, w0 = w.alloc (.cells #[.int .i64 0, .slice none 0 0] 28) := ⟨_, rfl⟩
  have HR0 : Own w0 w.heap.size 28 [.int .i64 0, .slice none 0 0] := by rw [hw0]; exact ⟨_, heap_alloc_new _ _, rfl⟩
  have B00 : Below w.heap.size w w0 := by rw [hw0]; exact (Below.refl _ _).alloc (Nat.le_refl _) _
  have hrow0 := hrow.below B00 hb
  have hrow0' := hrow'.below B00 hb'
  have hb0 : b < w0.heap.size := Nat.lt_of_lt_of_le hb B00.size
  have hb0' : b' < w0.heap.size := Nat.lt_of_lt_of_le hb' B00.size
  have HC := hide (l1Compare_any v.length v u b off cap b' off' cap' w0 hv hu (Nat.le_refl _) hrow0 hb0 hcap hok hrow0' hb0' hcap' hok')
  clear hv hu hok hok' hrow0 hrow0' hrow hrow' hcap hcap' hn hn' hb0 hb0'
  generalize cmpL v.length v u = c at *
  have fin2 := hide ((unhide fin).trans (show ((0 : Int), [boolCl (ordIs 4 c)]) = (0, [boolCl (c == 0)]) from rfl))
  clear fin
  go_enter Tryz.func25, Tryz.ntmps25
  go_wp2_with fail
  rw [← hw0]
  clear hw0
  refine (unhide HC).mono ?_
  rintro e1 w1 ⟨rfl, hb1⟩
  have hR1 := HR0.below hb1 HR0.lt
  have B1 : Below w.heap.size w w1 := B00.trans (hb1.mono B00.size)
  clear hb1
  go_wp2_with fail
  refine (l3Bool_any _ _).mono ?_
  rintro ec wc ⟨sc, rfl, hrc, hbc⟩
  have hRc := hR1.below hbc hR1.lt
  have r0 := hRc.cell 0
  have r1 := hRc.cell 1
  have z0 := hRc.frozen 0
  have z1 := hRc.frozen 1
  simp only [List.getElem?_cons_zero, List.getElem?_cons_succ] at r0 r1
  have HE := hide (Ans.store hrc B1 hR1.lt hbc)
  obtain ⟨ac, mc, cc, rfl⟩ := hrc.shape
  clear hrc hbc
  go_wp2_with fail
  refine bodyPost_ret (v := .agg #[.int .i64 0, .slice ac mc cc]) (by simp [results, Tryz.results25, go_sem, r0, r1]) rfl (ans_of (unhide fin2) ((unhide HE) _ _).1 ((unhide HE) _ _).2)

set_option maxRecDepth 100000 in
set_option maxHeartbeats 2000000 in
theorem binSpec_5 (v : List M.Cl) (b off cap : Nat) (u : List M.Cl) (b' off' cap' : Nat) (w : World) (hv : M.valueFault v = 0) (hu : M.valueFault u = 0) (hrow : Row w b off v) (hb : b < w.heap.size) (hn : v.length ≤ 1048576) (hcap : v.length ≤ cap) (hok : ∀ c ∈ v, c.ok) (hrow' : Row w b' off' u) (hb' : b' < w.heap.size) (hn' : u.length ≤ 1048576) (hcap' : u.length ≤ cap') (hok' : ∀ c ∈ u, c.ok) :
    Calls Tryz.prog 25 #[.int .i64 5, .slice (some ⟨b, off, none⟩) v.length cap, .slice (some ⟨b', off', none⟩) u.length cap'] w (Ans w (binIn 5 v u)) := by
  have fin := hide (bin_o (op := 5) (v := v) (u := u) (by decide))
  obtain ⟨w0, hw0⟩ : ∃ w0, w0 = w.alloc (.cells #[.int .i64 0, .slice none 0 0] 28) := ⟨_, rfl⟩
  have HR0 : Own w0 w.heap.size 28 [.int .i64 0, .slice none 0 0] := by rw [hw0]; exact ⟨_, heap_alloc_new _ _, rfl⟩
  have B00 : Below w.heap.size w w0 := by rw [hw0]; exact (Below.refl _ _).alloc (Nat.le_refl _) _
  have hrow0 := hrow.below B00 hb
  have hrow0' := hrow'.below B00 hb'
  have hb0 : b < w0.heap.size := Nat.lt_of_lt_of_le hb B00.size
  have hb0' : b' < w0.heap.size := Nat.lt_of_lt_of_le hb' B00.size
  have HC := hide (l1Compare_any v.length v u b off cap b' off' cap' w0 hv hu (Nat.le_refl _) hrow0 hb0 hcap hok hrow0' hb0' hcap' hok')
  clear hv hu hok hok' hrow0 hrow0' hrow hrow' hcap hcap' hn hn' hb0 hb0'
  generalize cmpL v.length v u = c at *
  have fin2 := hide ((unhide fin).trans (show ((0 : Int), [boolCl (ordIs 5 c)]) = (0, [boolCl (c != 0)]) from rfl))
  clear fin
  go_enter Tryz.func25, Tryz.ntmps25
  go_wp2_with fail
  rw [← hw0]
  clear hw0
  refine (unhide HC).mono ?_
  rintro e1 w1 ⟨rfl, hb1⟩
  have hR1 := HR0.below hb1 HR0.lt
  have B1 : Below w.heap.size w w1 := B00.trans (hb1.mono B00.size)
  clear hb1
  go_wp2_with fail
  refine (l3Bool_any _ _).mono ?_
  rintro ec wc ⟨sc, rfl, hrc, hbc⟩
  have hRc := hR1.below hbc hR1.lt
  have r0 := hRc.cell 0
  have r1 := hRc.cell 1
  have z0 := hRc.frozen 0
  have z1 := hRc.frozen 1
  simp only [List.getElem?_cons_zero, List.getElem?_cons_succ] at r0 r1
  have HE := hide (Ans.store hrc B1 hR1.lt hbc)
  obtain ⟨ac, mc, cc, rfl⟩ := hrc.shape
  clear hrc hbc
  go_wp2_with fail
  refine bodyPost_ret (v := .agg #[.int .i64 0, .slice ac mc cc]) (by simp [results, Tryz.results25, go_sem, r0, r1]) rfl (ans_of (unhide fin2) ((unhide HE) _ _).1 ((unhide HE) _ _).2)

set_option maxRecDepth 100000 in
set_option maxHeartbeats 2000000 in
theorem binSpec_6 (v : List M.Cl) (b off cap : Nat) (u : List M.Cl) (b' off' cap' : Nat) (w : World) (hv : M.valueFault v = 0) (hu : M.valueFault u = 0) (hrow : Row w b off v) (hb : b < w.heap.size) (hn : v.length ≤ 1048576) (hcap : v.length ≤ cap) (hok : ∀ c ∈ v, c.ok) (hrow' : Row w b' off' u) (hb' : b' < w.heap.size) (hn' : u.length ≤ 1048576) (hcap' : u.length ≤ cap') (hok' : ∀ c ∈ u, c.ok) :
    Calls Tryz.prog 25 #[.int .i64 6, .slice (some ⟨b, off, none⟩) v.length cap, .slice (some ⟨b', off', none⟩) u.length cap'] w (Ans w (binIn 6 v u)) := by
  have fin := hide (bin_o (op := 6) (v := v) (u := u) (by decide))
  obtain ⟨w0, hw0⟩ : ∃ w0, w0 = w.alloc (.cells #[.int .i64 0, .slice none 0 0] 28) := ⟨_, rfl⟩
  have HR0 : Own w0 w.heap.size 28 [.int .i64 0, .slice none 0 0] := by rw [hw0]; exact ⟨_, heap_alloc_new _ _, rfl⟩
  have B00 : Below w.heap.size w w0 := by rw [hw0]; exact (Below.refl _ _).alloc (Nat.le_refl _) _
  have hrow0 := hrow.below B00 hb
  have hrow0' := hrow'.below B00 hb'
  have hb0 : b < w0.heap.size := Nat.lt_of_lt_of_le hb B00.size
  have hb0' : b' < w0.heap.size := Nat.lt_of_lt_of_le hb' B00.size
  have HC := hide (l1Compare_any v.length v u b off cap b' off' cap' w0 hv hu (Nat.le_refl _) hrow0 hb0 hcap hok hrow0' hb0' hcap' hok')
  clear hv hu hok hok' hrow0 hrow0' hrow hrow' hcap hcap' hn hn' hb0 hb0'
  generalize cmpL v.length v u = c at *
  have fin2 := hide ((unhide fin).trans (show ((0 : Int), [boolCl (ordIs 6 c)]) = (0, [boolCl (decide (c < 0))]) from rfl))
  clear fin
  go_enter Tryz.func25, Tryz.ntmps25
  go_wp2_with fail
  rw [← hw0]
  clear hw0
  refine (unhide HC).mono ?_
  rintro e1 w1 ⟨rfl, hb1⟩
  have hR1 := HR0.below hb1 HR0.lt
  have B1 : Below w.heap.size w w1 := B00.trans (hb1.mono B00.size)
  clear hb1
  go_wp2_with fail
  refine (l3Bool_any _ _).mono ?_
  rintro ec wc ⟨sc, rfl, hrc, hbc⟩
  have hRc := hR1.below hbc hR1.lt
  have r0 := hRc.cell 0
  have r1 := hRc.cell 1
  have z0 := hRc.frozen 0
  have z1 := hRc.frozen 1
  simp only [List.getElem?_cons_zero, List.getElem?_cons_succ] at r0 r1
  have HE := hide (Ans.store hrc B1 hR1.lt hbc)
  obtain ⟨ac, mc, cc, rfl⟩ := hrc.shape
  clear hrc hbc
  go_wp2_with fail
  refine bodyPost_ret (v := .agg #[.int .i64 0, .slice ac mc cc]) (by simp [results, Tryz.results25, go_sem, r0, r1]) rfl (ans_of (unhide fin2) ((unhide HE) _ _).1 ((unhide HE) _ _).2)

set_option maxRecDepth 100000 in
set_option maxHeartbeats 2000000 in
theorem binSpec_7 (v : List M.Cl) (b off cap : Nat) (u : List M.Cl) (b' off' cap' : Nat) (w : World) (hv : M.valueFault v = 0) (hu : M.valueFault u = 0) (hrow : Row w b off v) (hb : b < w.heap.size) (hn : v.length ≤ 1048576) (hcap : v.length ≤ cap) (hok : ∀ c ∈ v, c.ok) (hrow' : Row w b' off' u) (hb' : b' < w.heap.size) (hn' : u.length ≤ 1048576) (hcap' : u.length ≤ cap') (hok' : ∀ c ∈ u, c.ok) :
    Calls Tryz.prog 25 #[.int .i64 7, .slice (some ⟨b, off, none⟩) v.length cap, .slice (some ⟨b', off', none⟩) u.length cap'] w (Ans w (binIn 7 v u)) := by
  have fin := hide (bin_o (op := 7) (v := v) (u := u) (by decide))
  obtain ⟨w0, hw0⟩ : ∃ w0, w0 = w.alloc (.cells #[.int .i64 0, .slice none 0 0] 28) := ⟨_, rfl⟩
  have HR0 : Own w0 w.heap.size 28 [.int .i64 0, .slice none 0 0] := by rw [hw0]; exact ⟨_, heap_alloc_new _ _, rfl⟩
  have B00 : Below w.heap.size w w0 := by rw [hw0]; exact (Below.refl _ _).alloc (Nat.le_refl _) _
  have hrow0 := hrow.below B00 hb
  have hrow0' := hrow'.below B00 hb'
  have hb0 : b < w0.heap.size := Nat.lt_of_lt_of_le hb B00.size
  have hb0' : b' < w0.heap.size := Nat.lt_of_lt_of_le hb' B00.size
  have HC := hide (l1Compare_any v.length v u b off cap b' off' cap' w0 hv hu (Nat.le_refl _) hrow0 hb0 hcap hok hrow0' hb0' hcap' hok')
  clear hv hu hok hok' hrow0 hrow0' hrow hrow' hcap hcap' hn hn' hb0 hb0'
  generalize cmpL v.length v u = c at *
  have fin2 := hide ((unhide fin).trans (show ((0 : Int), [boolCl (ordIs 7 c)]) = (0, [boolCl (decide (c ≤ 0))]) from rfl))
  clear fin
  go_enter Tryz.func25, Tryz.ntmps25
  go_wp2_with fail
  rw [← hw0]
  clear hw0
  refine (unhide HC).mono ?_
  rintro e1 w1 ⟨rfl, hb1⟩
  have hR1 := HR0.below hb1 HR0.lt
  have B1 : Below w.heap.size w w1 := B00.trans (hb1.mono B00.size)
  clear hb1
  go_wp2_with fail
  refine (l3Bool_any _ _).mono ?_
  rintro ec wc ⟨sc, rfl, hrc, hbc⟩
  have hRc := hR1.below hbc hR1.lt
  have r0 := hRc.cell 0
  have r1 := hRc.cell 1
  have z0 := hRc.frozen 0
  have z1 := hRc.frozen 1
  simp only [List.getElem?_cons_zero, List.getElem?_cons_succ] at r0 r1
  have HE := hide (Ans.store hrc B1 hR1.lt hbc)
  obtain ⟨ac, mc, cc, rfl⟩ := hrc.shape
  clear hrc hbc
  go_wp2_with fail
  refine bodyPost_ret (v := .agg #[.int .i64 0, .slice ac mc cc]) (by simp [results, Tryz.results25, go_sem, r0, r1]) rfl (ans_of (unhide fin2) ((unhide HE) _ _).1 ((unhide HE) _ _).2)

set_option maxRecDepth 100000 in
set_option maxHeartbeats 2000000 in
theorem binSpec_8 (v : List M.Cl) (b off cap : Nat) (u : List M.Cl) (b' off' cap' : Nat) (w : World) (hv : M.valueFault v = 0) (hu : M.valueFault u = 0) (hrow : Row w b off v) (hb : b < w.heap.size) (hn : v.length ≤ 1048576) (hcap : v.length ≤ cap) (hok : ∀ c ∈ v, c.ok) (hrow' : Row w b' off' u) (hb' : b' < w.heap.size) (hn' : u.length ≤ 1048576) (hcap' : u.length ≤ cap') (hok' : ∀ c ∈ u, c.ok) :
    Calls Tryz.prog 25 #[.int .i64 8, .slice (some ⟨b, off, none⟩) v.length cap, .slice (some ⟨b', off', none⟩) u.length cap'] w (Ans w (binIn 8 v u)) := by
  have fin := hide (bin_o (op := 8) (v := v) (u := u) (by decide))
  obtain ⟨w0, hw0⟩ : ∃ w0, w0 = w.alloc (.cells #[.int .i64 0, .slice none 0 0] 28) := ⟨_, rfl⟩
  have HR0 : Own w0 w.heap.size 28 [.int .i64 0, .slice none 0 0] := by rw [hw0]; exact ⟨_, heap_alloc_new _ _, rfl⟩
  have B00 : Below w.heap.size w w0 := by rw [hw0]; exact (Below.refl _ _).alloc (Nat.le_refl _) _
  have hrow0 := hrow.below B00 hb
  have hrow0' := hrow'.below B00 hb'
  have hb0 : b < w0.heap.size := Nat.lt_of_lt_of_le hb B00.size
  have hb0' : b' < w0.heap.size := Nat.lt_of_lt_of_le hb' B00.size
  have HC := hide (l1Compare_any v.length v u b off cap b' off' cap' w0 hv hu (Nat.le_refl _) hrow0 hb0 hcap hok hrow0' hb0' hcap' hok')
  clear hv hu hok hok' hrow0 hrow0' hrow hrow' hcap hcap' hn hn' hb0 hb0'
  generalize cmpL v.length v u = c at *
  have fin2 := hide ((unhide fin).trans (show ((0 : Int), [boolCl (ordIs 8 c)]) = (0, [boolCl (decide (c > 0))]) from rfl))
  clear fin
  go_enter Tryz.func25, Tryz.ntmps25
  go_wp2_with fail
  rw [← hw0]
  clear hw0
  refine (unhide HC).mono ?_
  rintro e1 w1 ⟨rfl, hb1⟩
  have hR1 := HR0.below hb1 HR0.lt
  have B1 : Below w.heap.size w w1 := B00.trans (hb1.mono B00.size)
  clear hb1
  go_wp2_with fail
  refine (l3Bool_any _ _).mono ?_
  rintro ec wc ⟨sc, rfl, hrc, hbc⟩
  have hRc := hR1.below hbc hR1.lt
  have r0 := hRc.cell 0
  have r1 := hRc.cell 1
  have z0 := hRc.frozen 0
  have z1 := hRc.frozen 1
  simp only [List.getElem?_cons_zero, List.getElem?_cons_succ] at r0 r1
  have HE := hide (Ans.store hrc B1 hR1.lt hbc)
  obtain ⟨ac, mc, cc, rfl⟩ := hrc.shape
  clear hrc hbc
  go_wp2_with fail
  refine bodyPost_ret (v := .agg #[.int .i64 0, .slice ac mc cc]) (by simp [results, Tryz.results25, go_sem, r0, r1]) rfl (ans_of (unhide fin2) ((unhide HE) _ _).1 ((unhide HE) _ _).2)

set_option maxRecDepth 100000 in
set_option maxHeartbeats 2000000 in
theorem binSpec_9 (v : List M.Cl) (b off cap : Nat) (u : List M.Cl) (b' off' cap' : Nat) (w : World) (hv : M.valueFault v = 0) (hu : M.valueFault u = 0) (hrow : Row w b off v) (hb : b < w.heap.size) (hn : v.length ≤ 1048576) (hcap : v.length ≤ cap) (hok : ∀ c ∈ v, c.ok) (hrow' : Row w b' off' u) (hb' : b' < w.heap.size) (hn' : u.length ≤ 1048576) (hcap' : u.length ≤ cap') (hok' : ∀ c ∈ u, c.ok) :
    Calls Tryz.prog 25 #[.int .i64 9, .slice (some ⟨b, off, none⟩) v.length cap, .slice (some ⟨b', off', none⟩) u.length cap'] w (Ans w (binIn 9 v u)) := by
  have fin := hide (bin_o (op := 9) (v := v) (u := u) (by decide))
  obtain ⟨w0, hw0⟩ : ∃ w0, w0 = w.alloc (.cells #[.int .i64 0, .slice none 0 0] 28) := ⟨_, rfl⟩
  have HR0 : Own w0 w.heap.size 28 [.int .i64 0, .slice none 0 0] := by rw [hw0]; exact ⟨_, heap_alloc_new _ _, rfl⟩
  have B00 : Below w.heap.size w w0 := by rw [hw0]; exact (Below.refl _ _).alloc (Nat.le_refl _) _
  have hrow0 := hrow.below B00 hb
  have hrow0' := hrow'.below B00 hb'
  have hb0 : b < w0.heap.size := Nat.lt_of_lt_of_le hb B00.size
  have hb0' : b' < w0.heap.size := Nat.lt_of_lt_of_le hb' B00.size
  have HC := hide (l1Compare_any v.length v u b off cap b' off' cap' w0 hv hu (Nat.le_refl _) hrow0 hb0 hcap hok hrow0' hb0' hcap' hok')
  clear hv hu hok hok' hrow0 hrow0' hrow hrow' hcap hcap' hn hn' hb0 hb0'
  generalize cmpL v.length v u = c at *
  have fin2 := hide ((unhide fin).trans (show ((0 : Int), [boolCl (ordIs 9 c)]) = (0, [boolCl (decide (c ≥ 0))]) from rfl))
  clear fin
  go_enter Tryz.func25, Tryz.ntmps25
  go_wp2_with fail
  rw [← hw0]
  clear hw0
  refine (unhide HC).mono ?_
  rintro e1 w1 ⟨rfl, hb1⟩
  have hR1 := HR0.below hb1 HR0.lt
  have B1 : Below w.heap.size w w1 := B00.trans (hb1.mono B00.size)
  clear hb1
  go_wp2_with fail
  refine (l3Bool_any _ _).mono ?_
  rintro ec wc ⟨sc, rfl, hrc, hbc⟩
  have hRc := hR1.below hbc hR1.lt
  have r0 := hRc.cell 0
  have r1 := hRc.cell 1
  have z0 := hRc.frozen 0
  have z1 := hRc.frozen 1
  simp only [List.getElem?_cons_zero, List.getElem?_cons_succ] at r0 r1
  have HE := hide (Ans.store hrc B1 hR1.lt hbc)
  obtain ⟨ac, mc, cc, rfl⟩ := hrc.shape
  clear hrc hbc
  go_wp2_with fail
  refine bodyPost_ret (v := .agg #[.int .i64 0, .slice ac mc cc]) (by simp [results, Tryz.results25, go_sem, r0, r1]) rfl (ans_of (unhide fin2) ((unhide HE) _ _).1 ((unhide HE) _ _).2)

set_option maxRecDepth 100000 in
set_option maxHeartbeats 2000000 in
theorem binSpec_1 (v : List M.Cl) (b off cap : Nat) (u : List M.Cl) (b' off' cap' : Nat) (w : World) (hv : M.valueFault v = 0) (hu : M.valueFault u = 0) (hrow : Row w b off v) (hb : b < w.heap.size) (hn : v.length ≤ 1048576) (hcap : v.length ≤ cap) (hok : ∀ c ∈ v, c.ok) (hrow' : Row w b' off' u) (hb' : b' < w.heap.size) (hn' : u.length ≤ 1048576) (hcap' : u.length ≤ cap') (hok' : ∀ c ∈ u, c.ok) :
    Calls Tryz.prog 25 #[.int .i64 1, .slice (some ⟨b, off, none⟩) v.length cap, .slice (some ⟨b', off', none⟩) u.length cap'] w (Ans w (binIn 1 v u)) := by
  have fin := hide (bin_1 (v := v) (u := u))
  obtain ⟨w0, hw0⟩ : ∃ w0, w0 = w.alloc (.cells #[.int .i64 0, .slice none 0 0] 28) := ⟨_, rfl⟩
  have HR0 : Own w0 w.heap.size 28 [.int .i64 0, .slice none 0 0] := by rw [hw0]; exact ⟨_, heap_alloc_new _ _, rfl⟩
  have B00 : Below w.heap.size w w0 := by rw [hw0]; exact (Below.refl _ _).alloc (Nat.le_refl _) _
  have hrow0 := hrow.below B00 hb
  have hrow0' := hrow'.below B00 hb'
  have hb0 : b < w0.heap.size := Nat.lt_of_lt_of_le hb B00.size
  have hb0' : b' < w0.heap.size := Nat.lt_of_lt_of_le hb' B00.size
  have HC := hide (l1Compare_any v.length v u b off cap b' off' cap' w0 hv hu (Nat.le_refl _) hrow0 hb0 hcap hok hrow0' hb0' hcap' hok')
  have HG := hide (fun w1 (B : Below w.heap.size w w1) => l3Add_any v b off cap u b' off' cap' w1 hv hu (hrow.below B hb) (Nat.lt_of_lt_of_le hb B.size) hn hcap hok (hrow'.below B hb') (Nat.lt_of_lt_of_le hb' B.size) hn' hcap' hok')
  clear hv hu hok hok' hrow0 hrow0' hrow hrow' hcap hcap' hn hn' hb0 hb0'
  generalize cmpL v.length v u = c at *
  generalize addIn v u = R at *
  obtain ⟨rc, rl⟩ := R
  go_enter Tryz.func25, Tryz.ntmps25
  go_wp2_with fail
  rw [← hw0]
  clear hw0
  refine (unhide HC).mono ?_
  rintro e1 w1 ⟨rfl, hb1⟩
  have hR1 := HR0.below hb1 HR0.lt
  have B1 : Below w.heap.size w w1 := B00.trans (hb1.mono B00.size)
  clear hb1
  go_wp2_with fail
  refine ((unhide HG) _ B1).mono ?_
  rintro ec wc ⟨sc, rfl, hrc, hbc⟩
  have hRc := hR1.below hbc hR1.lt
  have r0 := hRc.cell 0
  have r1 := hRc.cell 1
  have z0 := hRc.frozen 0
  have z1 := hRc.frozen 1
  simp only [List.getElem?_cons_zero, List.getElem?_cons_succ] at r0 r1
  have HE := hide (Ans.store hrc B1 hR1.lt hbc)
  obtain ⟨ac, mc, cc, rfl⟩ := hrc.shape
  clear hrc hbc
  go_wp2_with fail
  refine bodyPost_ret (v := .agg #[.int .i64 rc, .slice ac mc cc]) (by simp [results, Tryz.results25, go_sem, r0, r1]) rfl (ans_of (unhide fin) ((unhide HE) _ _).1 ((unhide HE) _ _).2)

set_option maxRecDepth 100000 in
set_option maxHeartbeats 2000000 in
theorem binSpec_2 (v : List M.Cl) (b off cap : Nat) (u : List M.Cl) (b' off' cap' : Nat) (w : World) (hv : M.valueFault v = 0) (hu : M.valueFault u = 0) (hrow : Row w b off v) (hb : b < w.heap.size) (hn : v.length ≤ 1048576) (hcap : v.length ≤ cap) (hok : ∀ c ∈ v, c.ok) (hrow' : Row w b' off' u) (hb' : b' < w.heap.size) (hn' : u.length ≤ 1048576) (hcap' : u.length ≤ cap') (hok' : ∀ c ∈ u, c.ok) :
    Calls Tryz.prog 25 #[.int .i64 2, .slice (some ⟨b, off, none⟩) v.length cap, .slice (some ⟨b', off', none⟩) u.length cap'] w (Ans w (binIn 2 v u)) := by
  have fin := hide (bin_2 (v := v) (u := u))
  obtain ⟨w0, hw0⟩ : ∃ w0, w0 = w.alloc (.cells #[.int .i64 0, .slice none 0 0] 28) := ⟨_, rfl⟩
  have HR0 : Own w0 w.heap.size 28 [.int .i64 0, .slice none 0 0] := by rw [hw0]; exact ⟨_, heap_alloc_new _ _, rfl⟩
  have B00 : Below w.heap.size w w0 := by rw [hw0]; exact (Below.refl _ _).alloc (Nat.le_refl _) _
  have hrow0 := hrow.below B00 hb
  have hrow0' := hrow'.below B00 hb'
  have hb0 : b < w0.heap.size := Nat.lt_of_lt_of_le hb B00.size
  have hb0' : b' < w0.heap.size := Nat.lt_of_lt_of_le hb' B00.size
  have HC := hide (l1Compare_any v.length v u b off cap b' off' cap' w0 hv hu (Nat.le_refl _) hrow0 hb0 hcap hok hrow0' hb0' hcap' hok')
  have HG := hide (fun w1 (B : Below w.heap.size w w1) => l3Sub_any v b off cap u b' off' cap' w1 hv hu (hrow.below B hb) (Nat.lt_of_lt_of_le hb B.size) hn hcap hok (hrow'.below B hb') (Nat.lt_of_lt_of_le hb' B.size) hn' hcap' hok')
  clear hv hu hok hok' hrow0 hrow0' hrow hrow' hcap hcap' hn hn' hb0 hb0'
  generalize cmpL v.length v u = c at *
  generalize subIn v u = R at *
  obtain ⟨rc, rl⟩ := R
  go_enter Tryz.func25, Tryz.ntmps25
  go_wp2_with fail
  rw [← hw0]
  clear hw0
  refine (unhide HC).mono ?_
  rintro e1 w1 ⟨rfl, hb1⟩
  have hR1 := HR0.below hb1 HR0.lt
  have B1 : Below w.heap.size w w1 := B00.trans (hb1.mono B00.size)
  clear hb1
  go_wp2_with fail
  refine ((unhide HG) _ B1).mono ?_
  rintro ec wc ⟨sc, rfl, hrc, hbc⟩
  have hRc := hR1.below hbc hR1.lt
  have r0 := hRc.cell 0
  have r1 := hRc.cell 1
  have z0 := hRc.frozen 0
  have z1 := hRc.frozen 1
  simp only [List.getElem?_cons_zero, List.getElem?_cons_succ] at r0 r1
  have HE := hide (Ans.store hrc B1 hR1.lt hbc)
  obtain ⟨ac, mc, cc, rfl⟩ := hrc.shape
  clear hrc hbc
  go_wp2_with fail
  refine bodyPost_ret (v := .agg #[.int .i64 rc, .slice ac mc cc]) (by simp [results, Tryz.results25, go_sem, r0, r1]) rfl (ans_of (unhide fin) ((unhide HE) _ _).1 ((unhide HE) _ _).2)

set_option maxRecDepth 100000 in
set_option maxHeartbeats 2000000 in
theorem binSpec_3 (v : List M.Cl) (b off cap : Nat) (u : List M.Cl) (b' off' cap' : Nat) (w : World) (hv : M.valueFault v = 0) (hu : M.valueFault u = 0) (hrow : Row w b off v) (hb : b < w.heap.size) (hn : v.length ≤ 1048576) (hcap : v.length ≤ cap) (hok : ∀ c ∈ v, c.ok) (hrow' : Row w b' off' u) (hb' : b' < w.heap.size) (hn' : u.length ≤ 1048576) (hcap' : u.length ≤ cap') (hok' : ∀ c ∈ u, c.ok) :
    Calls Tryz.prog 25 #[.int .i64 3, .slice (some ⟨b, off, none⟩) v.length cap, .slice (some ⟨b', off', none⟩) u.length cap'] w (Ans w (binIn 3 v u)) := by
  have fin := hide (bin_t (op := 3) (v := v) (u := u) (by decide))
  obtain ⟨w0, hw0⟩ : ∃ w0, w0 = w.alloc (.cells #[.int .i64 0, .slice none 0 0] 28) := ⟨_, rfl⟩
  have HR0 : Own w0 w.heap.size 28 [.int .i64 0, .slice none 0 0] := by rw [hw0]; exact ⟨_, heap_alloc_new _ _, rfl⟩
  have B00 : Below w.heap.size w w0 := by rw [hw0]; exact (Below.refl _ _).alloc (Nat.le_refl _) _
  have hrow0 := hrow.below B00 hb
  have hrow0' := hrow'.below B00 hb'
  have hb0 : b < w0.heap.size := Nat.lt_of_lt_of_le hb B00.size
  have hb0' : b' < w0.heap.size := Nat.lt_of_lt_of_le hb' B00.size
  have HC := hide (l1Compare_any v.length v u b off cap b' off' cap' w0 hv hu (Nat.le_refl _) hrow0 hb0 hcap hok hrow0' hb0' hcap' hok')
  have hl1 := (M.fault_zero hv).1
  have hl1' := (M.fault_zero hu).1
  have HF := hide (fun w1 (B : Below w.heap.size w w1) => (hrow.below B hb) 0 (by omega))
  have HF' := hide (fun w1 (B : Below w.heap.size w w1) => (hrow'.below B hb') 0 (by omega))
  obtain ⟨_, _, x1, x2, _, _, _, _⟩ := code_bd (M.first_zero (M.fault_zero hv).2.2.1 _ (getD_mem v 0 (by omega)))
  obtain ⟨_, _, y1, y2, _, _, _, _⟩ := code_bd (M.first_zero (M.fault_zero hu).2.2.1 _ (getD_mem u 0 (by omega)))
  have HY := hide (fun h => timesIn_yes (op := 3) (v := v) (u := u) h)
  have HN := hide (fun h => timesIn_no (op := 3) (v := v) (u := u) h)
  clear hv hu hok hok' hrow0 hrow0' hrow hrow' hcap hcap' hn hn' hb0 hb0'
  generalize cmpL v.length v u = c0 at *
  generalize timesIn 3 v u = R at *
  generalize v.getD 0 M.zero = c at *
  generalize u.getD 0 M.zero = d at *
  go_enter Tryz.func25, Tryz.ntmps25
  go_wp2_with fail
  rw [← hw0]
  clear hw0
  refine (unhide HC).mono ?_
  rintro e1 w1 ⟨rfl, hb1⟩
  have hR1 := HR0.below hb1 HR0.lt
  have B1 : Below w.heap.size w w1 := B00.trans (hb1.mono B00.size)
  clear hb1 HC
  obtain ⟨f0, f1, _, _, _⟩ := (unhide HF) _ B1
  obtain ⟨g0, g1, _, _, _⟩ := (unhide HF') _ B1
  simp only [Nat.zero_mul, Nat.add_zero] at f0 f1 g0 g1
  by_cases kc : c.kind = 3
  · by_cases kd : d.kind = 3
    · have fin2 := hide ((unhide fin).trans ((unhide HY) ⟨kc, kd⟩))
      have HT := hide (fun wq => l3Times_any 3 c.num d.num wq (by decide) x1 x2 y1 y2)
      rw [kc] at f0
      rw [kd] at g0
      clear kc kd fin HY HN
      generalize c.num = x at *
      generalize d.num = y at *
      generalize timesOut 3 x y = Q at *
      obtain ⟨rc, rl⟩ := Q
      go_wp2_with fail
      go_region_with (go_at_call 54; refine ((unhide HT) _).mono ?_; rintro e7 w7 ⟨s7, rfl, hr7, hb7⟩; have hR7 := hR1.drew.below hb7 hR1.drew.lt; have r0 := hR7.cell 0; have r1 := hR7.cell 1; have z0 := hR7.frozen 0; have z1 := hR7.frozen 1; simp only [List.getElem?_cons_zero, List.getElem?_cons_succ] at r0 r1; have HE := hide (Ans.storeC hr7 (show w.heap.size < _ from by exact hR1.lt) (B1.drew.trans (hb7.mono (by exact B1.size)))); obtain ⟨ac, mc, cc, rfl⟩ := hr7.shape)
      all_goals
        go_wp2_with fail
        refine bodyPost_ret (v := .agg #[.int .i64 rc, .slice ac mc cc]) (by simp [results, Tryz.results25, go_sem, r0, r1]) rfl (ans_of (unhide fin2) ((unhide HE) _ _).1 ((unhide HE) _ _).2)
    · have fin2 := hide ((unhide fin).trans ((unhide HN) (fun h => kd h.2)))
      have e3 : (d.kind != 3) = true := by simp [kd]
      have e3' : (d.kind == 3) = false := by simp [kd]
      rw [kc] at f0
      clear kc kd fin HY HN
      go_wp2_with fail
      refine (l3Bad_any _ _).mono ?_
      rintro ec wc ⟨sc, rfl, hrc, hbc⟩
      have hRc := hR1.below hbc hR1.lt
      have r0 := hRc.cell 0
      have r1 := hRc.cell 1
      have z0 := hRc.frozen 0
      have z1 := hRc.frozen 1
      simp only [List.getElem?_cons_zero, List.getElem?_cons_succ] at r0 r1
      have HE := hide (Ans.store hrc B1 hR1.lt hbc)
      clear f0 f1 g0 g1 e3 e3'
      obtain ⟨ac, mc, cc, rfl⟩ := hrc.shape
      clear hrc hbc
      go_wp2_with fail
      refine bodyPost_ret (v := .agg #[.int .i64 6, .slice ac mc cc]) (by simp [results, Tryz.results25, go_sem, r0, r1]) rfl (ans_of (unhide fin2) ((unhide HE) _ _).1 ((unhide HE) _ _).2)
  · have fin2 := hide ((unhide fin).trans ((unhide HN) (fun h => kc h.1)))
    have e3 : (c.kind != 3) = true := by simp [kc]
    have e3' : (c.kind == 3) = false := by simp [kc]
    clear kc fin HY HN
    go_wp2_with fail
    refine (l3Bad_any _ _).mono ?_
    rintro ec wc ⟨sc, rfl, hrc, hbc⟩
    have hRc := hR1.below hbc hR1.lt
    have r0 := hRc.cell 0
    have r1 := hRc.cell 1
    have z0 := hRc.frozen 0
    have z1 := hRc.frozen 1
    simp only [List.getElem?_cons_zero, List.getElem?_cons_succ] at r0 r1
    have HE := hide (Ans.store hrc B1 hR1.lt hbc)
    clear f0 f1 g0 g1 e3 e3'
    obtain ⟨ac, mc, cc, rfl⟩ := hrc.shape
    clear hrc hbc
    go_wp2_with fail
    refine bodyPost_ret (v := .agg #[.int .i64 6, .slice ac mc cc]) (by simp [results, Tryz.results25, go_sem, r0, r1]) rfl (ans_of (unhide fin2) ((unhide HE) _ _).1 ((unhide HE) _ _).2)

set_option maxRecDepth 100000 in
set_option maxHeartbeats 2000000 in
theorem binSpec_10 (v : List M.Cl) (b off cap : Nat) (u : List M.Cl) (b' off' cap' : Nat) (w : World) (hv : M.valueFault v = 0) (hu : M.valueFault u = 0) (hrow : Row w b off v) (hb : b < w.heap.size) (hn : v.length ≤ 1048576) (hcap : v.length ≤ cap) (hok : ∀ c ∈ v, c.ok) (hrow' : Row w b' off' u) (hb' : b' < w.heap.size) (hn' : u.length ≤ 1048576) (hcap' : u.length ≤ cap') (hok' : ∀ c ∈ u, c.ok) :
    Calls Tryz.prog 25 #[.int .i64 10, .slice (some ⟨b, off, none⟩) v.length cap, .slice (some ⟨b', off', none⟩) u.length cap'] w (Ans w (binIn 10 v u)) := by
  have fin := hide (bin_t (op := 10) (v := v) (u := u) (by decide))
  obtain ⟨w0, hw0⟩ : ∃ w0, w0 = w.alloc (.cells #[.int .i64 0, .slice none 0 0] 28) := ⟨_, rfl⟩
  have HR0 : Own w0 w.heap.size 28 [.int .i64 0, .slice none 0 0] := by rw [hw0]; exact ⟨_, heap_alloc_new _ _, rfl⟩
  have B00 : Below w.heap.size w w0 := by rw [hw0]; exact (Below.refl _ _).alloc (Nat.le_refl _) _
  have hrow0 := hrow.below B00 hb
  have hrow0' := hrow'.below B00 hb'
  have hb0 : b < w0.heap.size := Nat.lt_of_lt_of_le hb B00.size
  have hb0' : b' < w0.heap.size := Nat.lt_of_lt_of_le hb' B00.size
  have HC := hide (l1Compare_any v.length v u b off cap b' off' cap' w0 hv hu (Nat.le_refl _) hrow0 hb0 hcap hok hrow0' hb0' hcap' hok')
  have hl1 := (M.fault_zero hv).1
  have hl1' := (M.fault_zero hu).1
  have HF := hide (fun w1 (B : Below w.heap.size w w1) => (hrow.below B hb) 0 (by omega))
  have HF' := hide (fun w1 (B : Below w.heap.size w w1) => (hrow'.below B hb') 0 (by omega))
  obtain ⟨_, _, x1, x2, _, _, _, _⟩ := code_bd (M.first_zero (M.fault_zero hv).2.2.1 _ (getD_mem v 0 (by omega)))
  obtain ⟨_, _, y1, y2, _, _, _, _⟩ := code_bd (M.first_zero (M.fault_zero hu).2.2.1 _ (getD_mem u 0 (by omega)))
  have HY := hide (fun h => timesIn_yes (op := 10) (v := v) (u := u) h)
  have HN := hide (fun h => timesIn_no (op := 10) (v := v) (u := u) h)
  clear hv hu hok hok' hrow0 hrow0' hrow hrow' hcap hcap' hn hn' hb0 hb0'
  generalize cmpL v.length v u = c0 at *
  generalize timesIn 10 v u = R at *
  generalize v.getD 0 M.zero = c at *
  generalize u.getD 0 M.zero = d at *
  go_enter Tryz.func25, Tryz.ntmps25
  go_wp2_with fail
  rw [← hw0]
  clear hw0
  refine (unhide HC).mono ?_
  rintro e1 w1 ⟨rfl, hb1⟩
  have hR1 := HR0.below hb1 HR0.lt
  have B1 : Below w.heap.size w w1 := B00.trans (hb1.mono B00.size)
  clear hb1 HC
  obtain ⟨f0, f1, _, _, _⟩ := (unhide HF) _ B1
  obtain ⟨g0, g1, _, _, _⟩ := (unhide HF') _ B1
  simp only [Nat.zero_mul, Nat.add_zero] at f0 f1 g0 g1
  by_cases kc : c.kind = 3
  · by_cases kd : d.kind = 3
    · have fin2 := hide ((unhide fin).trans ((unhide HY) ⟨kc, kd⟩))
      have HT := hide (fun wq => l3Times_any 10 c.num d.num wq (by decide) x1 x2 y1 y2)
      rw [kc] at f0
      rw [kd] at g0
      clear kc kd fin HY HN
      generalize c.num = x at *
      generalize d.num = y at *
      generalize timesOut 10 x y = Q at *
      obtain ⟨rc, rl⟩ := Q
      go_wp2_with fail
      go_region_with (go_at_call 54; refine ((unhide HT) _).mono ?_; rintro e7 w7 ⟨s7, rfl, hr7, hb7⟩; have hR7 := hR1.drew.below hb7 hR1.drew.lt; have r0 := hR7.cell 0; have r1 := hR7.cell 1; have z0 := hR7.frozen 0; have z1 := hR7.frozen 1; simp only [List.getElem?_cons_zero, List.getElem?_cons_succ] at r0 r1; have HE := hide (Ans.storeC hr7 (show w.heap.size < _ from by exact hR1.lt) (B1.drew.trans (hb7.mono (by exact B1.size)))); obtain ⟨ac, mc, cc, rfl⟩ := hr7.shape)
      all_goals
        go_wp2_with fail
        refine bodyPost_ret (v := .agg #[.int .i64 rc, .slice ac mc cc]) (by simp [results, Tryz.results25, go_sem, r0, r1]) rfl (ans_of (unhide fin2) ((unhide HE) _ _).1 ((unhide HE) _ _).2)
    · have fin2 := hide ((unhide fin).trans ((unhide HN) (fun h => kd h.2)))
      have e3 : (d.kind != 3) = true := by simp [kd]
      have e3' : (d.kind == 3) = false := by simp [kd]
      rw [kc] at f0
      clear kc kd fin HY HN
      go_wp2_with fail
      refine (l3Bad_any _ _).mono ?_
      rintro ec wc ⟨sc, rfl, hrc, hbc⟩
      have hRc := hR1.below hbc hR1.lt
      have r0 := hRc.cell 0
      have r1 := hRc.cell 1
      have z0 := hRc.frozen 0
      have z1 := hRc.frozen 1
      simp only [List.getElem?_cons_zero, List.getElem?_cons_succ] at r0 r1
      have HE := hide (Ans.store hrc B1 hR1.lt hbc)
      clear f0 f1 g0 g1 e3 e3'
      obtain ⟨ac, mc, cc, rfl⟩ := hrc.shape
      clear hrc hbc
      go_wp2_with fail
      refine bodyPost_ret (v := .agg #[.int .i64 6, .slice ac mc cc]) (by simp [results, Tryz.results25, go_sem, r0, r1]) rfl (ans_of (unhide fin2) ((unhide HE) _ _).1 ((unhide HE) _ _).2)
  · have fin2 := hide ((unhide fin).trans ((unhide HN) (fun h => kc h.1)))
    have e3 : (c.kind != 3) = true := by simp [kc]
    have e3' : (c.kind == 3) = false := by simp [kc]
    clear kc fin HY HN
    go_wp2_with fail
    refine (l3Bad_any _ _).mono ?_
    rintro ec wc ⟨sc, rfl, hrc, hbc⟩
    have hRc := hR1.below hbc hR1.lt
    have r0 := hRc.cell 0
    have r1 := hRc.cell 1
    have z0 := hRc.frozen 0
    have z1 := hRc.frozen 1
    simp only [List.getElem?_cons_zero, List.getElem?_cons_succ] at r0 r1
    have HE := hide (Ans.store hrc B1 hR1.lt hbc)
    clear f0 f1 g0 g1 e3 e3'
    obtain ⟨ac, mc, cc, rfl⟩ := hrc.shape
    clear hrc hbc
    go_wp2_with fail
    refine bodyPost_ret (v := .agg #[.int .i64 6, .slice ac mc cc]) (by simp [results, Tryz.results25, go_sem, r0, r1]) rfl (ans_of (unhide fin2) ((unhide HE) _ _).1 ((unhide HE) _ _).2)

set_option maxRecDepth 100000 in
set_option maxHeartbeats 2000000 in
theorem binSpec_11 (v : List M.Cl) (b off cap : Nat) (u : List M.Cl) (b' off' cap' : Nat) (w : World) (hv : M.valueFault v = 0) (hu : M.valueFault u = 0) (hrow : Row w b off v) (hb : b < w.heap.size) (hn : v.length ≤ 1048576) (hcap : v.length ≤ cap) (hok : ∀ c ∈ v, c.ok) (hrow' : Row w b' off' u) (hb' : b' < w.heap.size) (hn' : u.length ≤ 1048576) (hcap' : u.length ≤ cap') (hok' : ∀ c ∈ u, c.ok) :
    Calls Tryz.prog 25 #[.int .i64 11, .slice (some ⟨b, off, none⟩) v.length cap, .slice (some ⟨b', off', none⟩) u.length cap'] w (Ans w (binIn 11 v u)) := by
  have fin := hide (bin_t (op := 11) (v := v) (u := u) (by decide))
  obtain ⟨w0, hw0⟩ : ∃ w0, w0 = w.alloc (.cells #[.int .i64 0, .slice none 0 0] 28) := ⟨_, rfl⟩
  have HR0 : Own w0 w.heap.size 28 [.int .i64 0, .slice none 0 0] := by rw [hw0]; exact ⟨_, heap_alloc_new _ _, rfl⟩
  have B00 : Below w.heap.size w w0 := by rw [hw0]; exact (Below.refl _ _).alloc (Nat.le_refl _) _
  have hrow0 := hrow.below B00 hb
  have hrow0' := hrow'.below B00 hb'
  have hb0 : b < w0.heap.size := Nat.lt_of_lt_of_le hb B00.size
  have hb0' : b' < w0.heap.size := Nat.lt_of_lt_of_le hb' B00.size
  have HC := hide (l1Compare_any v.length v u b off cap b' off' cap' w0 hv hu (Nat.le_refl _) hrow0 hb0 hcap hok hrow0' hb0' hcap' hok')
  have hl1 := (M.fault_zero hv).1
  have hl1' := (M.fault_zero hu).1
  have HF := hide (fun w1 (B : Below w.heap.size w w1) => (hrow.below B hb) 0 (by omega))
  have HF' := hide (fun w1 (B : Below w.heap.size w w1) => (hrow'.below B hb') 0 (by omega))
  obtain ⟨_, _, x1, x2, _, _, _, _⟩ := code_bd (M.first_zero (M.fault_zero hv).2.2.1 _ (getD_mem v 0 (by omega)))
  obtain ⟨_, _, y1, y2, _, _, _, _⟩ := code_bd (M.first_zero (M.fault_zero hu).2.2.1 _ (getD_mem u 0 (by omega)))
  have HY := hide (fun h => timesIn_yes (op := 11) (v := v) (u := u) h)
  have HN := hide (fun h => timesIn_no (op := 11) (v := v) (u := u) h)
  clear hv hu hok hok' hrow0 hrow0' hrow hrow' hcap hcap' hn hn' hb0 hb0'
  generalize cmpL v.length v u = c0 at *
  generalize timesIn 11 v u = R at *
  generalize v.getD 0 M.zero = c at *
  generalize u.getD 0 M.zero = d at *
  go_enter Tryz.func25, Tryz.ntmps25
  go_wp2_with fail
  rw [← hw0]
  clear hw0
  refine (unhide HC).mono ?_
  rintro e1 w1 ⟨rfl, hb1⟩
  have hR1 := HR0.below hb1 HR0.lt
  have B1 : Below w.heap.size w w1 := B00.trans (hb1.mono B00.size)
  clear hb1 HC
  obtain ⟨f0, f1, _, _, _⟩ := (unhide HF) _ B1
  obtain ⟨g0, g1, _, _, _⟩ := (unhide HF') _ B1
  simp only [Nat.zero_mul, Nat.add_zero] at f0 f1 g0 g1
  by_cases kc : c.kind = 3
  · by_cases kd : d.kind = 3
    · have fin2 := hide ((unhide fin).trans ((unhide HY) ⟨kc, kd⟩))
      have HT := hide (fun wq => l3Times_any 11 c.num d.num wq (by decide) x1 x2 y1 y2)
      rw [kc] at f0
      rw [kd] at g0
      clear kc kd fin HY HN
      generalize c.num = x at *
      generalize d.num = y at *
      generalize timesOut 11 x y = Q at *
      obtain ⟨rc, rl⟩ := Q
      go_wp2_with fail
      go_region_with (go_at_call 54; refine ((unhide HT) _).mono ?_; rintro e7 w7 ⟨s7, rfl, hr7, hb7⟩; have hR7 := hR1.drew.below hb7 hR1.drew.lt; have r0 := hR7.cell 0; have r1 := hR7.cell 1; have z0 := hR7.frozen 0; have z1 := hR7.frozen 1; simp only [List.getElem?_cons_zero, List.getElem?_cons_succ] at r0 r1; have HE := hide (Ans.storeC hr7 (show w.heap.size < _ from by exact hR1.lt) (B1.drew.trans (hb7.mono (by exact B1.size)))); obtain ⟨ac, mc, cc, rfl⟩ := hr7.shape)
      all_goals
        go_wp2_with fail
        refine bodyPost_ret (v := .agg #[.int .i64 rc, .slice ac mc cc]) (by simp [results, Tryz.results25, go_sem, r0, r1]) rfl (ans_of (unhide fin2) ((unhide HE) _ _).1 ((unhide HE) _ _).2)
    · have fin2 := hide ((unhide fin).trans ((unhide HN) (fun h => kd h.2)))
      have e3 : (d.kind != 3) = true := by simp [kd]
      have e3' : (d.kind == 3) = false := by simp [kd]
      rw [kc] at f0
      clear kc kd fin HY HN
      go_wp2_with fail
      refine (l3Bad_any _ _).mono ?_
      rintro ec wc ⟨sc, rfl, hrc, hbc⟩
      have hRc := hR1.below hbc hR1.lt
      have r0 := hRc.cell 0
      have r1 := hRc.cell 1
      have z0 := hRc.frozen 0
      have z1 := hRc.frozen 1
      simp only [List.getElem?_cons_zero, List.getElem?_cons_succ] at r0 r1
      have HE := hide (Ans.store hrc B1 hR1.lt hbc)
      clear f0 f1 g0 g1 e3 e3'
      obtain ⟨ac, mc, cc, rfl⟩ := hrc.shape
      clear hrc hbc
      go_wp2_with fail
      refine bodyPost_ret (v := .agg #[.int .i64 6, .slice ac mc cc]) (by simp [results, Tryz.results25, go_sem, r0, r1]) rfl (ans_of (unhide fin2) ((unhide HE) _ _).1 ((unhide HE) _ _).2)
  · have fin2 := hide ((unhide fin).trans ((unhide HN) (fun h => kc h.1)))
    have e3 : (c.kind != 3) = true := by simp [kc]
    have e3' : (c.kind == 3) = false := by simp [kc]
    clear kc fin HY HN
    go_wp2_with fail
    refine (l3Bad_any _ _).mono ?_
    rintro ec wc ⟨sc, rfl, hrc, hbc⟩
    have hRc := hR1.below hbc hR1.lt
    have r0 := hRc.cell 0
    have r1 := hRc.cell 1
    have z0 := hRc.frozen 0
    have z1 := hRc.frozen 1
    simp only [List.getElem?_cons_zero, List.getElem?_cons_succ] at r0 r1
    have HE := hide (Ans.store hrc B1 hR1.lt hbc)
    clear f0 f1 g0 g1 e3 e3'
    obtain ⟨ac, mc, cc, rfl⟩ := hrc.shape
    clear hrc hbc
    go_wp2_with fail
    refine bodyPost_ret (v := .agg #[.int .i64 6, .slice ac mc cc]) (by simp [results, Tryz.results25, go_sem, r0, r1]) rfl (ans_of (unhide fin2) ((unhide HE) _ _).1 ((unhide HE) _ _).2)

theorem l3Binary_any (op : Int) (v : List M.Cl) (b off cap : Nat) (u : List M.Cl) (b' off' cap' : Nat) (w : World) (hv : M.valueFault v = 0) (hu : M.valueFault u = 0) (hrow : Row w b off v) (hb : b < w.heap.size) (hn : v.length ≤ 1048576) (hcap : v.length ≤ cap) (hok : ∀ c ∈ v, c.ok) (hrow' : Row w b' off' u) (hb' : b' < w.heap.size) (hn' : u.length ≤ 1048576) (hcap' : u.length ≤ cap') (hok' : ∀ c ∈ u, c.ok) (ho : 1 ≤ op ∧ op ≤ 11) :
    Calls Tryz.prog 25 #[.int .i64 op, .slice (some ⟨b, off, none⟩) v.length cap, .slice (some ⟨b', off', none⟩) u.length cap'] w (Ans w (binIn op v u)) := by
  by_cases e1 : op = 1
  · subst e1; exact binSpec_1 v b off cap u b' off' cap' w hv hu hrow hb hn hcap hok hrow' hb' hn' hcap' hok'
  by_cases e2 : op = 2
  · subst e2; exact binSpec_2 v b off cap u b' off' cap' w hv hu hrow hb hn hcap hok hrow' hb' hn' hcap' hok'
  by_cases e3 : op = 3
  · subst e3; exact binSpec_3 v b off cap u b' off' cap' w hv hu hrow hb hn hcap hok hrow' hb' hn' hcap' hok'
  by_cases e4 : op = 4
  · subst e4; exact binSpec_4 v b off cap u b' off' cap' w hv hu hrow hb hn hcap hok hrow' hb' hn' hcap' hok'
  by_cases e5 : op = 5
  · subst e5; exact binSpec_5 v b off cap u b' off' cap' w hv hu hrow hb hn hcap hok hrow' hb' hn' hcap' hok'
  by_cases e6 : op = 6
  · subst e6; exact binSpec_6 v b off cap u b' off' cap' w hv hu hrow hb hn hcap hok hrow' hb' hn' hcap' hok'
  by_cases e7 : op = 7
  · subst e7; exact binSpec_7 v b off cap u b' off' cap' w hv hu hrow hb hn hcap hok hrow' hb' hn' hcap' hok'
  by_cases e8 : op = 8
  · subst e8; exact binSpec_8 v b off cap u b' off' cap' w hv hu hrow hb hn hcap hok hrow' hb' hn' hcap' hok'
  by_cases e9 : op = 9
  · subst e9; exact binSpec_9 v b off cap u b' off' cap' w hv hu hrow hb hn hcap hok hrow' hb' hn' hcap' hok'
  by_cases e10 : op = 10
  · subst e10; exact binSpec_10 v b off cap u b' off' cap' w hv hu hrow hb hn hcap hok hrow' hb' hn' hcap' hok'
  by_cases e11 : op = 11
  · subst e11; exact binSpec_11 v b off cap u b' off' cap' w hv hu hrow hb hn hcap hok hrow' hb' hn' hcap' hok'
  omega

set_option maxHeartbeats 1000000 in
theorem l1In_bin (a lo hi : Int) (w : World) : Calls Tryz.prog 24 #[.int .i64 a, .int .i64 lo, .int .i64 hi] w fun e w' => e = .returned (.bool (decide (lo ≤ a) && decide (a ≤ hi))) ∧ w' = w := by
  by_cases h1 : lo ≤ a
  · by_cases h2 : a ≤ hi
    · go_enter Tryz.func24, Tryz.ntmps24
      go_wp2
      go_ret
      exact ⟨ret_bool (by first | simp [h1, h2] | (simp; omega)), rfl⟩
    · go_enter Tryz.func24, Tryz.ntmps24
      go_wp2
      go_ret
      exact ⟨ret_bool (by first | simp [h1, h2] | (simp; omega)), rfl⟩
  · go_enter Tryz.func24, Tryz.ntmps24
    go_wp2
    go_ret
    exact ⟨ret_bool (by simp; omega), rfl⟩

set_option maxRecDepth 100000 in
set_option maxHeartbeats 2000000 in
theorem specBinary_any (op : Int) (v : List M.Cl) (b off cap : Nat) (u : List M.Cl) (b' off' cap' : Nat) (w : World) (hrow : Row w b off v) (hb : b < w.heap.size) (hn : v.length ≤ 1048576) (hcap : v.length ≤ cap) (hok : ∀ c ∈ v, c.ok) (hrow' : Row w b' off' u) (hb' : b' < w.heap.size) (hn' : u.length ≤ 1048576) (hcap' : u.length ≤ cap') (hok' : ∀ c ∈ u, c.ok) :
    Calls Tryz.prog 7 #[.int .i64 op, .slice (some ⟨b, off, none⟩) v.length cap, .slice (some ⟨b', off', none⟩) u.length cap'] w (Ans w (binOut op v u)) := by
  have OK := hide hok
  have OK' := hide hok'
  have B0 : ∀ o, Below w.heap.size w (w.alloc o) := fun o => (Below.refl _ _).alloc (Nat.le_refl _) o
  have HB0 := hide B0
  clear B0
  clear hok hok'
  go_enter Tryz.func7, Tryz.ntmps7
  go_wp2_with fail
  refine (l3Both_any v b off cap u b' off' cap' _ (hrow.below ((unhide HB0) _) hb) (by simp; omega) hn hcap (unhide OK) (hrow'.below ((unhide HB0) _) hb') (by simp; omega) hn' hcap' (unhide OK')).mono ?_
  rintro e1 w1 ⟨rfl, hb1⟩
  have hR : Own w1 w.heap.size 28 [.int .i64 0, .slice none 0 0] := Own.below ⟨_, heap_alloc_new _ _, rfl⟩ hb1 (by simp)
  have B1 : Below w.heap.size w w1 := ((unhide HB0) _).trans (hb1.mono (by simp))
  have hrow1 := hrow.below B1 hb
  have hb1' : b < w1.heap.size := Nat.lt_of_lt_of_le hb B1.size
  have hrow2 := hrow'.below B1 hb'
  have hb2' : b' < w1.heap.size := Nat.lt_of_lt_of_le hb' B1.size
  clear hb1
  generalize hq : bothOut v u = q
  by_cases hz : q = 0
  · subst hz
    have HI := hide (l1In_bin op 1 11 w1)
    by_cases ho : 1 ≤ op ∧ op ≤ 11
    · have fin := hide (bin_ok hq ho)
      obtain ⟨hv, hu⟩ := both_zero hq
      have HG := hide (l3Binary_any op v b off cap u b' off' cap' w1 hv hu hrow1 hb1' hn hcap (unhide OK) hrow2 hb2' hn' hcap' (unhide OK') ho)
      rw [show (decide ((1 : Int) ≤ op) && decide (op ≤ 11)) = true by simp [ho]] at HI
      clear hq hv hu ho
      generalize hR2 : binIn op v u = R at *
      obtain ⟨rc, rl⟩ := R
      clear hR2
      go_wp2_with fail
      refine (unhide HI).mono ?_
      rintro e2 w1x ⟨rfl, hw1⟩
      have hw1y := hw1.symm
      clear hw1
      subst hw1y
      go_wp2_with fail
      refine (unhide HG).mono ?_
      rintro ec wc ⟨sc, rfl, hrc, hbc⟩
      have hRc := hR.below hbc hR.lt
      have r0 := hRc.cell 0
      have r1 := hRc.cell 1
      have z0 := hRc.frozen 0
      have z1 := hRc.frozen 1
      simp only [List.getElem?_cons_zero, List.getElem?_cons_succ] at r0 r1
      have HE := hide (Ans.store hrc B1 hR.lt hbc)
      obtain ⟨ac, mc, cc, rfl⟩ := hrc.shape
      clear hrc hbc
      go_wp2_with fail
      refine bodyPost_ret (v := .agg #[.int .i64 rc, .slice ac mc cc]) (by simp [results, Tryz.results7, go_sem, r0, r1]) rfl (ans_of (unhide fin) ((unhide HE) _ _).1 ((unhide HE) _ _).2)
    · have fin := hide (bin_form (v := v) (u := u) hq ho)
      rw [show (decide ((1 : Int) ≤ op) && decide (op ≤ 11)) = false by rw [Bool.and_eq_false_iff]; simp; omega] at HI
      clear hq ho
      go_wp2_with fail
      refine (unhide HI).mono ?_
      rintro e2 w1x ⟨rfl, hw1⟩
      have hw1y := hw1.symm
      clear hw1
      subst hw1y
      go_wp2_with fail
      refine (l3Bad_any _ _).mono ?_
      rintro ec wc ⟨sc, rfl, hrc, hbc⟩
      have hRc := hR.below hbc hR.lt
      have r0 := hRc.cell 0
      have r1 := hRc.cell 1
      have z0 := hRc.frozen 0
      have z1 := hRc.frozen 1
      simp only [List.getElem?_cons_zero, List.getElem?_cons_succ] at r0 r1
      have HE := hide (Ans.store hrc B1 hR.lt hbc)
      obtain ⟨ac, mc, cc, rfl⟩ := hrc.shape
      clear hrc hbc
      go_wp2_with fail
      refine bodyPost_ret (v := .agg #[.int .i64 1, .slice ac mc cc]) (by simp [results, Tryz.results7, go_sem, r0, r1]) rfl (ans_of (unhide fin) ((unhide HE) _ _).1 ((unhide HE) _ _).2)
  · have fin := hide ((bin_bad (op := op) (by rw [hq]; exact hz)).trans (by rw [hq]))
    have hz' : (q == 0) = false := by simp [hz]
    clear hq
    go_wp2_with fail
    refine (l3Bad_any _ _).mono ?_
    rintro ec wc ⟨sc, rfl, hrc, hbc⟩
    have hRc := hR.below hbc hR.lt
    have r0 := hRc.cell 0
    have r1 := hRc.cell 1
    have z0 := hRc.frozen 0
    have z1 := hRc.frozen 1
    simp only [List.getElem?_cons_zero, List.getElem?_cons_succ] at r0 r1
    have HE := hide (Ans.store hrc B1 hR.lt hbc)
    obtain ⟨ac, mc, cc, rfl⟩ := hrc.shape
    clear hrc hbc
    go_wp2_with fail
    refine bodyPost_ret (v := .agg #[.int .i64 q, .slice ac mc cc]) (by simp [results, Tryz.results7, go_sem, r0, r1]) rfl (ans_of (unhide fin) ((unhide HE) _ _).1 ((unhide HE) _ _).2)

end Go.Proofs.YtemehbjlfiebdaaGreat

namespace Go.Proofs.YtemehbjlfiebdaaGreat
open Go.RowKit
set_option linter.unusedVariables false

set_option linter.unusedSimpArgs false

set_option maxRecDepth 100000 in
set_option maxHeartbeats 4000000 in
theorem opTable_any (w : World) : Calls Tryz.prog 21 #[] w fun e w' => e = .returned (.agg #[.nilFunc, .func (.func 35) #[] #[], .func (.func 37) #[] #[], .func (.func 38) #[] #[], .func (.func 39) #[] #[], .func (.func 42) #[] #[], .func (.func 43) #[] #[], .func (.func 44) #[] #[], .func (.func 45) #[] #[], .func (.func 46) #[] #[], .func (.func 47) #[] #[], .func (.func 48) #[] #[]]) ∧ Below w.heap.size w w' := by
  have HB : Hid (∀ o, Below w.heap.size w (w.alloc o)) := fun o => (Below.refl _ _).alloc (Nat.le_refl _) o
  have O : Own (w.alloc (.cells #[.nilFunc, .nilFunc, .nilFunc, .nilFunc, .nilFunc, .nilFunc, .nilFunc, .nilFunc, .nilFunc, .nilFunc, .nilFunc, .nilFunc] 49)) w.heap.size 49 [.nilFunc, .nilFunc, .nilFunc, .nilFunc, .nilFunc, .nilFunc, .nilFunc, .nilFunc, .nilFunc, .nilFunc, .nilFunc, .nilFunc] := ⟨_, heap_alloc_new _ _, rfl⟩
  have c0 := O.cell 0
  have z0 := O.frozen 0
  have c1 := O.cell 1
  have z1 := O.frozen 1
  have c2 := O.cell 2
  have z2 := O.frozen 2
  have c3 := O.cell 3
  have z3 := O.frozen 3
  have c4 := O.cell 4
  have z4 := O.frozen 4
  have c5 := O.cell 5
  have z5 := O.frozen 5
  have c6 := O.cell 6
  have z6 := O.frozen 6
  have c7 := O.cell 7
  have z7 := O.frozen 7
  have c8 := O.cell 8
  have z8 := O.frozen 8
  have c9 := O.cell 9
  have z9 := O.frozen 9
  have c10 := O.cell 10
  have z10 := O.frozen 10
  have c11 := O.cell 11
  have z11 := O.frozen 11
  simp only [List.getElem?_cons_zero, List.getElem?_cons_succ] at c0 c1 c2 c3 c4 c5 c6 c7 c8 c9 c10 c11
  clear O
  go_enter Tryz.func21, Tryz.ntmps21
  go_wp2_with fail
  refine bodyPost_ret (v := .agg #[.nilFunc, .func (.func 35) #[] #[], .func (.func 37) #[] #[], .func (.func 38) #[] #[], .func (.func 39) #[] #[], .func (.func 42) #[] #[], .func (.func 43) #[] #[], .func (.func 44) #[] #[], .func (.func 45) #[] #[], .func (.func 46) #[] #[], .func (.func 47) #[] #[], .func (.func 48) #[] #[]]) (by simp [results, Tryz.results21, go_sem, c0, c1, c2, c3, c4, c5, c6, c7, c8, c9, c10, c11]) rfl ⟨rfl, ?_⟩
  repeat (first | exact HB.out _ | refine Below.setCell ?_ (Nat.le_refl _) _)
theorem tab_1 (w : World) : (Instr.index 49 (.agg #[.nilFunc, .func (.func 35) #[] #[], .func (.func 37) #[] #[], .func (.func 38) #[] #[], .func (.func 39) #[] #[], .func (.func 42) #[] #[], .func (.func 43) #[] #[], .func (.func 44) #[] #[], .func (.func 45) #[] #[], .func (.func 46) #[] #[], .func (.func 47) #[] #[], .func (.func 48) #[] #[]]) (.int .i64 1)).run Tryz.prog w = .ok (.func (.func 35) #[] #[]) w := by
  simp [Instr.index, run_underlying Tryz.underlying49, asIntOf, part, go_sem]
theorem tab_2 (w : World) : (Instr.index 49 (.agg #[.nilFunc, .func (.func 35) #[] #[], .func (.func 37) #[] #[], .func (.func 38) #[] #[], .func (.func 39) #[] #[], .func (.func 42) #[] #[], .func (.func 43) #[] #[], .func (.func 44) #[] #[], .func (.func 45) #[] #[], .func (.func 46) #[] #[], .func (.func 47) #[] #[], .func (.func 48) #[] #[]]) (.int .i64 2)).run Tryz.prog w = .ok (.func (.func 37) #[] #[]) w := by
  simp [Instr.index, run_underlying Tryz.underlying49, asIntOf, part, go_sem]
theorem tab_3 (w : World) : (Instr.index 49 (.agg #[.nilFunc, .func (.func 35) #[] #[], .func (.func 37) #[] #[], .func (.func 38) #[] #[], .func (.func 39) #[] #[], .func (.func 42) #[] #[], .func (.func 43) #[] #[], .func (.func 44) #[] #[], .func (.func 45) #[] #[], .func (.func 46) #[] #[], .func (.func 47) #[] #[], .func (.func 48) #[] #[]]) (.int .i64 3)).run Tryz.prog w = .ok (.func (.func 38) #[] #[]) w := by
  simp [Instr.index, run_underlying Tryz.underlying49, asIntOf, part, go_sem]
theorem tab_4 (w : World) : (Instr.index 49 (.agg #[.nilFunc, .func (.func 35) #[] #[], .func (.func 37) #[] #[], .func (.func 38) #[] #[], .func (.func 39) #[] #[], .func (.func 42) #[] #[], .func (.func 43) #[] #[], .func (.func 44) #[] #[], .func (.func 45) #[] #[], .func (.func 46) #[] #[], .func (.func 47) #[] #[], .func (.func 48) #[] #[]]) (.int .i64 4)).run Tryz.prog w = .ok (.func (.func 39) #[] #[]) w := by
  simp [Instr.index, run_underlying Tryz.underlying49, asIntOf, part, go_sem]
theorem tab_5 (w : World) : (Instr.index 49 (.agg #[.nilFunc, .func (.func 35) #[] #[], .func (.func 37) #[] #[], .func (.func 38) #[] #[], .func (.func 39) #[] #[], .func (.func 42) #[] #[], .func (.func 43) #[] #[], .func (.func 44) #[] #[], .func (.func 45) #[] #[], .func (.func 46) #[] #[], .func (.func 47) #[] #[], .func (.func 48) #[] #[]]) (.int .i64 5)).run Tryz.prog w = .ok (.func (.func 42) #[] #[]) w := by
  simp [Instr.index, run_underlying Tryz.underlying49, asIntOf, part, go_sem]
theorem tab_6 (w : World) : (Instr.index 49 (.agg #[.nilFunc, .func (.func 35) #[] #[], .func (.func 37) #[] #[], .func (.func 38) #[] #[], .func (.func 39) #[] #[], .func (.func 42) #[] #[], .func (.func 43) #[] #[], .func (.func 44) #[] #[], .func (.func 45) #[] #[], .func (.func 46) #[] #[], .func (.func 47) #[] #[], .func (.func 48) #[] #[]]) (.int .i64 6)).run Tryz.prog w = .ok (.func (.func 43) #[] #[]) w := by
  simp [Instr.index, run_underlying Tryz.underlying49, asIntOf, part, go_sem]
theorem tab_7 (w : World) : (Instr.index 49 (.agg #[.nilFunc, .func (.func 35) #[] #[], .func (.func 37) #[] #[], .func (.func 38) #[] #[], .func (.func 39) #[] #[], .func (.func 42) #[] #[], .func (.func 43) #[] #[], .func (.func 44) #[] #[], .func (.func 45) #[] #[], .func (.func 46) #[] #[], .func (.func 47) #[] #[], .func (.func 48) #[] #[]]) (.int .i64 7)).run Tryz.prog w = .ok (.func (.func 44) #[] #[]) w := by
  simp [Instr.index, run_underlying Tryz.underlying49, asIntOf, part, go_sem]
theorem tab_8 (w : World) : (Instr.index 49 (.agg #[.nilFunc, .func (.func 35) #[] #[], .func (.func 37) #[] #[], .func (.func 38) #[] #[], .func (.func 39) #[] #[], .func (.func 42) #[] #[], .func (.func 43) #[] #[], .func (.func 44) #[] #[], .func (.func 45) #[] #[], .func (.func 46) #[] #[], .func (.func 47) #[] #[], .func (.func 48) #[] #[]]) (.int .i64 8)).run Tryz.prog w = .ok (.func (.func 45) #[] #[]) w := by
  simp [Instr.index, run_underlying Tryz.underlying49, asIntOf, part, go_sem]
theorem tab_9 (w : World) : (Instr.index 49 (.agg #[.nilFunc, .func (.func 35) #[] #[], .func (.func 37) #[] #[], .func (.func 38) #[] #[], .func (.func 39) #[] #[], .func (.func 42) #[] #[], .func (.func 43) #[] #[], .func (.func 44) #[] #[], .func (.func 45) #[] #[], .func (.func 46) #[] #[], .func (.func 47) #[] #[], .func (.func 48) #[] #[]]) (.int .i64 9)).run Tryz.prog w = .ok (.func (.func 46) #[] #[]) w := by
  simp [Instr.index, run_underlying Tryz.underlying49, asIntOf, part, go_sem]
theorem tab_10 (w : World) : (Instr.index 49 (.agg #[.nilFunc, .func (.func 35) #[] #[], .func (.func 37) #[] #[], .func (.func 38) #[] #[], .func (.func 39) #[] #[], .func (.func 42) #[] #[], .func (.func 43) #[] #[], .func (.func 44) #[] #[], .func (.func 45) #[] #[], .func (.func 46) #[] #[], .func (.func 47) #[] #[], .func (.func 48) #[] #[]]) (.int .i64 10)).run Tryz.prog w = .ok (.func (.func 47) #[] #[]) w := by
  simp [Instr.index, run_underlying Tryz.underlying49, asIntOf, part, go_sem]
theorem tab_11 (w : World) : (Instr.index 49 (.agg #[.nilFunc, .func (.func 35) #[] #[], .func (.func 37) #[] #[], .func (.func 38) #[] #[], .func (.func 39) #[] #[], .func (.func 42) #[] #[], .func (.func 43) #[] #[], .func (.func 44) #[] #[], .func (.func 45) #[] #[], .func (.func 46) #[] #[], .func (.func 47) #[] #[], .func (.func 48) #[] #[]]) (.int .i64 11)).run Tryz.prog w = .ok (.func (.func 48) #[] #[]) w := by
  simp [Instr.index, run_underlying Tryz.underlying49, asIntOf, part, go_sem]

set_option maxRecDepth 100000 in
set_option maxHeartbeats 4000000 in
theorem binImpl_1 (v : List M.Cl) (b off cap : Nat) (u : List M.Cl) (b' off' cap' : Nat) (w : World) (hq : bothOut v u = 0) (hrow : Row w b off v) (hb : b < w.heap.size) (hn : v.length ≤ 1048576) (hcap : v.length ≤ cap) (hok : ∀ c ∈ v, c.ok) (hrow' : Row w b' off' u) (hb' : b' < w.heap.size) (hn' : u.length ≤ 1048576) (hcap' : u.length ≤ cap') (hok' : ∀ c ∈ u, c.ok) :
    Calls Tryz.prog 6 #[.int .i64 1, .slice (some ⟨b, off, none⟩) v.length cap, .slice (some ⟨b', off', none⟩) u.length cap'] w (Ans w (binOut 1 v u)) := by
  have fin := hide (bin_ok (op := 1) hq (by decide))
  obtain ⟨hv, hu⟩ := both_zero hq
  have HG : Hid (∀ w1, Below w.heap.size w w1 → Calls Tryz.prog 35 #[.slice (some ⟨b, off, none⟩) v.length cap, .slice (some ⟨b', off', none⟩) u.length cap'] w1 (Ans w1 (binIn 1 v u))) := fun w1 B => by
    have := table1_any v b off cap u b' off' cap' w1 hv hu (hrow.below B hb) (Nat.lt_of_lt_of_le hb B.size) hn hcap hok (hrow'.below B hb') (Nat.lt_of_lt_of_le hb' B.size) hn' hcap' hok'
    rw [show addIn v u = binIn 1 v u from bin_1.symm] at this
    exact this
  clear hv hu
  have OK := hide hok
  have OK' := hide hok'
  have B0 : ∀ o, Below w.heap.size w (w.alloc o) := fun o => (Below.refl _ _).alloc (Nat.le_refl _) o
  have HB0 := hide B0
  clear B0
  have HKF := hide (fun o => firstFaultV_any (some ⟨w.heap.size + 1, 0, none⟩) 2 [v, u] ((w.alloc o).alloc (.cells #[.slice (some ⟨b, off, none⟩) v.length cap, .slice (some ⟨b', off', none⟩) u.length cap'] 24)) (LV.two (w.alloc o) (w.heap.size + 1) b off cap b' off' cap' v u 24 (by simp) (hrow.below ((unhide HB0) _) hb) (by simp; omega) hcap (hrow'.below ((unhide HB0) _) hb') (by simp; omega) hcap') (by simp) (by simp) (len_two hn hn') (okS_two hok hok'))
  simp only [List.length_cons, List.length_nil, Nat.zero_add, firstBad_both] at HKF
  clear hok hok'
  rw [hq] at HKF
  clear hq
  generalize binIn 1 v u = R at *
  obtain ⟨rc, rl⟩ := R
  go_enter Tryz.func6, Tryz.ntmps6
  go_wp2_with fail
  refine ((unhide HKF) _).mono ?_
  rintro e1 w1 ⟨rfl, hb1⟩
  have hR : Own w1 w.heap.size 28 [.int .i64 0, .slice none 0 0] := Own.below (Own.alloc ⟨_, heap_alloc_new _ _, rfl⟩ _) hb1 (by simp; omega)
  have B1 : Below w.heap.size w w1 := (((unhide HB0) _).alloc (by simp) _).trans (hb1.mono (by simp; omega))
  clear hb1 HKF
  go_wp2_with fail
  refine (opTable_any _).mono ?_
  rintro e2 w2 ⟨rfl, hb2⟩
  have hR2 := hR.below hb2 hR.lt
  have B2 : Below w.heap.size w w2 := B1.trans (hb2.mono B1.size)
  clear hb2
  have htab := tab_1 w2
  go_wp2_with fail
  refine ((unhide HG) _ B2).mono ?_
  rintro ec wc ⟨sc, rfl, hrc, hbc⟩
  have hRc := hR2.below hbc hR2.lt
  have r0 := hRc.cell 0
  have r1 := hRc.cell 1
  have z0 := hRc.frozen 0
  have z1 := hRc.frozen 1
  simp only [List.getElem?_cons_zero, List.getElem?_cons_succ] at r0 r1
  have HE := hide (Ans.store hrc B2 hR2.lt hbc)
  obtain ⟨ac, mc, cc, rfl⟩ := hrc.shape
  clear hrc hbc
  go_wp2_with fail
  refine bodyPost_ret (v := .agg #[.int .i64 rc, .slice ac mc cc]) (by simp [results, Tryz.results6, go_sem, r0, r1]) rfl (ans_of (unhide fin) ((unhide HE) _ _).1 ((unhide HE) _ _).2)

set_option maxRecDepth 100000 in
set_option maxHeartbeats 4000000 in
theorem binImpl_2 (v : List M.Cl) (b off cap : Nat) (u : List M.Cl) (b' off' cap' : Nat) (w : World) (hq : bothOut v u = 0) (hrow : Row w b off v) (hb : b < w.heap.size) (hn : v.length ≤ 1048576) (hcap : v.length ≤ cap) (hok : ∀ c ∈ v, c.ok) (hrow' : Row w b' off' u) (hb' : b' < w.heap.size) (hn' : u.length ≤ 1048576) (hcap' : u.length ≤ cap') (hok' : ∀ c ∈ u, c.ok) :
    Calls Tryz.prog 6 #[.int .i64 2, .slice (some ⟨b, off, none⟩) v.length cap, .slice (some ⟨b', off', none⟩) u.length cap'] w (Ans w (binOut 2 v u)) := by
  have fin := hide (bin_ok (op := 2) hq (by decide))
  obtain ⟨hv, hu⟩ := both_zero hq
  have HG : Hid (∀ w1, Below w.heap.size w w1 → Calls Tryz.prog 37 #[.slice (some ⟨b, off, none⟩) v.length cap, .slice (some ⟨b', off', none⟩) u.length cap'] w1 (Ans w1 (binIn 2 v u))) := fun w1 B => by
    have := differenceOf_any v b off cap u b' off' cap' w1 hv hu (hrow.below B hb) (Nat.lt_of_lt_of_le hb B.size) hn hcap hok (hrow'.below B hb') (Nat.lt_of_lt_of_le hb' B.size) hn' hcap' hok'
    rw [show subIn v u = binIn 2 v u from bin_2.symm] at this
    exact this
  clear hv hu
  have OK := hide hok
  have OK' := hide hok'
  have B0 : ∀ o, Below w.heap.size w (w.alloc o) := fun o => (Below.refl _ _).alloc (Nat.le_refl _) o
  have HB0 := hide B0
  clear B0
  have HKF := hide (fun o => firstFaultV_any (some ⟨w.heap.size + 1, 0, none⟩) 2 [v, u] ((w.alloc o).alloc (.cells #[.slice (some ⟨b, off, none⟩) v.length cap, .slice (some ⟨b', off', none⟩) u.length cap'] 24)) (LV.two (w.alloc o) (w.heap.size + 1) b off cap b' off' cap' v u 24 (by simp) (hrow.below ((unhide HB0) _) hb) (by simp; omega) hcap (hrow'.below ((unhide HB0) _) hb') (by simp; omega) hcap') (by simp) (by simp) (len_two hn hn') (okS_two hok hok'))
  simp only [List.length_cons, List.length_nil, Nat.zero_add, firstBad_both] at HKF
  clear hok hok'
  rw [hq] at HKF
  clear hq
  generalize binIn 2 v u = R at *
  obtain ⟨rc, rl⟩ := R
  go_enter Tryz.func6, Tryz.ntmps6
  go_wp2_with fail
  refine ((unhide HKF) _).mono ?_
  rintro e1 w1 ⟨rfl, hb1⟩
  have hR : Own w1 w.heap.size 28 [.int .i64 0, .slice none 0 0] := Own.below (Own.alloc ⟨_, heap_alloc_new _ _, rfl⟩ _) hb1 (by simp; omega)
  have B1 : Below w.heap.size w w1 := (((unhide HB0) _).alloc (by simp) _).trans (hb1.mono (by simp; omega))
  clear hb1 HKF
  go_wp2_with fail
  refine (opTable_any _).mono ?_
  rintro e2 w2 ⟨rfl, hb2⟩
  have hR2 := hR.below hb2 hR.lt
  have B2 : Below w.heap.size w w2 := B1.trans (hb2.mono B1.size)
  clear hb2
  have htab := tab_2 w2
  go_wp2_with fail
  refine ((unhide HG) _ B2).mono ?_
  rintro ec wc ⟨sc, rfl, hrc, hbc⟩
  have hRc := hR2.below hbc hR2.lt
  have r0 := hRc.cell 0
  have r1 := hRc.cell 1
  have z0 := hRc.frozen 0
  have z1 := hRc.frozen 1
  simp only [List.getElem?_cons_zero, List.getElem?_cons_succ] at r0 r1
  have HE := hide (Ans.store hrc B2 hR2.lt hbc)
  obtain ⟨ac, mc, cc, rfl⟩ := hrc.shape
  clear hrc hbc
  go_wp2_with fail
  refine bodyPost_ret (v := .agg #[.int .i64 rc, .slice ac mc cc]) (by simp [results, Tryz.results6, go_sem, r0, r1]) rfl (ans_of (unhide fin) ((unhide HE) _ _).1 ((unhide HE) _ _).2)

set_option maxRecDepth 100000 in
set_option maxHeartbeats 4000000 in
theorem binImpl_3 (v : List M.Cl) (b off cap : Nat) (u : List M.Cl) (b' off' cap' : Nat) (w : World) (hq : bothOut v u = 0) (hrow : Row w b off v) (hb : b < w.heap.size) (hn : v.length ≤ 1048576) (hcap : v.length ≤ cap) (hok : ∀ c ∈ v, c.ok) (hrow' : Row w b' off' u) (hb' : b' < w.heap.size) (hn' : u.length ≤ 1048576) (hcap' : u.length ≤ cap') (hok' : ∀ c ∈ u, c.ok) :
    Calls Tryz.prog 6 #[.int .i64 3, .slice (some ⟨b, off, none⟩) v.length cap, .slice (some ⟨b', off', none⟩) u.length cap'] w (Ans w (binOut 3 v u)) := by
  have fin := hide (bin_ok (op := 3) hq (by decide))
  obtain ⟨hv, hu⟩ := both_zero hq
  have HG : Hid (∀ w1, Below w.heap.size w w1 → Calls Tryz.prog 38 #[.slice (some ⟨b, off, none⟩) v.length cap, .slice (some ⟨b', off', none⟩) u.length cap'] w1 (Ans w1 (binIn 3 v u))) := fun w1 B => by
    have := productOf_any v b off cap u b' off' cap' w1 hv hu (hrow.below B hb) (Nat.lt_of_lt_of_le hb B.size) hn hcap hok (hrow'.below B hb') (Nat.lt_of_lt_of_le hb' B.size) hn' hcap' hok'
    rw [show timesIn 3 v u = binIn 3 v u from (bin_t (op := 3) (by decide)).symm] at this
    exact this
  clear hv hu
  have OK := hide hok
  have OK' := hide hok'
  have B0 : ∀ o, Below w.heap.size w (w.alloc o) := fun o => (Below.refl _ _).alloc (Nat.le_refl _) o
  have HB0 := hide B0
  clear B0
  have HKF := hide (fun o => firstFaultV_any (some ⟨w.heap.size + 1, 0, none⟩) 2 [v, u] ((w.alloc o).alloc (.cells #[.slice (some ⟨b, off, none⟩) v.length cap, .slice (some ⟨b', off', none⟩) u.length cap'] 24)) (LV.two (w.alloc o) (w.heap.size + 1) b off cap b' off' cap' v u 24 (by simp) (hrow.below ((unhide HB0) _) hb) (by simp; omega) hcap (hrow'.below ((unhide HB0) _) hb') (by simp; omega) hcap') (by simp) (by simp) (len_two hn hn') (okS_two hok hok'))
  simp only [List.length_cons, List.length_nil, Nat.zero_add, firstBad_both] at HKF
  clear hok hok'
  rw [hq] at HKF
  clear hq
  generalize binIn 3 v u = R at *
  obtain ⟨rc, rl⟩ := R
  go_enter Tryz.func6, Tryz.ntmps6
  go_wp2_with fail
  refine ((unhide HKF) _).mono ?_
  rintro e1 w1 ⟨rfl, hb1⟩
  have hR : Own w1 w.heap.size 28 [.int .i64 0, .slice none 0 0] := Own.below (Own.alloc ⟨_, heap_alloc_new _ _, rfl⟩ _) hb1 (by simp; omega)
  have B1 : Below w.heap.size w w1 := (((unhide HB0) _).alloc (by simp) _).trans (hb1.mono (by simp; omega))
  clear hb1 HKF
  go_wp2_with fail
  refine (opTable_any _).mono ?_
  rintro e2 w2 ⟨rfl, hb2⟩
  have hR2 := hR.below hb2 hR.lt
  have B2 : Below w.heap.size w w2 := B1.trans (hb2.mono B1.size)
  clear hb2
  have htab := tab_3 w2
  go_wp2_with fail
  refine ((unhide HG) _ B2).mono ?_
  rintro ec wc ⟨sc, rfl, hrc, hbc⟩
  have hRc := hR2.below hbc hR2.lt
  have r0 := hRc.cell 0
  have r1 := hRc.cell 1
  have z0 := hRc.frozen 0
  have z1 := hRc.frozen 1
  simp only [List.getElem?_cons_zero, List.getElem?_cons_succ] at r0 r1
  have HE := hide (Ans.store hrc B2 hR2.lt hbc)
  obtain ⟨ac, mc, cc, rfl⟩ := hrc.shape
  clear hrc hbc
  go_wp2_with fail
  refine bodyPost_ret (v := .agg #[.int .i64 rc, .slice ac mc cc]) (by simp [results, Tryz.results6, go_sem, r0, r1]) rfl (ans_of (unhide fin) ((unhide HE) _ _).1 ((unhide HE) _ _).2)

set_option maxRecDepth 100000 in
set_option maxHeartbeats 4000000 in
theorem binImpl_4 (v : List M.Cl) (b off cap : Nat) (u : List M.Cl) (b' off' cap' : Nat) (w : World) (hq : bothOut v u = 0) (hrow : Row w b off v) (hb : b < w.heap.size) (hn : v.length ≤ 1048576) (hcap : v.length ≤ cap) (hok : ∀ c ∈ v, c.ok) (hrow' : Row w b' off' u) (hb' : b' < w.heap.size) (hn' : u.length ≤ 1048576) (hcap' : u.length ≤ cap') (hok' : ∀ c ∈ u, c.ok) :
    Calls Tryz.prog 6 #[.int .i64 4, .slice (some ⟨b, off, none⟩) v.length cap, .slice (some ⟨b', off', none⟩) u.length cap'] w (Ans w (binOut 4 v u)) := by
  have fin := hide (bin_ok (op := 4) hq (by decide))
  obtain ⟨hv, hu⟩ := both_zero hq
  have HG : Hid (∀ w1, Below w.heap.size w w1 → Calls Tryz.prog 39 #[.slice (some ⟨b, off, none⟩) v.length cap, .slice (some ⟨b', off', none⟩) u.length cap'] w1 (Ans w1 (binIn 4 v u))) := fun w1 B => by
    have := order2_any v b off cap u b' off' cap' w1 hv hu (hrow.below B hb) (Nat.lt_of_lt_of_le hb B.size) hn hcap hok (hrow'.below B hb') (Nat.lt_of_lt_of_le hb' B.size) hn' hcap' hok'
    rw [show (0, [boolCl ((cmpL v.length v u) == 0)]) = binIn 4 v u from (bin_o (op := 4) (by decide)).symm] at this
    exact this
  clear hv hu
  have OK := hide hok
  have OK' := hide hok'
  have B0 : ∀ o, Below w.heap.size w (w.alloc o) := fun o => (Below.refl _ _).alloc (Nat.le_refl _) o
  have HB0 := hide B0
  clear B0
  have HKF := hide (fun o => firstFaultV_any (some ⟨w.heap.size + 1, 0, none⟩) 2 [v, u] ((w.alloc o).alloc (.cells #[.slice (some ⟨b, off, none⟩) v.length cap, .slice (some ⟨b', off', none⟩) u.length cap'] 24)) (LV.two (w.alloc o) (w.heap.size + 1) b off cap b' off' cap' v u 24 (by simp) (hrow.below ((unhide HB0) _) hb) (by simp; omega) hcap (hrow'.below ((unhide HB0) _) hb') (by simp; omega) hcap') (by simp) (by simp) (len_two hn hn') (okS_two hok hok'))
  simp only [List.length_cons, List.length_nil, Nat.zero_add, firstBad_both] at HKF
  clear hok hok'
  rw [hq] at HKF
  clear hq
  generalize binIn 4 v u = R at *
  obtain ⟨rc, rl⟩ := R
  go_enter Tryz.func6, Tryz.ntmps6
  go_wp2_with fail
  refine ((unhide HKF) _).mono ?_
  rintro e1 w1 ⟨rfl, hb1⟩
  have hR : Own w1 w.heap.size 28 [.int .i64 0, .slice none 0 0] := Own.below (Own.alloc ⟨_, heap_alloc_new _ _, rfl⟩ _) hb1 (by simp; omega)
  have B1 : Below w.heap.size w w1 := (((unhide HB0) _).alloc (by simp) _).trans (hb1.mono (by simp; omega))
  clear hb1 HKF
  go_wp2_with fail
  refine (opTable_any _).mono ?_
  rintro e2 w2 ⟨rfl, hb2⟩
  have hR2 := hR.below hb2 hR.lt
  have B2 : Below w.heap.size w w2 := B1.trans (hb2.mono B1.size)
  clear hb2
  have htab := tab_4 w2
  go_wp2_with fail
  refine ((unhide HG) _ B2).mono ?_
  rintro ec wc ⟨sc, rfl, hrc, hbc⟩
  have hRc := hR2.below hbc hR2.lt
  have r0 := hRc.cell 0
  have r1 := hRc.cell 1
  have z0 := hRc.frozen 0
  have z1 := hRc.frozen 1
  simp only [List.getElem?_cons_zero, List.getElem?_cons_succ] at r0 r1
  have HE := hide (Ans.store hrc B2 hR2.lt hbc)
  obtain ⟨ac, mc, cc, rfl⟩ := hrc.shape
  clear hrc hbc
  go_wp2_with fail
  refine bodyPost_ret (v := .agg #[.int .i64 rc, .slice ac mc cc]) (by simp [results, Tryz.results6, go_sem, r0, r1]) rfl (ans_of (unhide fin) ((unhide HE) _ _).1 ((unhide HE) _ _).2)

set_option maxRecDepth 100000 in
set_option maxHeartbeats 4000000 in
theorem binImpl_5 (v : List M.Cl) (b off cap : Nat) (u : List M.Cl) (b' off' cap' : Nat) (w : World) (hq : bothOut v u = 0) (hrow : Row w b off v) (hb : b < w.heap.size) (hn : v.length ≤ 1048576) (hcap : v.length ≤ cap) (hok : ∀ c ∈ v, c.ok) (hrow' : Row w b' off' u) (hb' : b' < w.heap.size) (hn' : u.length ≤ 1048576) (hcap' : u.length ≤ cap') (hok' : ∀ c ∈ u, c.ok) :
    Calls Tryz.prog 6 #[.int .i64 5, .slice (some ⟨b, off, none⟩) v.length cap, .slice (some ⟨b', off', none⟩) u.length cap'] w (Ans w (binOut 5 v u)) := by
  have fin := hide (bin_ok (op := 5) hq (by decide))
  obtain ⟨hv, hu⟩ := both_zero hq
  have HG : Hid (∀ w1, Below w.heap.size w w1 → Calls Tryz.prog 42 #[.slice (some ⟨b, off, none⟩) v.length cap, .slice (some ⟨b', off', none⟩) u.length cap'] w1 (Ans w1 (binIn 5 v u))) := fun w1 B => by
    have := order3_any v b off cap u b' off' cap' w1 hv hu (hrow.below B hb) (Nat.lt_of_lt_of_le hb B.size) hn hcap hok (hrow'.below B hb') (Nat.lt_of_lt_of_le hb' B.size) hn' hcap' hok'
    rw [show (0, [boolCl ((cmpL v.length v u) != 0)]) = binIn 5 v u from (bin_o (op := 5) (by decide)).symm] at this
    exact this
  clear hv hu
  have OK := hide hok
  have OK' := hide hok'
  have B0 : ∀ o, Below w.heap.size w (w.alloc o) := fun o => (Below.refl _ _).alloc (Nat.le_refl _) o
  have HB0 := hide B0
  clear B0
  have HKF := hide (fun o => firstFaultV_any (some ⟨w.heap.size + 1, 0, none⟩) 2 [v, u] ((w.alloc o).alloc (.cells #[.slice (some ⟨b, off, none⟩) v.length cap, .slice (some ⟨b', off', none⟩) u.length cap'] 24)) (LV.two (w.alloc o) (w.heap.size + 1) b off cap b' off' cap' v u 24 (by simp) (hrow.below ((unhide HB0) _) hb) (by simp; omega) hcap (hrow'.below ((unhide HB0) _) hb') (by simp; omega) hcap') (by simp) (by simp) (len_two hn hn') (okS_two hok hok'))
  simp only [List.length_cons, List.length_nil, Nat.zero_add, firstBad_both] at HKF
  clear hok hok'
  rw [hq] at HKF
  clear hq
  generalize binIn 5 v u = R at *
  obtain ⟨rc, rl⟩ := R
  go_enter Tryz.func6, Tryz.ntmps6
  go_wp2_with fail
  refine ((unhide HKF) _).mono ?_
  rintro e1 w1 ⟨rfl, hb1⟩
  have hR : Own w1 w.heap.size 28 [.int .i64 0, .slice none 0 0] := Own.below (Own.alloc ⟨_, heap_alloc_new _ _, rfl⟩ _) hb1 (by simp; omega)
  have B1 : Below w.heap.size w w1 := (((unhide HB0) _).alloc (by simp) _).trans (hb1.mono (by simp; omega))
  clear hb1 HKF
  go_wp2_with fail
  refine (opTable_any _).mono ?_
  rintro e2 w2 ⟨rfl, hb2⟩
  have hR2 := hR.below hb2 hR.lt
  have B2 : Below w.heap.size w w2 := B1.trans (hb2.mono B1.size)
  clear hb2
  have htab := tab_5 w2
  go_wp2_with fail
  refine ((unhide HG) _ B2).mono ?_
  rintro ec wc ⟨sc, rfl, hrc, hbc⟩
  have hRc := hR2.below hbc hR2.lt
  have r0 := hRc.cell 0
  have r1 := hRc.cell 1
  have z0 := hRc.frozen 0
  have z1 := hRc.frozen 1
  simp only [List.getElem?_cons_zero, List.getElem?_cons_succ] at r0 r1
  have HE := hide (Ans.store hrc B2 hR2.lt hbc)
  obtain ⟨ac, mc, cc, rfl⟩ := hrc.shape
  clear hrc hbc
  go_wp2_with fail
  refine bodyPost_ret (v := .agg #[.int .i64 rc, .slice ac mc cc]) (by simp [results, Tryz.results6, go_sem, r0, r1]) rfl (ans_of (unhide fin) ((unhide HE) _ _).1 ((unhide HE) _ _).2)

set_option maxRecDepth 100000 in
set_option maxHeartbeats 4000000 in
theorem binImpl_6 (v : List M.Cl) (b off cap : Nat) (u : List M.Cl) (b' off' cap' : Nat) (w : World) (hq : bothOut v u = 0) (hrow : Row w b off v) (hb : b < w.heap.size) (hn : v.length ≤ 1048576) (hcap : v.length ≤ cap) (hok : ∀ c ∈ v, c.ok) (hrow' : Row w b' off' u) (hb' : b' < w.heap.size) (hn' : u.length ≤ 1048576) (hcap' : u.length ≤ cap') (hok' : ∀ c ∈ u, c.ok) :
    Calls Tryz.prog 6 #[.int .i64 6, .slice (some ⟨b, off, none⟩) v.length cap, .slice (some ⟨b', off', none⟩) u.length cap'] w (Ans w (binOut 6 v u)) := by
  have fin := hide (bin_ok (op := 6) hq (by decide))
  obtain ⟨hv, hu⟩ := both_zero hq
  have HG : Hid (∀ w1, Below w.heap.size w w1 → Calls Tryz.prog 43 #[.slice (some ⟨b, off, none⟩) v.length cap, .slice (some ⟨b', off', none⟩) u.length cap'] w1 (Ans w1 (binIn 6 v u))) := fun w1 B => by
    have := order4_any v b off cap u b' off' cap' w1 hv hu (hrow.below B hb) (Nat.lt_of_lt_of_le hb B.size) hn hcap hok (hrow'.below B hb') (Nat.lt_of_lt_of_le hb' B.size) hn' hcap' hok'
    rw [show (0, [boolCl (decide ((cmpL v.length v u) < 0))]) = binIn 6 v u from (bin_o (op := 6) (by decide)).symm] at this
    exact this
  clear hv hu
  have OK := hide hok
  have OK' := hide hok'
  have B0 : ∀ o, Below w.heap.size w (w.alloc o) := fun o => (Below.refl _ _).alloc (Nat.le_refl _) o
  have HB0 := hide B0
  clear B0
  have HKF := hide (fun o => firstFaultV_any (some ⟨w.heap.size + 1, 0, none⟩) 2 [v, u] ((w.alloc o).alloc (.cells #[.slice (some ⟨b, off, none⟩) v.length cap, .slice (some ⟨b', off', none⟩) u.length cap'] 24)) (LV.two (w.alloc o) (w.heap.size + 1) b off cap b' off' cap' v u 24 (by simp) (hrow.below ((unhide HB0) _) hb) (by simp; omega) hcap (hrow'.below ((unhide HB0) _) hb') (by simp; omega) hcap') (by simp) (by simp) (len_two hn hn') (okS_two hok hok'))
  simp only [List.length_cons, List.length_nil, Nat.zero_add, firstBad_both] at HKF
  clear hok hok'
  rw [hq] at HKF
  clear hq
  generalize binIn 6 v u = R at *
  obtain ⟨rc, rl⟩ := R
  go_enter Tryz.func6, Tryz.ntmps6
  go_wp2_with fail
  refine ((unhide HKF) _).mono ?_
  rintro e1 w1 ⟨rfl, hb1⟩
  have hR : Own w1 w.heap.size 28 [.int .i64 0, .slice none 0 0] := Own.below (Own.alloc ⟨_, heap_alloc_new _ _, rfl⟩ _) hb1 (by simp; omega)
  have B1 : Below w.heap.size w w1 := (((unhide HB0) _).alloc (by simp) _).trans (hb1.mono (by simp; omega))
  clear hb1 HKF
  go_wp2_with fail
  refine (opTable_any _).mono ?_
  rintro e2 w2 ⟨rfl, hb2⟩
  have hR2 := hR.below hb2 hR.lt
  have B2 : Below w.heap.size w w2 := B1.trans (hb2.mono B1.size)
  clear hb2
  have htab := tab_6 w2
  go_wp2_with fail
  refine ((unhide HG) _ B2).mono ?_
  rintro ec wc ⟨sc, rfl, hrc, hbc⟩
  have hRc := hR2.below hbc hR2.lt
  have r0 := hRc.cell 0
  have r1 := hRc.cell 1
  have z0 := hRc.frozen 0
  have z1 := hRc.frozen 1
  simp only [List.getElem?_cons_zero, List.getElem?_cons_succ] at r0 r1
  have HE := hide (Ans.store hrc B2 hR2.lt hbc)
  obtain ⟨ac, mc, cc, rfl⟩ := hrc.shape
  clear hrc hbc
  go_wp2_with fail
  refine bodyPost_ret (v := .agg #[.int .i64 rc, .slice ac mc cc]) (by simp [results, Tryz.results6, go_sem, r0, r1]) rfl (ans_of (unhide fin) ((unhide HE) _ _).1 ((unhide HE) _ _).2)

set_option maxRecDepth 100000 in
set_option maxHeartbeats 4000000 in
theorem binImpl_7 (v : List M.Cl) (b off cap : Nat) (u : List M.Cl) (b' off' cap' : Nat) (w : World) (hq : bothOut v u = 0) (hrow : Row w b off v) (hb : b < w.heap.size) (hn : v.length ≤ 1048576) (hcap : v.length ≤ cap) (hok : ∀ c ∈ v, c.ok) (hrow' : Row w b' off' u) (hb' : b' < w.heap.size) (hn' : u.length ≤ 1048576) (hcap' : u.length ≤ cap') (hok' : ∀ c ∈ u, c.ok) :
    Calls Tryz.prog 6 #[.int .i64 7, .slice (some ⟨b, off, none⟩) v.length cap, .slice (some ⟨b', off', none⟩) u.length cap'] w (Ans w (binOut 7 v u)) := by
  have fin := hide (bin_ok (op := 7) hq (by decide))
  obtain ⟨hv, hu⟩ := both_zero hq
  have HG : Hid (∀ w1, Below w.heap.size w w1 → Calls Tryz.prog 44 #[.slice (some ⟨b, off, none⟩) v.length cap, .slice (some ⟨b', off', none⟩) u.length cap'] w1 (Ans w1 (binIn 7 v u))) := fun w1 B => by
    have := order5_any v b off cap u b' off' cap' w1 hv hu (hrow.below B hb) (Nat.lt_of_lt_of_le hb B.size) hn hcap hok (hrow'.below B hb') (Nat.lt_of_lt_of_le hb' B.size) hn' hcap' hok'
    rw [show (0, [boolCl (decide ((cmpL v.length v u) ≤ 0))]) = binIn 7 v u from (bin_o (op := 7) (by decide)).symm] at this
    exact this
  clear hv hu
  have OK := hide hok
  have OK' := hide hok'
  have B0 : ∀ o, Below w.heap.size w (w.alloc o) := fun o => (Below.refl _ _).alloc (Nat.le_refl _) o
  have HB0 := hide B0
  clear B0
  have HKF := hide (fun o => firstFaultV_any (some ⟨w.heap.size + 1, 0, none⟩) 2 [v, u] ((w.alloc o).alloc (.cells #[.slice (some ⟨b, off, none⟩) v.length cap, .slice (some ⟨b', off', none⟩) u.length cap'] 24)) (LV.two (w.alloc o) (w.heap.size + 1) b off cap b' off' cap' v u 24 (by simp) (hrow.below ((unhide HB0) _) hb) (by simp; omega) hcap (hrow'.below ((unhide HB0) _) hb') (by simp; omega) hcap') (by simp) (by simp) (len_two hn hn') (okS_two hok hok'))
  simp only [List.length_cons, List.length_nil, Nat.zero_add, firstBad_both] at HKF
  clear hok hok'
  rw [hq] at HKF
  clear hq
  generalize binIn 7 v u = R at *
  obtain ⟨rc, rl⟩ := R
  go_enter Tryz.func6, Tryz.ntmps6
  go_wp2_with fail
  refine ((unhide HKF) _).mono ?_
  rintro e1 w1 ⟨rfl, hb1⟩
  have hR : Own w1 w.heap.size 28 [.int .i64 0, .slice none 0 0] := Own.below (Own.alloc ⟨_, heap_alloc_new _ _, rfl⟩ _) hb1 (by simp; omega)
  have B1 : Below w.heap.size w w1 := (((unhide HB0) _).alloc (by simp) _).trans (hb1.mono (by simp; omega))
  clear hb1 HKF
  go_wp2_with fail
  refine (opTable_any _).mono ?_
  rintro e2 w2 ⟨rfl, hb2⟩
  have hR2 := hR.below hb2 hR.lt
  have B2 : Below w.heap.size w w2 := B1.trans (hb2.mono B1.size)
  clear hb2
  have htab := tab_7 w2
  go_wp2_with fail
  refine ((unhide HG) _ B2).mono ?_
  rintro ec wc ⟨sc, rfl, hrc, hbc⟩
  have hRc := hR2.below hbc hR2.lt
  have r0 := hRc.cell 0
  have r1 := hRc.cell 1
  have z0 := hRc.frozen 0
  have z1 := hRc.frozen 1
  simp only [List.getElem?_cons_zero, List.getElem?_cons_succ] at r0 r1
  have HE := hide (Ans.store hrc B2 hR2.lt hbc)
  obtain ⟨ac, mc, cc, rfl⟩ := hrc.shape
  clear hrc hbc
  go_wp2_with fail
  refine bodyPost_ret (v := .agg #[.int .i64 rc, .slice ac mc cc]) (by simp [results, Tryz.results6, go_sem, r0, r1]) rfl (ans_of (unhide fin) ((unhide HE) _ _).1 ((unhide HE) _ _).2)

set_option maxRecDepth 100000 in
set_option maxHeartbeats 4000000 in
theorem binImpl_8 (v : List M.Cl) (b off cap : Nat) (u : List M.Cl) (b' off' cap' : Nat) (w : World) (hq : bothOut v u = 0) (hrow : Row w b off v) (hb : b < w.heap.size) (hn : v.length ≤ 1048576) (hcap : v.length ≤ cap) (hok : ∀ c ∈ v, c.ok) (hrow' : Row w b' off' u) (hb' : b' < w.heap.size) (hn' : u.length ≤ 1048576) (hcap' : u.length ≤ cap') (hok' : ∀ c ∈ u, c.ok) :
    Calls Tryz.prog 6 #[.int .i64 8, .slice (some ⟨b, off, none⟩) v.length cap, .slice (some ⟨b', off', none⟩) u.length cap'] w (Ans w (binOut 8 v u)) := by
  have fin := hide (bin_ok (op := 8) hq (by decide))
  obtain ⟨hv, hu⟩ := both_zero hq
  have HG : Hid (∀ w1, Below w.heap.size w w1 → Calls Tryz.prog 45 #[.slice (some ⟨b, off, none⟩) v.length cap, .slice (some ⟨b', off', none⟩) u.length cap'] w1 (Ans w1 (binIn 8 v u))) := fun w1 B => by
    have := order6_any v b off cap u b' off' cap' w1 hv hu (hrow.below B hb) (Nat.lt_of_lt_of_le hb B.size) hn hcap hok (hrow'.below B hb') (Nat.lt_of_lt_of_le hb' B.size) hn' hcap' hok'
    rw [show (0, [boolCl (decide ((cmpL v.length v u) > 0))]) = binIn 8 v u from (bin_o (op := 8) (by decide)).symm] at this
    exact this
  clear hv hu
  have OK := hide hok
  have OK' := hide hok'
  have B0 : ∀ o, Below w.heap.size w (w.alloc o) := fun o => (Below.refl _ _).alloc (Nat.le_refl _) o
  have HB0 := hide B0
  clear B0
  have HKF := hide (fun o => firstFaultV_any (some ⟨w.heap.size + 1, 0, none⟩) 2 [v, u] ((w.alloc o).alloc (.cells #[.slice (some ⟨b, off, none⟩) v.length cap, .slice (some ⟨b', off', none⟩) u.length cap'] 24)) (LV.two (w.alloc o) (w.heap.size + 1) b off cap b' off' cap' v u 24 (by simp) (hrow.below ((unhide HB0) _) hb) (by simp; omega) hcap (hrow'.below ((unhide HB0) _) hb') (by simp; omega) hcap') (by simp) (by simp) (len_two hn hn') (okS_two hok hok'))
  simp only [List.length_cons, List.length_nil, Nat.zero_add, firstBad_both] at HKF
  clear hok hok'
  rw [hq] at HKF
  clear hq
  generalize binIn 8 v u = R at *
  obtain ⟨rc, rl⟩ := R
  go_enter Tryz.func6, Tryz.ntmps6
  go_wp2_with fail
  refine ((unhide HKF) _).mono ?_
  rintro e1 w1 ⟨rfl, hb1⟩
  have hR : Own w1 w.heap.size 28 [.int .i64 0, .slice none 0 0] := Own.below (Own.alloc ⟨_, heap_alloc_new _ _, rfl⟩ _) hb1 (by simp; omega)
  have B1 : Below w.heap.size w w1 := (((unhide HB0) _).alloc (by simp) _).trans (hb1.mono (by simp; omega))
  clear hb1 HKF
  go_wp2_with fail
  refine (opTable_any _).mono ?_
  rintro e2 w2 ⟨rfl, hb2⟩
  have hR2 := hR.below hb2 hR.lt
  have B2 : Below w.heap.size w w2 := B1.trans (hb2.mono B1.size)
  clear hb2
  have htab := tab_8 w2
  go_wp2_with fail
  refine ((unhide HG) _ B2).mono ?_
  rintro ec wc ⟨sc, rfl, hrc, hbc⟩
  have hRc := hR2.below hbc hR2.lt
  have r0 := hRc.cell 0
  have r1 := hRc.cell 1
  have z0 := hRc.frozen 0
  have z1 := hRc.frozen 1
  simp only [List.getElem?_cons_zero, List.getElem?_cons_succ] at r0 r1
  have HE := hide (Ans.store hrc B2 hR2.lt hbc)
  obtain ⟨ac, mc, cc, rfl⟩ := hrc.shape
  clear hrc hbc
  go_wp2_with fail
  refine bodyPost_ret (v := .agg #[.int .i64 rc, .slice ac mc cc]) (by simp [results, Tryz.results6, go_sem, r0, r1]) rfl (ans_of (unhide fin) ((unhide HE) _ _).1 ((unhide HE) _ _).2)

set_option maxRecDepth 100000 in
set_option maxHeartbeats 4000000 in
theorem binImpl_9 (v : List M.Cl) (b off cap : Nat) (u : List M.Cl) (b' off' cap' : Nat) (w : World) (hq : bothOut v u = 0) (hrow : Row w b off v) (hb : b < w.heap.size) (hn : v.length ≤ 1048576) (hcap : v.length ≤ cap) (hok : ∀ c ∈ v, c.ok) (hrow' : Row w b' off' u) (hb' : b' < w.heap.size) (hn' : u.length ≤ 1048576) (hcap' : u.length ≤ cap') (hok' : ∀ c ∈ u, c.ok) :
    Calls Tryz.prog 6 #[.int .i64 9, .slice (some ⟨b, off, none⟩) v.length cap, .slice (some ⟨b', off', none⟩) u.length cap'] w (Ans w (binOut 9 v u)) := by
  have fin := hide (bin_ok (op := 9) hq (by decide))
  obtain ⟨hv, hu⟩ := both_zero hq
  have HG : Hid (∀ w1, Below w.heap.size w w1 → Calls Tryz.prog 46 #[.slice (some ⟨b, off, none⟩) v.length cap, .slice (some ⟨b', off', none⟩) u.length cap'] w1 (Ans w1 (binIn 9 v u))) := fun w1 B => by
    have := order7_any v b off cap u b' off' cap' w1 hv hu (hrow.below B hb) (Nat.lt_of_lt_of_le hb B.size) hn hcap hok (hrow'.below B hb') (Nat.lt_of_lt_of_le hb' B.size) hn' hcap' hok'
    rw [show (0, [boolCl (decide ((cmpL v.length v u) ≥ 0))]) = binIn 9 v u from (bin_o (op := 9) (by decide)).symm] at this
    exact this
  clear hv hu
  have OK := hide hok
  have OK' := hide hok'
  have B0 : ∀ o, Below w.heap.size w (w.alloc o) := fun o => (Below.refl _ _).alloc (Nat.le_refl _) o
  have HB0 := hide B0
  clear B0
  have HKF := hide (fun o => firstFaultV_any (some ⟨w.heap.size + 1, 0, none⟩) 2 [v, u] ((w.alloc o).alloc (.cells #[.slice (some ⟨b, off, none⟩) v.length cap, .slice (some ⟨b', off', none⟩) u.length cap'] 24)) (LV.two (w.alloc o) (w.heap.size + 1) b off cap b' off' cap' v u 24 (by simp) (hrow.below ((unhide HB0) _) hb) (by simp; omega) hcap (hrow'.below ((unhide HB0) _) hb') (by simp; omega) hcap') (by simp) (by simp) (len_two hn hn') (okS_two hok hok'))
  simp only [List.length_cons, List.length_nil, Nat.zero_add, firstBad_both] at HKF
  clear hok hok'
  rw [hq] at HKF
  clear hq
  generalize binIn 9 v u = R at *
  obtain ⟨rc, rl⟩ := R
  go_enter Tryz.func6, Tryz.ntmps6
  go_wp2_with fail
  refine ((unhide HKF) _).mono ?_
  rintro e1 w1 ⟨rfl, hb1⟩
  have hR : Own w1 w.heap.size 28 [.int .i64 0, .slice none 0 0] := Own.below (Own.alloc ⟨_, heap_alloc_new _ _, rfl⟩ _) hb1 (by simp; omega)
  have B1 : Below w.heap.size w w1 := (((unhide HB0) _).alloc (by simp) _).trans (hb1.mono (by simp; omega))
  clear hb1 HKF
  go_wp2_with fail
  refine (opTable_any _).mono ?_
  rintro e2 w2 ⟨rfl, hb2⟩
  have hR2 := hR.below hb2 hR.lt
  have B2 : Below w.heap.size w w2 := B1.trans (hb2.mono B1.size)
  clear hb2
  have htab := tab_9 w2
  go_wp2_with fail
  refine ((unhide HG) _ B2).mono ?_
  rintro ec wc ⟨sc, rfl, hrc, hbc⟩
  have hRc := hR2.below hbc hR2.lt
  have r0 := hRc.cell 0
  have r1 := hRc.cell 1
  have z0 := hRc.frozen 0
  have z1 := hRc.frozen 1
  simp only [List.getElem?_cons_zero, List.getElem?_cons_succ] at r0 r1
  have HE := hide (Ans.store hrc B2 hR2.lt hbc)
  obtain ⟨ac, mc, cc, rfl⟩ := hrc.shape
  clear hrc hbc
  go_wp2_with fail
  refine bodyPost_ret (v := .agg #[.int .i64 rc, .slice ac mc cc]) (by simp [results, Tryz.results6, go_sem, r0, r1]) rfl (ans_of (unhide fin) ((unhide HE) _ _).1 ((unhide HE) _ _).2)

set_option maxRecDepth 100000 in
set_option maxHeartbeats 4000000 in
theorem binImpl_10 (v : List M.Cl) (b off cap : Nat) (u : List M.Cl) (b' off' cap' : Nat) (w : World) (hq : bothOut v u = 0) (hrow : Row w b off v) (hb : b < w.heap.size) (hn : v.length ≤ 1048576) (hcap : v.length ≤ cap) (hok : ∀ c ∈ v, c.ok) (hrow' : Row w b' off' u) (hb' : b' < w.heap.size) (hn' : u.length ≤ 1048576) (hcap' : u.length ≤ cap') (hok' : ∀ c ∈ u, c.ok) :
    Calls Tryz.prog 6 #[.int .i64 10, .slice (some ⟨b, off, none⟩) v.length cap, .slice (some ⟨b', off', none⟩) u.length cap'] w (Ans w (binOut 10 v u)) := by
  have fin := hide (bin_ok (op := 10) hq (by decide))
  obtain ⟨hv, hu⟩ := both_zero hq
  have HG : Hid (∀ w1, Below w.heap.size w w1 → Calls Tryz.prog 47 #[.slice (some ⟨b, off, none⟩) v.length cap, .slice (some ⟨b', off', none⟩) u.length cap'] w1 (Ans w1 (binIn 10 v u))) := fun w1 B => by
    have := quotientOf_any v b off cap u b' off' cap' w1 hv hu (hrow.below B hb) (Nat.lt_of_lt_of_le hb B.size) hn hcap hok (hrow'.below B hb') (Nat.lt_of_lt_of_le hb' B.size) hn' hcap' hok'
    rw [show timesIn 10 v u = binIn 10 v u from (bin_t (op := 10) (by decide)).symm] at this
    exact this
  clear hv hu
  have OK := hide hok
  have OK' := hide hok'
  have B0 : ∀ o, Below w.heap.size w (w.alloc o) := fun o => (Below.refl _ _).alloc (Nat.le_refl _) o
  have HB0 := hide B0
  clear B0
  have HKF := hide (fun o => firstFaultV_any (some ⟨w.heap.size + 1, 0, none⟩) 2 [v, u] ((w.alloc o).alloc (.cells #[.slice (some ⟨b, off, none⟩) v.length cap, .slice (some ⟨b', off', none⟩) u.length cap'] 24)) (LV.two (w.alloc o) (w.heap.size + 1) b off cap b' off' cap' v u 24 (by simp) (hrow.below ((unhide HB0) _) hb) (by simp; omega) hcap (hrow'.below ((unhide HB0) _) hb') (by simp; omega) hcap') (by simp) (by simp) (len_two hn hn') (okS_two hok hok'))
  simp only [List.length_cons, List.length_nil, Nat.zero_add, firstBad_both] at HKF
  clear hok hok'
  rw [hq] at HKF
  clear hq
  generalize binIn 10 v u = R at *
  obtain ⟨rc, rl⟩ := R
  go_enter Tryz.func6, Tryz.ntmps6
  go_wp2_with fail
  refine ((unhide HKF) _).mono ?_
  rintro e1 w1 ⟨rfl, hb1⟩
  have hR : Own w1 w.heap.size 28 [.int .i64 0, .slice none 0 0] := Own.below (Own.alloc ⟨_, heap_alloc_new _ _, rfl⟩ _) hb1 (by simp; omega)
  have B1 : Below w.heap.size w w1 := (((unhide HB0) _).alloc (by simp) _).trans (hb1.mono (by simp; omega))
  clear hb1 HKF
  go_wp2_with fail
  refine (opTable_any _).mono ?_
  rintro e2 w2 ⟨rfl, hb2⟩
  have hR2 := hR.below hb2 hR.lt
  have B2 : Below w.heap.size w w2 := B1.trans (hb2.mono B1.size)
  clear hb2
  have htab := tab_10 w2
  go_wp2_with fail
  refine ((unhide HG) _ B2).mono ?_
  rintro ec wc ⟨sc, rfl, hrc, hbc⟩
  have hRc := hR2.below hbc hR2.lt
  have r0 := hRc.cell 0
  have r1 := hRc.cell 1
  have z0 := hRc.frozen 0
  have z1 := hRc.frozen 1
  simp only [List.getElem?_cons_zero, List.getElem?_cons_succ] at r0 r1
  have HE := hide (Ans.store hrc B2 hR2.lt hbc)
  obtain ⟨ac, mc, cc, rfl⟩ := hrc.shape
  clear hrc hbc
  go_wp2_with fail
  refine bodyPost_ret (v := .agg #[.int .i64 rc, .slice ac mc cc]) (by simp [results, Tryz.results6, go_sem, r0, r1]) rfl (ans_of (unhide fin) ((unhide HE) _ _).1 ((unhide HE) _ _).2)

set_option maxRecDepth 100000 in
set_option maxHeartbeats 4000000 in
theorem binImpl_11 (v : List M.Cl) (b off cap : Nat) (u : List M.Cl) (b' off' cap' : Nat) (w : World) (hq : bothOut v u = 0) (hrow : Row w b off v) (hb : b < w.heap.size) (hn : v.length ≤ 1048576) (hcap : v.length ≤ cap) (hok : ∀ c ∈ v, c.ok) (hrow' : Row w b' off' u) (hb' : b' < w.heap.size) (hn' : u.length ≤ 1048576) (hcap' : u.length ≤ cap') (hok' : ∀ c ∈ u, c.ok) :
    Calls Tryz.prog 6 #[.int .i64 11, .slice (some ⟨b, off, none⟩) v.length cap, .slice (some ⟨b', off', none⟩) u.length cap'] w (Ans w (binOut 11 v u)) := by
  have fin := hide (bin_ok (op := 11) hq (by decide))
  obtain ⟨hv, hu⟩ := both_zero hq
  have HG : Hid (∀ w1, Below w.heap.size w w1 → Calls Tryz.prog 48 #[.slice (some ⟨b, off, none⟩) v.length cap, .slice (some ⟨b', off', none⟩) u.length cap'] w1 (Ans w1 (binIn 11 v u))) := fun w1 B => by
    have := remainderOf_any v b off cap u b' off' cap' w1 hv hu (hrow.below B hb) (Nat.lt_of_lt_of_le hb B.size) hn hcap hok (hrow'.below B hb') (Nat.lt_of_lt_of_le hb' B.size) hn' hcap' hok'
    rw [show timesIn 11 v u = binIn 11 v u from (bin_t (op := 11) (by decide)).symm] at this
    exact this
  clear hv hu
  have OK := hide hok
  have OK' := hide hok'
  have B0 : ∀ o, Below w.heap.size w (w.alloc o) := fun o => (Below.refl _ _).alloc (Nat.le_refl _) o
  have HB0 := hide B0
  clear B0
  have HKF := hide (fun o => firstFaultV_any (some ⟨w.heap.size + 1, 0, none⟩) 2 [v, u] ((w.alloc o).alloc (.cells #[.slice (some ⟨b, off, none⟩) v.length cap, .slice (some ⟨b', off', none⟩) u.length cap'] 24)) (LV.two (w.alloc o) (w.heap.size + 1) b off cap b' off' cap' v u 24 (by simp) (hrow.below ((unhide HB0) _) hb) (by simp; omega) hcap (hrow'.below ((unhide HB0) _) hb') (by simp; omega) hcap') (by simp) (by simp) (len_two hn hn') (okS_two hok hok'))
  simp only [List.length_cons, List.length_nil, Nat.zero_add, firstBad_both] at HKF
  clear hok hok'
  rw [hq] at HKF
  clear hq
  generalize binIn 11 v u = R at *
  obtain ⟨rc, rl⟩ := R
  go_enter Tryz.func6, Tryz.ntmps6
  go_wp2_with fail
  refine ((unhide HKF) _).mono ?_
  rintro e1 w1 ⟨rfl, hb1⟩
  have hR : Own w1 w.heap.size 28 [.int .i64 0, .slice none 0 0] := Own.below (Own.alloc ⟨_, heap_alloc_new _ _, rfl⟩ _) hb1 (by simp; omega)
  have B1 : Below w.heap.size w w1 := (((unhide HB0) _).alloc (by simp) _).trans (hb1.mono (by simp; omega))
  clear hb1 HKF
  go_wp2_with fail
  refine (opTable_any _).mono ?_
  rintro e2 w2 ⟨rfl, hb2⟩
  have hR2 := hR.below hb2 hR.lt
  have B2 : Below w.heap.size w w2 := B1.trans (hb2.mono B1.size)
  clear hb2
  have htab := tab_11 w2
  go_wp2_with fail
  refine ((unhide HG) _ B2).mono ?_
  rintro ec wc ⟨sc, rfl, hrc, hbc⟩
  have hRc := hR2.below hbc hR2.lt
  have r0 := hRc.cell 0
  have r1 := hRc.cell 1
  have z0 := hRc.frozen 0
  have z1 := hRc.frozen 1
  simp only [List.getElem?_cons_zero, List.getElem?_cons_succ] at r0 r1
  have HE := hide (Ans.store hrc B2 hR2.lt hbc)
  obtain ⟨ac, mc, cc, rfl⟩ := hrc.shape
  clear hrc hbc
  go_wp2_with fail
  refine bodyPost_ret (v := .agg #[.int .i64 rc, .slice ac mc cc]) (by simp [results, Tryz.results6, go_sem, r0, r1]) rfl (ans_of (unhide fin) ((unhide HE) _ _).1 ((unhide HE) _ _).2)

set_option maxRecDepth 100000 in
set_option maxHeartbeats 2000000 in
theorem implBinary_any (op : Int) (v : List M.Cl) (b off cap : Nat) (u : List M.Cl) (b' off' cap' : Nat) (w : World) (hrow : Row w b off v) (hb : b < w.heap.size) (hn : v.length ≤ 1048576) (hcap : v.length ≤ cap) (hok : ∀ c ∈ v, c.ok) (hrow' : Row w b' off' u) (hb' : b' < w.heap.size) (hn' : u.length ≤ 1048576) (hcap' : u.length ≤ cap') (hok' : ∀ c ∈ u, c.ok) :
    Calls Tryz.prog 6 #[.int .i64 op, .slice (some ⟨b, off, none⟩) v.length cap, .slice (some ⟨b', off', none⟩) u.length cap'] w (Ans w (binOut op v u)) := by
  by_cases hq : bothOut v u = 0
  · by_cases ho : 1 ≤ op ∧ op ≤ 11
    · obtain ⟨h1, h2⟩ := ho
      by_cases e1 : op = 1
      · subst e1; exact binImpl_1 v b off cap u b' off' cap' w hq hrow hb hn hcap hok hrow' hb' hn' hcap' hok'
      by_cases e2 : op = 2
      · subst e2; exact binImpl_2 v b off cap u b' off' cap' w hq hrow hb hn hcap hok hrow' hb' hn' hcap' hok'
      by_cases e3 : op = 3
      · subst e3; exact binImpl_3 v b off cap u b' off' cap' w hq hrow hb hn hcap hok hrow' hb' hn' hcap' hok'
      by_cases e4 : op = 4
      · subst e4; exact binImpl_4 v b off cap u b' off' cap' w hq hrow hb hn hcap hok hrow' hb' hn' hcap' hok'
      by_cases e5 : op = 5
      · subst e5; exact binImpl_5 v b off cap u b' off' cap' w hq hrow hb hn hcap hok hrow' hb' hn' hcap' hok'
      by_cases e6 : op = 6
      · subst e6; exact binImpl_6 v b off cap u b' off' cap' w hq hrow hb hn hcap hok hrow' hb' hn' hcap' hok'
      by_cases e7 : op = 7
      · subst e7; exact binImpl_7 v b off cap u b' off' cap' w hq hrow hb hn hcap hok hrow' hb' hn' hcap' hok'
      by_cases e8 : op = 8
      · subst e8; exact binImpl_8 v b off cap u b' off' cap' w hq hrow hb hn hcap hok hrow' hb' hn' hcap' hok'
      by_cases e9 : op = 9
      · subst e9; exact binImpl_9 v b off cap u b' off' cap' w hq hrow hb hn hcap hok hrow' hb' hn' hcap' hok'
      by_cases e10 : op = 10
      · subst e10; exact binImpl_10 v b off cap u b' off' cap' w hq hrow hb hn hcap hok hrow' hb' hn' hcap' hok'
      by_cases e11 : op = 11
      · subst e11; exact binImpl_11 v b off cap u b' off' cap' w hq hrow hb hn hcap hok hrow' hb' hn' hcap' hok'
      omega
    · have fin := hide (bin_form (op := op) hq ho)
      have OK := hide hok
      have OK' := hide hok'
      have B0 : ∀ o, Below w.heap.size w (w.alloc o) := fun o => (Below.refl _ _).alloc (Nat.le_refl _) o
      have HB0 := hide B0
      clear B0
      have HKF := hide (fun o => firstFaultV_any (some ⟨w.heap.size + 1, 0, none⟩) 2 [v, u] ((w.alloc o).alloc (.cells #[.slice (some ⟨b, off, none⟩) v.length cap, .slice (some ⟨b', off', none⟩) u.length cap'] 24)) (LV.two (w.alloc o) (w.heap.size + 1) b off cap b' off' cap' v u 24 (by simp) (hrow.below ((unhide HB0) _) hb) (by simp; omega) hcap (hrow'.below ((unhide HB0) _) hb') (by simp; omega) hcap') (by simp) (by simp) (len_two hn hn') (okS_two hok hok'))
      simp only [List.length_cons, List.length_nil, Nat.zero_add, firstBad_both] at HKF
      clear hok hok'
      rw [hq] at HKF
      clear hq
      have ho2 : op < 1 ∨ 11 < op := by omega
      clear ho
      rcases ho2 with ho | ho
      · skip
        go_enter Tryz.func6, Tryz.ntmps6
        go_wp2_with fail
        refine ((unhide HKF) _).mono ?_
        rintro e1 w1 ⟨rfl, hb1⟩
        have hR : Own w1 w.heap.size 28 [.int .i64 0, .slice none 0 0] := Own.below (Own.alloc ⟨_, heap_alloc_new _ _, rfl⟩ _) hb1 (by simp; omega)
        have B1 : Below w.heap.size w w1 := (((unhide HB0) _).alloc (by simp) _).trans (hb1.mono (by simp; omega))
        clear hb1 HKF
        have r0 := hR.cell 0
        have r1 := hR.cell 1
        have z0 := hR.frozen 0
        have z1 := hR.frozen 1
        simp only [List.getElem?_cons_zero, List.getElem?_cons_succ] at r0 r1
        go_wp2_with fail
        refine bodyPost_ret (v := .agg #[.int .i64 1, .slice none 0 0]) (by simp [results, Tryz.results6, go_sem, r0, r1]) rfl (ans_of (unhide fin) (resNil _ _) (store_below B1 _ _))
      · have ho3 : ¬ op < 1 := by omega
        go_enter Tryz.func6, Tryz.ntmps6
        go_wp2_with fail
        refine ((unhide HKF) _).mono ?_
        rintro e1 w1 ⟨rfl, hb1⟩
        have hR : Own w1 w.heap.size 28 [.int .i64 0, .slice none 0 0] := Own.below (Own.alloc ⟨_, heap_alloc_new _ _, rfl⟩ _) hb1 (by simp; omega)
        have B1 : Below w.heap.size w w1 := (((unhide HB0) _).alloc (by simp) _).trans (hb1.mono (by simp; omega))
        clear hb1 HKF
        have r0 := hR.cell 0
        have r1 := hR.cell 1
        have z0 := hR.frozen 0
        have z1 := hR.frozen 1
        simp only [List.getElem?_cons_zero, List.getElem?_cons_succ] at r0 r1
        go_wp2_with fail
        refine bodyPost_ret (v := .agg #[.int .i64 1, .slice none 0 0]) (by simp [results, Tryz.results6, go_sem, r0, r1]) rfl (ans_of (unhide fin) (resNil _ _) (store_below B1 _ _))
  · have fin := hide (bin_bad (op := op) hq)
    have OK := hide hok
    have OK' := hide hok'
    have B0 : ∀ o, Below w.heap.size w (w.alloc o) := fun o => (Below.refl _ _).alloc (Nat.le_refl _) o
    have HB0 := hide B0
    clear B0
    have HKF := hide (fun o => firstFaultV_any (some ⟨w.heap.size + 1, 0, none⟩) 2 [v, u] ((w.alloc o).alloc (.cells #[.slice (some ⟨b, off, none⟩) v.length cap, .slice (some ⟨b', off', none⟩) u.length cap'] 24)) (LV.two (w.alloc o) (w.heap.size + 1) b off cap b' off' cap' v u 24 (by simp) (hrow.below ((unhide HB0) _) hb) (by simp; omega) hcap (hrow'.below ((unhide HB0) _) hb') (by simp; omega) hcap') (by simp) (by simp) (len_two hn hn') (okS_two hok hok'))
    simp only [List.length_cons, List.length_nil, Nat.zero_add, firstBad_both] at HKF
    clear hok hok'
    generalize bothOut v u = q at *
    have hz' : (q == 0) = false := by simp [hq]
    go_enter Tryz.func6, Tryz.ntmps6
    go_wp2_with fail
    refine ((unhide HKF) _).mono ?_
    rintro e1 w1 ⟨rfl, hb1⟩
    have hR : Own w1 w.heap.size 28 [.int .i64 0, .slice none 0 0] := Own.below (Own.alloc ⟨_, heap_alloc_new _ _, rfl⟩ _) hb1 (by simp; omega)
    have B1 : Below w.heap.size w w1 := (((unhide HB0) _).alloc (by simp) _).trans (hb1.mono (by simp; omega))
    clear hb1 HKF
    have r0 := hR.cell 0
    have r1 := hR.cell 1
    have z0 := hR.frozen 0
    have z1 := hR.frozen 1
    simp only [List.getElem?_cons_zero, List.getElem?_cons_succ] at r0 r1
    clear hq
    go_wp2_with fail
    refine bodyPost_ret (v := .agg #[.int .i64 q, .slice none 0 0]) (by simp [results, Tryz.results6, go_sem, r0, r1]) rfl (ans_of (unhide fin) (resNil _ _) (store_below B1 _ _))

end Go.Proofs.YtemehbjlfiebdaaGreat
