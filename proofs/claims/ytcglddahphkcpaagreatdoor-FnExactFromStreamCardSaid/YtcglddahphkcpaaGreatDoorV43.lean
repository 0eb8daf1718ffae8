/-
  impl.appendEvents: the events of a value are laid behind others.
-/
import Derived.Test.YtcglddahphkcpaaGreatDoorV39
import Derived.Test.YtcglddahphkcpaaGreatDoorV42
namespace Go.Proofs.YtcglddahphkcpaaGreatDoor
open Go.RowKit
set_option linter.unusedVariables false
set_option linter.unusedSimpArgs false
namespace Al
/-- What appendEvents says. -/
def EvSays (f : Nat) : Prop := ∀ (v : List M.Cl) (b off cap a : Nat) (ahead : List M.Cl) (sv : Value) (base : Nat) (ev : Value) (bad : Nat → Prop) (L : List (List M.Cl)) (w : World) (hv : M.valueFault v = 0) (ha : a < v.length) (hf : (part v a).length ≤ f) (hrow : Row w b off v) (hb : b < base) (hbw : base ≤ w.heap.size) (hcap : v.length ≤ cap)
    (h : Sp w base ev L bad) (hs : w.ownsRow base 111 5 sv ahead.length (flat ahead)) (hbad : ∀ g, bad g → g < w.heap.size) (hsv : ∀ g, sv.ownBlock = some g → bad g) (hst : ∀ c ∈ ahead, Pth.Stp c) (hsz : ahead.length + (part v a).length ≤ 200) (hL : L.length + (part v a).length ≤ 1000),
    Calls Tryz.prog 53 #[ev, .slice (some ⟨b, off, none⟩) v.length cap, .int .i64 (a : Int), sv] w fun e w' => ∃ ev', e = .returned ev' ∧ Evd base w w' ev sv ahead bad (L ++ evs f (part v a) ahead) ev'
set_option maxRecDepth 100000 in
set_option maxHeartbeats 4000000 in
theorem ev_leaf (f : Nat) (v : List M.Cl) (b off cap a : Nat) (ahead : List M.Cl) (sv : Value) (base : Nat) (ev : Value) (bad : Nat → Prop) (L : List (List M.Cl)) (w : World) (hv : M.valueFault v = 0) (ha : a < v.length) (hrow : Row w b off v) (hb : b < base) (hbw : base ≤ w.heap.size) (hcap : v.length ≤ cap)
    (h : Sp w base ev L bad) (hs : w.ownsRow base 111 5 sv ahead.length (flat ahead)) (hbad : ∀ g, bad g → g < w.heap.size) (hsv : ∀ g, sv.ownBlock = some g → bad g) (hst : ∀ c ∈ ahead, Pth.Stp c) (hsz : ahead.length + (part v a).length ≤ 200) (hL : L.length + (part v a).length ≤ 1000) (h0 : (v.getD a M.zero).n = 0) :
    Calls Tryz.prog 53 #[ev, .slice (some ⟨b, off, none⟩) v.length cap, .int .i64 (a : Int), sv] w fun e w' => ∃ ev', e = .returned ev' ∧ Evd base w w' ev sv ahead bad (L ++ evs (f + 1) (part v a) ahead) ev' := by
  have hpv := part_valid hv ha
  have hpl := (fault_len hpv).1
  rw [evs_part_leaf f hv ha ahead h0]
  obtain ⟨i1, hi1, hx0, hx1, hx2⟩ := info_parts Tryz.info24
  obtain ⟨f0, f1, f2, f3, f4⟩ := hrow a ha
  rw [h0] at f4
  have aI : (a : Int) < (v.length : Int) := by omega
  have a0 : (0 : Int) ≤ (a : Int) := by omega
  have HPO := hide (partOf_any v b off cap a w hv ha hrow (Nat.lt_of_lt_of_le hb hbw) hcap)
  have E0 := hide (Evd.start h hs)
  have HLE := hide (fun W (hW : Below w.heap.size w W) xb xc (hx : Row W xb 0 (part v a)) (hxb : xb < W.heap.size) (hxc : (part v a).length ≤ xc) => Sev.layEvent_two sv ahead (part v a) xb 0 xc W ((Rdr.own hs).below hW) hst (by omega) hx hxb hxc hpv)
  have HLL : Hid (L.length ≤ 1000) := hide (by omega)
  have HBAD := hide hbad
  have hne : part v a ≠ [] := by intro e; rw [e] at hpl; simp at hpl
  clear hv ha hrow h hs hst hsz hL hpv hpl hbad hsv h0
  generalize part v a = q at *
  go_enter Tryz.func53, Tryz.ntmps53
  go_wp2_with fail
  refine (unhide HPO).mono ?_
  rintro e w1 ⟨s, rfl, hr, hb1⟩
  obtain ⟨xb, xc, rfl, hxc, _, hxb, hxr⟩ := hr.rowedQ hne
  have HLE1 := hide ((unhide HLE) w1 hb1 xb xc hxr hxb hxc)
  have HB1 := hide hb1
  clear hr hxr hxb hxc HPO HLE hb1 f0 f1 f2 f3 f4
  go_wp2_with fail
  refine (unhide HLE1).mono ?_
  rintro e w2 ⟨s2, rfl, hr2, hb2⟩
  obtain ⟨xa, xn, xc2, hx2'⟩ := hr2.shape
  subst hx2'
  have HR2 := hide hr2
  have E1 := hide ((unhide E0).below (unhide HB1))
  have HB2 := hide hb2
  clear HLE1 hr2 hb2 E0

  obtain ⟨ss, ssl, sown, sres, sdis, sap⟩ := (unhide E1).row
  obtain ⟨W3, hW3⟩ : ∃ W3, W3 = w2.alloc (.cells #[.slice xa xn xc2] 24) := ⟨_, rfl⟩
  have b23 : Below w2.heap.size w2 W3 := by rw [hW3]; exact (Below.refl _ _).alloc (Nat.le_refl _) _
  have HN3 := hide (show ∀ j u, ([Value.slice xa xn xc2] : List Value)[j]? = some u → W3.cell? ((⟨w2.heap.size, 0, none⟩ : Addr).add j) = some u by rw [hW3]; exact one_val w2 _ _)
  have HO3 := hide (row_below sown (HB2.out.trans (b23.mono HB2.out.size)))
  have hLl := (unhide HLL)
  have hb63 : (L).length + 1 ≤ maxLen := by unfold maxLen; omega
  have hby : ((L).length + 1) * 24 ≤ 140737488355328 := by omega
  have hbas : base ≤ W3.heap.size := by have := HB2.out.size; have := b23.size; have := (unhide E1).size; omega
  clear b23 hLl
  go_wp2_with (at_builtin; (try rw [← hW3]); refine wpList_rowN rfl (.tmp 18) (.tmp 24) 28 rfl 24 i1 (.slice none 0 0) 1 24 Tryz.underlying28 hi1 hx0 hx1 hx2 rfl (by decide) base _ (L).length ss rfl (unhide HO3) (.slice (some ⟨w2.heap.size, 0, none⟩) 1 1) rfl 1 [.slice xa xn xc2] rfl (.inr ⟨_, 1, rfl, unhide HN3⟩) (by intro u hu; rw [List.mem_singleton.1 hu]; rfl) hb63 hby hbas ?_)
  intro v' w4 ho4 hg4 hn4
  try rw [← hW3] at hg4
  rw [hW3] at hg4
  have hn5 := hn4.imp id (fun h => (show ∀ g, v'.ownBlock = some g → (w2.alloc (.cells #[.slice xa xn xc2] 24)).heap.size ≤ g from fun g hg => by have := h g hg; simpa using this))
  have fin := hide ((unhide E1).push HB2.out hbw (fun g hg => Nat.lt_of_lt_of_le (unhide HBAD g hg) (unhide E1).size) (unhide HR2) ssl sown sres sdis sap hg4 ho4 hn5)
  obtain ⟨ya, yn, yc, hy⟩ := row_shape ho4
  subst hy
  clear ho4 hg4 hn4 hn5 HO3 HN3 hb63 hby hbas sown sres sdis sap ssl hW3
  go_wp2_with fail
  go_ret
  exact ⟨_, rfl, unhide fin⟩

set_option maxRecDepth 100000 in
set_option maxHeartbeats 8000000 in
theorem ev_more (f : Nat) (ih : Hid (EvSays f)) (v : List M.Cl) (b off cap a : Nat) (ahead : List M.Cl) (sv : Value) (base : Nat) (ev : Value) (bad : Nat → Prop) (L : List (List M.Cl)) (w : World) (hv : M.valueFault v = 0) (ha : a < v.length) (hf : (part v a).length ≤ f + 1) (hrow : Row w b off v) (hb : b < base) (hbw : base ≤ w.heap.size) (hcap : v.length ≤ cap)
    (h : Sp w base ev L bad) (hs : w.ownsRow base 111 5 sv ahead.length (flat ahead)) (hbad : ∀ g, bad g → g < w.heap.size) (hsv : ∀ g, sv.ownBlock = some g → bad g) (hst : ∀ c ∈ ahead, Pth.Stp c) (hsz : ahead.length + (part v a).length ≤ 200) (hL : L.length + (part v a).length ≤ 1000) (h0 : ¬ (v.getD a M.zero).n = 0) :
    Calls Tryz.prog 53 #[ev, .slice (some ⟨b, off, none⟩) v.length cap, .int .i64 (a : Int), sv] w fun e w' => ∃ ev', e = .returned ev' ∧ Evd base w w' ev sv ahead bad (L ++ evs (f + 1) (part v a) ahead) ev' := by
  have hvl := (M.fault_zero hv).2.1
  have HB := hide (fun k hk => evs_bound_at f hv ha ahead k hk)
  have HAT := hide (fun k hk => at_place hv ha (k := k) hk)
  have HSTP := hide (fun k (hk : k < M.arity v a) => (show Pth.Stp (stepAt (decide ((v.getD a M.zero).kind = 6)) (keysAt v a) k) by
    have := (step_to (part_valid hv ha) (k := k) (by rw [part_arity hv ha]; exact hk)).1
    rwa [part_zero hv ha, (subs_part hv ha).2] at this))
  have HE := hide (evs_part_more f hv ha ahead h0)
  have HRW := hide (fun W (h : Below base w W) => (show Row W b off v from hrow.below h hb))
  have hbl : b < w.heap.size := Nat.lt_of_lt_of_le hb hbw
  have HCP := hide (childPlaces_any v b off cap a w hv ha hrow hbl hcap)
  have hA : M.arity v a ≤ 200 := (M.places_in hv a ha).2.2.2
  have hA1 : 1 ≤ M.arity v a := by
    have hn : 0 ≤ (v.getD a M.zero).n := by have := Sev.n_ge (part_valid hv ha); rw [part_zero hv ha] at this; exact this
    unfold M.arity; omega
  have HV := hide hv
  have HS0 := hide h
  have HS := hide hs
  have HBAD := hide hbad
  have HSV := hide hsv
  have HST := hide hst
  obtain ⟨i0, hi, hz0, hz1, hz2⟩ := info_parts Tryz.info111
  obtain ⟨i1, hi1, hx0, hx1, hx2⟩ := info_parts Tryz.info24
  obtain ⟨f0, f1, f2, f3, f4⟩ := hrow a ha
  have aI : (a : Int) < (v.length : Int) := by omega
  have a0 : (0 : Int) ≤ (a : Int) := by omega
  have E0 := hide (Evd.start h hs)
  have RD0 := hide (Rdr.own hs)
  clear hv hrow h hs hbad hsv hst
  generalize hcell : v.getD a M.zero = c at *
  have HCL := hide hcell
  have hn0 : (c.n == 0) = false := by simp [h0]
  clear hcell h0
  obtain ⟨m, hm⟩ : ∃ m, m = M.arity v a := ⟨_, rfl⟩
  rw [← hm] at HB HAT HE HCP hA hA1 HSTP
  have HM := hide hm
  clear hm
  generalize hob : decide (c.kind = 6) = ob at *
  have HOB := hide hob
  clear hob
  go_enter Tryz.func53, Tryz.ntmps53
  go_wp2_with fail
  refine (unhide HCP).mono ?_
  rintro e w1 ⟨sa, rfl, hra, hb1⟩
  have E1 := hide ((unhide E0).below hb1)
  have RD1 := hide ((unhide RD0).below hb1)
  clear HCP E0 RD0 hb1 f0 f1 f2 f3 f4
  obtain ⟨_, ⟨rfl, hnil⟩ | ⟨ba, ca, rfl, _, hca, hoa⟩⟩ := hra
  · exfalso
    have := congrArg List.length hnil
    rw [firstPl_length] at this
    simp at this
    omega
  rw [firstPl_length] at hca ⊢
  have HOA := hide hoa
  clear hoa
  go_wp2_with fail
  go_loopg [0, 9, 31] m (fun gh s0 s9 s31 wr => ∃ (k : Nat) (fl : List M.Cl), Hid (gh = m - k) ∧ s31 = .int .i64 (k : Int) ∧ k ≤ m ∧ Hid (Evd base w wr ev sv ahead bad (L ++ allK (evs f) ob (keysAt v a) (subs v a) ahead k) s0) ∧ Hid (OwnI wr ba (firstPl v a m)) ∧ Hid (Rdr wr s9 fl) ∧ Hid (0 < k → fl = ahead ++ [stepAt ob (keysAt v a) (k - 1)]))
  case atStart => exact ⟨0, ahead, rfl, rfl, by omega, by rw [show allK (evs f) ob (keysAt v a) (subs v a) ahead 0 = [] from rfl, List.append_nil]; exact unhide E1, unhide HOA, unhide RD1, fun h => absurd h (by omega)⟩
  case round =>
    clear E1 HOA RD1
    obtain ⟨k, fl, hg, rfl, hk, hEk, hOI, hRd, hFl⟩ := hrel
    by_cases hlt : k < m
    · have hat := (unhide HAT) k hlt
      have fa := hOI.out.cell (i := k) (by rw [firstPl_length]; exact hlt)
      rw [firstPl_getD v a m k hlt] at fa
      have hup := hat.up
      have hlen := hat.len
      have hbk := (unhide HB) k (by omega)
      have hplt := hat.lt
      have hpval := hat.val
      have hkey := hat.key
      have hsub := hat.sub
      have hstk := (unhide HSTP) k hlt
      generalize M.iter v k (a + 1) = p at *
      generalize M.iter (part v a) k 1 = ik at *
      generalize M.iter (part v a) (k + 1) 1 = ik1 at *
      have hbel := hEk.out.low (unhide HS0) (unhide HS) hbw
      have hbw3 := Nat.le_trans hbw hEk.out.size
      have HST4 := hide (fun W (hW : Below wr.heap.size wr W) => stepTo_any v b off cap a k p W ha hplt ((unhide HRW) W (hbel.trans (hW.mono hbw3))) (by have := hW.size; omega) hcap hvl (keysAt v a) hkey.symm)
      rw [unhide HCL, unhide HOB] at HST4
      have HALLK := hide (show L ++ allK (evs f) ob (keysAt v a) (subs v a) ahead (k + 1) = (L ++ allK (evs f) ob (keysAt v a) (subs v a) ahead k) ++ evs f (part v p) (ahead ++ [stepAt ob (keysAt v a) k]) by rw [allK, hsub, List.append_assoc])
      have hik : 1 ≤ ik := by omega
      have HLX : Hid ((L ++ allK (evs f) ob (keysAt v a) (subs v a) ahead k).length + (part v p).length ≤ 1000) := hide (by rw [List.length_append]; omega)
      obtain ⟨L1, hL1⟩ : ∃ L1, L1 = L ++ allK (evs f) ob (keysAt v a) (subs v a) ahead k := ⟨_, rfl⟩
      rw [← hL1] at hEk HLX HALLK
      clear hL1 hat hsub hkey hRd hFl hbk
      obtain ⟨st, hst⟩ : ∃ st, st = stepAt ob (keysAt v a) k := ⟨_, rfl⟩
      rw [← hst] at HST4 HALLK hstk
      have HSTE := hide hst
      clear hst
      have hk0 : (0 : Int) ≤ (k : Int) := by omega
      have hltI : (k : Int) < (m : Int) := by omega
      have HLT := hide hlt
      have HPV := hide hpval
      clear hlt hpval
      go_wp2_with fail
      refine ((unhide HST4) wr (Below.refl _ _)).mono ?_
      rintro e4 w4 ⟨rfl, hb4⟩
      obtain ⟨W5, hW5⟩ : ∃ W5, W5 = w4.alloc (.cells #[.int .i64 st.kind, .int .i64 st.num, .string st.text, .string st.key, .int .i64 st.n] 111) := ⟨_, rfl⟩
      have B5 : Below wr.heap.size wr W5 := by rw [hW5]; exact hb4.alloc hb4.size _
      have HN5 := hide (show ∀ j u, (flat [st])[j]? = some u → W5.cell? ((⟨w4.heap.size, 0, none⟩ : Addr).add j) = some u by rw [hW5]; exact one_words w4 st)
      have E5 := hide (hEk.out.below B5)
      have OI5 := hide (hOI.out.below B5 hOI.out.lt)
      have hb5 : base ≤ W5.heap.size := Nat.le_trans hbw3 B5.size
      have hfl := hide (flat_one [st])
      clear HST4 hb4 fa hEk hOI hbel B5
      have hb63 : ahead.length + 1 ≤ maxLen := by unfold maxLen; omega
      have hby : (ahead.length + 1) * 56 ≤ 140737488355328 := by omega
      go_wp2_with (at_builtin; rw [← hW5]; refine wpList_app rfl (.tmp 36) (.tmp 42) 24 rfl 111 i0 _ 5 56 Tryz.underlying24 hi hz0 hz1 hz2 rfl (by decide) base sv ahead.length (flat ahead) rfl (unhide E5).st ⟨w4.heap.size, 0, none⟩ 1 1 rfl (flat [st]) (by rfl) (unhide HN5) (unhide hfl) hb63 hby hb5 ?_)
      intro sv1 W6 ho6 hk6 hg6 hcs6
      rw [← flat_append] at ho6
      rw [← hW5] at hg6 hcs6
      have hcs6 := hcs6.imp id (fun h => (show (∀ g, sv1.ownBlock = some g → W5.heap.size ≤ g) ∧ W5.grownBy W6 none from ⟨fun g hg => by have := h.1 g hg; rw [hW5]; simpa using this, h.2⟩))
      obtain ⟨sp6, bd6, ch6⟩ := (unhide E5).child (unhide HS) (unhide HBAD) (unhide HSV) ho6 hk6 hg6 hcs6
      have B06 : Below base w W6 := ((unhide E5).low (unhide HS0) (unhide HS) hbw).grown hg6 hb5 (ownsRow_base (unhide HS))
      have hb6 : base ≤ W6.heap.size := Nat.le_trans hb5 hg6.size
      have hstps : ∀ c ∈ ahead ++ [st], Pth.Stp c := fun c hc => by
        rcases List.mem_append.1 hc with hc | hc
        · exact (unhide HST) c hc
        · rw [List.mem_singleton.1 hc]; exact hstk
      have ho6' : W6.ownsRow base 111 5 sv1 (ahead ++ [st]).length (flat (ahead ++ [st])) := by rw [List.length_append]; exact ho6
      have HIH := hide (ih.out v b off cap p (ahead ++ [st]) sv1 base u0 _ L1 W6 (unhide HV) hplt (by omega) ((unhide HRW) W6 B06) hb hb6 hcap sp6 ho6' bd6 (fun g hg => .inr hg) hstps (by rw [List.length_append, List.length_cons, List.length_nil]; omega) (unhide HLX))
      have OI6 : OwnI W6 ba (firstPl v a m) := by
        obtain ⟨ys, y1, y2⟩ := unhide OI5
        exact ⟨ys, grown_own hg6 y1 (other_block (unhide E5).st y1 (by decide)), y2⟩
      have OI7 := hide (fun w7 ev7 L7 (h7 : Evd base W6 w7 u0 sv1 (ahead ++ [st]) (fun g => bad g ∨ sv1.ownBlock = some g) L7 ev7) => (show OwnI w7 ba (firstPl v a m) by
        obtain ⟨ys, y1, y2⟩ := OI6
        exact ⟨ys, h7.other sp6 ho6' y1 (by decide) (by decide), y2⟩))
      have CH := hide ch6
      clear sp6 bd6 ch6 ho6 hk6 hg6 hcs6 E5 OI5 HN5 hfl hW5 OI6 B06 hb63 hby ho6' hstps HPV
      go_wp2_with fail
      refine (unhide HIH).mono ?_
      rintro e7 w7 ⟨ev7, rfl, hl7⟩
      have E7 := hide ((unhide CH) w7 ev7 _ hl7)
      rw [← unhide HALLK] at E7
      have O7 := hide ((unhide OI7) w7 ev7 _ hl7)
      have R7 := hide (Rdr.own hl7.st)
      clear HIH CH OI7 hl7 HALLK
      go_wp2_with fail
      go_roundg (m - (k + 1))
      case rel => exact ⟨k + 1, ahead ++ [st], rfl, by go_num, by have := unhide HLT; omega, unhide E7, unhide O7, unhide R7, fun _ => by rw [unhide HSTE]; rfl⟩
      case measure => have := hg.out; have := unhide HLT; omega
    · have hke : k = m := by omega
      have hfl := hFl.out (by omega)
      have hbk := (unhide HB) k (by omega)
      have hat1 := (unhide HAT) (k - 1) (by omega)
      have hup := hat1.up
      rw [show k - 1 + 1 = k from by omega] at hup
      have HLL : Hid ((L ++ allK (evs f) ob (keysAt v a) (subs v a) ahead k).length ≤ 1000) := hide (by rw [List.length_append]; omega)
      have HFIN := hide (show L ++ evs (f + 1) (part v a) ahead = (L ++ allK (evs f) ob (keysAt v a) (subs v a) ahead k) ++ [Sev.laid (ahead ++ [stepAt ob (keysAt v a) (k - 1)]) []] by rw [unhide HE, hke, List.append_assoc])
      have hstk := (unhide HSTP) (k - 1) (by omega)
      have hfs : ∀ c ∈ fl, Pth.Stp c := fun c hc => by
        rw [hfl] at hc
        rcases List.mem_append.1 hc with hc | hc
        · exact (unhide HST) c hc
        · rw [List.mem_singleton.1 hc]; exact hstk
      have hfll : fl.length ≤ 199 := by
        rw [hfl, List.length_append, List.length_cons, List.length_nil]
        have := hat1.len
        have := hat1.up
        have := (fault_len hat1.val).1
        have := (unhide HB) (k - 1) (by omega)
        rw [show k - 1 + 1 = k from by omega] at *
        omega
      have HLE := hide (Sev.layEvent_one _ fl wr hRd.out hfs hfll)
      rw [← hfl] at HFIN
      have E1 := hEk
      obtain ⟨L1, hL1⟩ : ∃ L1, L1 = L ++ allK (evs f) ob (keysAt v a) (subs v a) ahead k := ⟨_, rfl⟩
      rw [← hL1] at HFIN HLL E1
      have hkI : ¬ (k : Int) < (m : Int) := by omega
      clear hke hEk hOI hRd hFl hfl hbk hup hat1 hstk hfs hfll hL1
      go_wp2_with fail
      refine (unhide HLE).mono ?_
      rintro e w2 ⟨s2, rfl, hr2, hb2⟩
      obtain ⟨xa, xn, xc2, hx2'⟩ := hr2.shape
      subst hx2'
      have HR2 := hide hr2
      have HB2 := hide hb2
      clear HLE hr2 hb2

      obtain ⟨ss, ssl, sown, sres, sdis, sap⟩ := (unhide E1).row
      obtain ⟨W3, hW3⟩ : ∃ W3, W3 = w2.alloc (.cells #[.slice xa xn xc2] 24) := ⟨_, rfl⟩
      have b23 : Below w2.heap.size w2 W3 := by rw [hW3]; exact (Below.refl _ _).alloc (Nat.le_refl _) _
      have HN3 := hide (show ∀ j u, ([Value.slice xa xn xc2] : List Value)[j]? = some u → W3.cell? ((⟨w2.heap.size, 0, none⟩ : Addr).add j) = some u by rw [hW3]; exact one_val w2 _ _)
      have HO3 := hide (row_below sown (HB2.out.trans (b23.mono HB2.out.size)))
      have hLl := (unhide HLL)
      have hb63 : (L1).length + 1 ≤ maxLen := by unfold maxLen; omega
      have hby : ((L1).length + 1) * 24 ≤ 140737488355328 := by omega
      have hbas : base ≤ W3.heap.size := by have := HB2.out.size; have := b23.size; have := (unhide E1).size; omega
      clear b23 hLl
      go_wp2_with (at_builtin; (try rw [← hW3]); refine wpList_rowN rfl (.tmp 50) (.tmp 53) 28 rfl 24 i1 (.slice none 0 0) 1 24 Tryz.underlying28 hi1 hx0 hx1 hx2 rfl (by decide) base _ (L1).length ss rfl (unhide HO3) (.slice (some ⟨w2.heap.size, 0, none⟩) 1 1) rfl 1 [.slice xa xn xc2] rfl (.inr ⟨_, 1, rfl, unhide HN3⟩) (by intro u hu; rw [List.mem_singleton.1 hu]; rfl) hb63 hby hbas ?_)
      intro v' w4 ho4 hg4 hn4
      try rw [← hW3] at hg4
      rw [hW3] at hg4
      have hn5 := hn4.imp id (fun h => (show ∀ g, v'.ownBlock = some g → (w2.alloc (.cells #[.slice xa xn xc2] 24)).heap.size ≤ g from fun g hg => by have := h g hg; simpa using this))
      have fin := hide ((unhide E1).push HB2.out hbw (fun g hg => Nat.lt_of_lt_of_le (unhide HBAD g hg) (unhide E1).size) (unhide HR2) ssl sown sres sdis sap hg4 ho4 hn5)
      obtain ⟨ya, yn, yc, hy⟩ := row_shape ho4
      subst hy
      clear ho4 hg4 hn4 hn5 HO3 HN3 hb63 hby hbas sown sres sdis sap ssl hW3
      go_wp2_with fail
      go_ret
      exact ⟨_, rfl, by rw [unhide HFIN]; exact unhide fin⟩
theorem ev_says : ∀ f, EvSays f := by
  intro f
  induction f with
  | zero => intro v b off cap a ahead sv base ev bad L w hv ha hf; have := (fault_len (part_valid hv ha)).1; omega
  | succ f ih =>
    intro v b off cap a ahead sv base ev bad L w hv ha hf hrow hb hbw hcap h hs hbad hsv hst hsz hL
    by_cases h0 : (v.getD a M.zero).n = 0
    · exact ev_leaf f v b off cap a ahead sv base ev bad L w hv ha hrow hb hbw hcap h hs hbad hsv hst hsz hL h0
    · exact ev_more f (hide ih) v b off cap a ahead sv base ev bad L w hv ha hf hrow hb hbw hcap h hs hbad hsv hst hsz hL h0
end Al
end Go.Proofs.YtcglddahphkcpaaGreatDoor
