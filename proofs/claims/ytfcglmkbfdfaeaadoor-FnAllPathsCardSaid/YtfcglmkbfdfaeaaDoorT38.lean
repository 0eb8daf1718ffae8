/-
  impl.layFrom: the paths of a value and of all in it are laid.
-/
import Derived.Test.YtfcglmkbfdfaeaaDoorT37
namespace Go.Proofs.YtfcglmkbfdfaeaaDoor
open Go.RowKit
set_option linter.unusedVariables false
set_option linter.unusedSimpArgs false
namespace Al

set_option maxRecDepth 100000 in
set_option maxHeartbeats 4000000 in
theorem from_every (f : Nat) (ih : Hid (LaySays false (.func (.func 16) #[] #[]) f)) (v : List M.Cl) (b off cap a : Nat) (ahead : List M.Cl) (sv : Value) (base PB : Nat) (C : List M.Cl) (E : List Nat) (cv ev : Value) (w : World) (hv : M.valueFault v = 0) (ha : a < v.length) (hf : (part v a).length ≤ f + 1) (hrow : Row w b off v) (hb : b < base) (hbw : base ≤ w.heap.size) (hcap : v.length ≤ cap)
    (h : Ls base w PB C E cv ev) (hs : w.ownsRow base 43 5 sv ahead.length (flat ahead)) (hd : Dis cv sv) (hsz : ahead.length + (part v a).length ≤ 300) (hC : C.length + 301 * (part v a).length ≤ 100000) (hE : E.length + (part v a).length ≤ 1000) :
    Calls Tryd.prog 33 #[.pointer (some ⟨PB, 0, none⟩), .slice (some ⟨b, off, none⟩) v.length cap, .int .i64 (a : Int), sv, .func (.func 16) #[] #[]] w fun e w' => e = .returned (.tuple #[]) ∧ LaidP base w PB C E cv ev sv ahead (all false (f + 1) (part v a) ahead) w' := by
  have hvl := (M.fault_zero hv).2.1
  have HB := hide (fun k hk => bound_at false f hv ha ahead hsz k hk)
  have HAT := hide (fun k hk => at_place hv ha (k := k) hk)
  have HE := hide (all_part false f hv ha ahead)
  have HRW := hide (fun W (h : Below base w W) => (show Row W b off v from hrow.below h hb))
  have hbl : b < w.heap.size := Nat.lt_of_lt_of_le hb hbw
  have HCP := hide (fun W (h : Below base w W) (hl : base ≤ W.heap.size) => childPlaces_any v b off cap a W hv ha (hrow.below h hb) (by omega) hcap)
  have hA : M.arity v a ≤ 200 := (M.places_in hv a ha).2.2.2
  have HV := hide hv
  have HL := hide h
  have HS := hide hs
  have HD := hide hd
  obtain ⟨i0, hi, hz0, hz1, hz2⟩ := info_parts Tryd.info43
  obtain ⟨f0, f1, f2, f3, f4⟩ := hrow a ha
  have aI : (a : Int) < (v.length : Int) := by omega
  have a0 : (0 : Int) ≤ (a : Int) := by omega
  have HW := hide (wantE (v.getD a M.zero) w)
  obtain ⟨O, hO⟩ : ∃ O, O = own false (v.getD a M.zero).n ahead := ⟨_, rfl⟩
  rw [← hO] at HB HE
  have HOWN : Hid (O = [ahead]) := hide (by rw [hO]; exact if_pos (.inl rfl))
  clear hO
  clear hv hrow h hs hd
  generalize hcell : v.getD a M.zero = c at *
  have HCL := hide hcell
  clear hcell
  go_enter Tryd.func33, Tryd.ntmps33
  go_wp2_with fail
  refine (unhide HW).mono ?_
  rintro e w1 ⟨rfl, hb1⟩
  have L1 := hide ((Laid'.start (unhide HL) (unhide HS)).below hb1)
  clear f0 f1 f2 f3 f4 HW
  have L1s := hide (show Ls base w1 PB C E cv ev from (unhide HL).below hb1)
  have HLAY := hide (lay_any base PB C E cv ev sv ahead w1 (unhide L1s) (row_below (unhide HS) hb1) (unhide HD) (Nat.le_trans hbw hb1.size) (by omega) (by omega) (by omega))
  have HB1 := hide hb1
  clear hb1 L1s
  go_wp2_with fail
  refine (unhide HLAY).mono ?_
  rintro e w2 ⟨rfl, cvx, evx, hlx⟩
  have L2 : Hid (LaidP base w PB C E cv ev sv ahead O w2) := hide ⟨cvx, evx, by rw [unhide HOWN]; exact Laid'.pre (unhide HB1) hlx⟩
  clear HLAY hlx
  obtain ⟨m, hm⟩ : ∃ m, m = M.arity v a := ⟨_, rfl⟩
  rw [← hm] at HB HAT HE HCP hA
  have HM := hide hm
  clear hm
  generalize hob : decide (c.kind = 6) = ob at *
  have HOB := hide hob
  clear hob
  obtain ⟨cv2, ev2, L2⟩ := L2.out
  have B2 := hide (L2.fr.low (unhide HL) (unhide HS) hbw)
  have hbw2 := Nat.le_trans hbw L2.fr.size
  have L2 := hide L2
  go_wp2_with fail
  refine ((unhide HCP) w2 (unhide B2) hbw2).mono ?_
  rintro e w3 ⟨sa, rfl, hra, hb3⟩
  have L3 := hide ((unhide L2).below hb3)
  clear HCP L2 B2 hb3
  obtain ⟨_, ⟨rfl, hnil⟩ | ⟨ba, ca, rfl, _, hca, hoa⟩⟩ := hra
  · have hm0 : m = 0 := by have := congrArg List.length hnil; rwa [firstPl_length] at this
    subst hm0
    have fin := hide (show LaidP base w PB C E cv ev sv ahead (all false (f + 1) (part v a) ahead) w3 from ⟨_, _, by rw [unhide HE]; rw [show allK (all false f) ob (keysAt v a) (subs v a) ahead 0 = [] from rfl, List.append_nil]; exact unhide L3⟩)
    go_wp2_with fail
    refine wp_loop_rounds 1 ?_
    rw [rounds_succ]
    go_wp2_with fail
    go_end0
    exact ⟨rfl, unhide fin⟩
  · rw [firstPl_length] at hca ⊢
    have HOA := hide hoa
    clear hoa
    go_wp2_with fail
    go_loopg [25] m (fun gh s25 wr => ∃ (k : Nat) (cvk evk : Value), Hid (gh = m - k) ∧ s25 = .int .i64 (k : Int) ∧ k ≤ m ∧ Hid (Laid' base w wr PB C E cv ev sv ahead (O ++ allK (all false f) ob (keysAt v a) (subs v a) ahead k) cvk evk) ∧ Hid (OwnI wr ba (firstPl v a m)))
    case atStart => exact ⟨0, cv2, ev2, rfl, rfl, by omega, by rw [show allK (all false f) ob (keysAt v a) (subs v a) ahead 0 = [] from rfl, List.append_nil]; exact unhide L3, unhide HOA⟩
    case round =>
      clear L3 HOA
      obtain ⟨k, cvk, evk, hg, rfl, hk, hLk, hOI⟩ := hrel
      by_cases hlt : k < m
      · have hat := (unhide HAT) k hlt
        have fa := hOI.out.cell (i := k) (by rw [firstPl_length]; exact hlt)
        rw [firstPl_getD v a m k hlt] at fa
        have hup := hat.up
        have hlen := hat.len
        have hilo := hat.lo
        have hbk := (unhide HB) k (by omega)
        have hplt := hat.lt
        have hpval := hat.val
        have hkey := hat.key
        have hsub := hat.sub
        generalize M.iter v k (a + 1) = p at *
        generalize M.iter (part v a) k 1 = ik at *
        generalize M.iter (part v a) (k + 1) 1 = ik1 at *
        have hbel := hLk.out.fr.low (unhide HL) (unhide HS) hbw
        have hbw3 := Nat.le_trans hbw hLk.out.fr.size
        have HST := hide (fun W (hW : Below wr.heap.size wr W) => stepTo_any v b off cap a k p W ha hplt ((unhide HRW) W (hbel.trans (hW.mono hbw3))) (by have := hW.size; omega) hcap hvl (keysAt v a) hkey.symm)
        rw [unhide HCL, unhide HOB] at HST
        have HALLK := hide (show O ++ allK (all false f) ob (keysAt v a) (subs v a) ahead (k + 1) = (O ++ allK (all false f) ob (keysAt v a) (subs v a) ahead k) ++ all false f (part v p) (ahead ++ [stepAt ob (keysAt v a) k]) by rw [allK, hsub, List.append_assoc])
        obtain ⟨L, hL⟩ : ∃ L, L = O ++ allK (all false f) ob (keysAt v a) (subs v a) ahead k := ⟨_, rfl⟩
        rw [← hL] at hLk hbk HALLK
        clear hL hat hsub hkey
        obtain ⟨st, hst⟩ : ∃ st, st = stepAt ob (keysAt v a) k := ⟨_, rfl⟩
        rw [← hst] at HST HALLK
        clear hst
        have hk0 : (0 : Int) ≤ (k : Int) := by omega
        have hltI : (k : Int) < (m : Int) := by omega
        have HLT := hide hlt
        have HPV := hide hpval
        clear hlt hpval
        go_wp2_with fail
        refine ((unhide HST) wr (Below.refl _ _)).mono ?_
        rintro e4 w4 ⟨rfl, hb4⟩
        obtain ⟨W5, hW5⟩ : ∃ W5, W5 = w4.alloc (.cells #[.int .i64 st.kind, .int .i64 st.num, .string st.text, .string st.key, .int .i64 st.n] 43) := ⟨_, rfl⟩
        have B5 : Below wr.heap.size wr W5 := by rw [hW5]; exact hb4.alloc hb4.size _
        have B45 : Below w4.heap.size w4 W5 := by rw [hW5]; exact (Below.refl _ _).alloc (Nat.le_refl _) _
        have HN5 := hide (show ∀ j u, (flat [st])[j]? = some u → W5.cell? ((⟨w4.heap.size, 0, none⟩ : Addr).add j) = some u by rw [hW5]; exact one_words w4 st)
        have L5 := hide (hLk.out.below B5)
        have OI5 := hide (hOI.out.below B5 hOI.out.lt)
        have hb5 : base ≤ W5.heap.size := Nat.le_trans hbw3 B5.size
        have hfl := hide (flat_one [st])
        clear HST hb4 fa hLk hOI hbel B45
        have hb63 : ahead.length + 1 ≤ maxLen := by unfold maxLen; omega
        have hby : (ahead.length + 1) * 56 ≤ 140737488355328 := by omega
        go_wp2_with (at_builtin; rw [← hW5]; refine wpList_app rfl (.tmp 33) (.tmp 39) 24 rfl 43 i0 _ 5 56 Tryd.underlying24 hi hz0 hz1 hz2 rfl (by decide) base sv ahead.length (flat ahead) rfl (unhide L5).st ⟨w4.heap.size, 0, none⟩ 1 1 rfl (flat [st]) (by rfl) (unhide HN5) (unhide hfl) hb63 hby hb5 ?_)
        intro sv1 W6 ho6 hk6 hg6 hcs6
        rw [← flat_append] at ho6
        rw [← hW5] at hg6 hcs6
        have hcs6 := hcs6.imp id (fun h => (show (∀ g, sv1.ownBlock = some g → W5.heap.size ≤ g) ∧ W5.grownBy W6 none from ⟨fun g hg => by have := h.1 g hg; rw [hW5]; simpa using this, h.2⟩))
        obtain ⟨ls6, ds6, ch6⟩ := Laid'.child (unhide L5) (unhide HS) (unhide HL) (unhide HD) hbw ho6 hk6 hg6 hcs6
        have hlw := (unhide HS).1
        have B06 : Below base w W6 := ((unhide L5).fr.low (unhide HL) (unhide HS) hbw).grown hg6 hb5 (ownsRow_base (unhide HS))
        have hb6 : base ≤ W6.heap.size := Nat.le_trans hb5 hg6.size
        have HIH := hide (ih.out v b off cap p (ahead ++ [st]) sv1 base PB _ _ cvk evk W6 (unhide HV) hplt (by omega) ((unhide HRW) W6 B06) hb hb6 hcap ls6 (by rw [List.length_append]; exact ho6) ds6 (by rw [List.length_append, List.length_cons, List.length_nil]; omega) (by rw [List.length_append]; omega) (by rw [List.length_append, ends_length]; omega))
        have OI6 : OwnI W6 ba (firstPl v a m) := by
          obtain ⟨ys, y1, y2⟩ := unhide OI5
          exact ⟨ys, grown_own hg6 y1 (other_block (unhide L5).st y1 (by decide)), y2⟩
        have OI7 := hide (fun w7 (hf7 : Fr W6 w7 PB cvk evk sv1) => (show OwnI w7 ba (firstPl v a m) by
          obtain ⟨ys, y1, y2⟩ := OI6
          exact ⟨ys, hf7.other ls6 (ahead := ahead ++ [st]) (by rw [List.length_append]; exact ho6) y1 (by decide) (by decide) (by decide), y2⟩))
        have CH := hide ch6
        clear ls6 ds6 ch6 ho6 hk6 hg6 hcs6 L5 OI5 HN5 hfl hW5 B5 OI6 B06 hb63 hby
        go_wp2_with fail
        refine (unhide HIH).mono ?_
        rintro e7 w7 ⟨rfl, cv7, ev7, hl7⟩
        have L7 := hide ((unhide CH) w7 cv7 ev7 _ hl7)
        rw [← unhide HALLK] at L7
        have O7 := hide ((unhide OI7) w7 hl7.fr)
        clear HIH CH OI7 hl7 HALLK
        go_wp2_with fail
        go_roundg (m - (k + 1))
        case rel => exact ⟨k + 1, cv7, ev7, rfl, by go_num, by have := unhide HLT; omega, unhide L7, unhide O7⟩
        case measure => have := hg.out; have := unhide HLT; omega
      · have hke : k = m := by omega
        have fin := hide (show LaidP base w PB C E cv ev sv ahead (all false (f + 1) (part v a) ahead) wr from ⟨_, _, by rw [unhide HE, ← hke]; exact hLk.out⟩)
        clear hke hLk
        go_wp2_with fail
        go_end0
        exact ⟨rfl, unhide fin⟩

set_option maxRecDepth 100000 in
set_option maxHeartbeats 4000000 in
theorem from_leaf (f : Nat) (ih : Hid (LaySays true (.func (.func 18) #[] #[]) f)) (v : List M.Cl) (b off cap a : Nat) (ahead : List M.Cl) (sv : Value) (base PB : Nat) (C : List M.Cl) (E : List Nat) (cv ev : Value) (w : World) (hv : M.valueFault v = 0) (ha : a < v.length) (hf : (part v a).length ≤ f + 1) (hrow : Row w b off v) (hb : b < base) (hbw : base ≤ w.heap.size) (hcap : v.length ≤ cap)
    (h : Ls base w PB C E cv ev) (hs : w.ownsRow base 43 5 sv ahead.length (flat ahead)) (hd : Dis cv sv) (hsz : ahead.length + (part v a).length ≤ 300) (hC : C.length + 301 * (part v a).length ≤ 100000) (hE : E.length + (part v a).length ≤ 1000) (h0 : (v.getD a M.zero).n = 0) :
    Calls Tryd.prog 33 #[.pointer (some ⟨PB, 0, none⟩), .slice (some ⟨b, off, none⟩) v.length cap, .int .i64 (a : Int), sv, .func (.func 18) #[] #[]] w fun e w' => e = .returned (.tuple #[]) ∧ LaidP base w PB C E cv ev sv ahead (all true (f + 1) (part v a) ahead) w' := by
  have hvl := (M.fault_zero hv).2.1
  have HB := hide (fun k hk => bound_at true f hv ha ahead hsz k hk)
  have HAT := hide (fun k hk => at_place hv ha (k := k) hk)
  have HE := hide (all_part true f hv ha ahead)
  have HRW := hide (fun W (h : Below base w W) => (show Row W b off v from hrow.below h hb))
  have hbl : b < w.heap.size := Nat.lt_of_lt_of_le hb hbw
  have HCP := hide (fun W (h : Below base w W) (hl : base ≤ W.heap.size) => childPlaces_any v b off cap a W hv ha (hrow.below h hb) (by omega) hcap)
  have hA : M.arity v a ≤ 200 := (M.places_in hv a ha).2.2.2
  have HV := hide hv
  have HL := hide h
  have HS := hide hs
  have HD := hide hd
  obtain ⟨i0, hi, hz0, hz1, hz2⟩ := info_parts Tryd.info43
  obtain ⟨f0, f1, f2, f3, f4⟩ := hrow a ha
  have aI : (a : Int) < (v.length : Int) := by omega
  have a0 : (0 : Int) ≤ (a : Int) := by omega
  have HW := hide (wantL (v.getD a M.zero) w)
  obtain ⟨O, hO⟩ : ∃ O, O = own true (v.getD a M.zero).n ahead := ⟨_, rfl⟩
  rw [← hO] at HB HE
  have HOWN : Hid (O = [ahead]) := hide (by rw [hO]; exact if_pos (.inr h0))
  rw [show ((v.getD a M.zero).n == 0) = true from beq_iff_eq.2 h0] at HW
  clear h0
  clear hO
  clear hv hrow h hs hd
  generalize hcell : v.getD a M.zero = c at *
  have HCL := hide hcell
  clear hcell
  go_enter Tryd.func33, Tryd.ntmps33
  go_wp2_with fail
  refine (unhide HW).mono ?_
  rintro e w1 ⟨rfl, hb1⟩
  have L1 := hide ((Laid'.start (unhide HL) (unhide HS)).below hb1)
  clear f0 f1 f2 f3 f4 HW
  have L1s := hide (show Ls base w1 PB C E cv ev from (unhide HL).below hb1)
  have HLAY := hide (lay_any base PB C E cv ev sv ahead w1 (unhide L1s) (row_below (unhide HS) hb1) (unhide HD) (Nat.le_trans hbw hb1.size) (by omega) (by omega) (by omega))
  have HB1 := hide hb1
  clear hb1 L1s
  go_wp2_with fail
  refine (unhide HLAY).mono ?_
  rintro e w2 ⟨rfl, cvx, evx, hlx⟩
  have L2 : Hid (LaidP base w PB C E cv ev sv ahead O w2) := hide ⟨cvx, evx, by rw [unhide HOWN]; exact Laid'.pre (unhide HB1) hlx⟩
  clear HLAY hlx
  obtain ⟨m, hm⟩ : ∃ m, m = M.arity v a := ⟨_, rfl⟩
  rw [← hm] at HB HAT HE HCP hA
  have HM := hide hm
  clear hm
  generalize hob : decide (c.kind = 6) = ob at *
  have HOB := hide hob
  clear hob
  obtain ⟨cv2, ev2, L2⟩ := L2.out
  have B2 := hide (L2.fr.low (unhide HL) (unhide HS) hbw)
  have hbw2 := Nat.le_trans hbw L2.fr.size
  have L2 := hide L2
  go_wp2_with fail
  refine ((unhide HCP) w2 (unhide B2) hbw2).mono ?_
  rintro e w3 ⟨sa, rfl, hra, hb3⟩
  have L3 := hide ((unhide L2).below hb3)
  clear HCP L2 B2 hb3
  obtain ⟨_, ⟨rfl, hnil⟩ | ⟨ba, ca, rfl, _, hca, hoa⟩⟩ := hra
  · have hm0 : m = 0 := by have := congrArg List.length hnil; rwa [firstPl_length] at this
    subst hm0
    have fin := hide (show LaidP base w PB C E cv ev sv ahead (all true (f + 1) (part v a) ahead) w3 from ⟨_, _, by rw [unhide HE]; rw [show allK (all true f) ob (keysAt v a) (subs v a) ahead 0 = [] from rfl, List.append_nil]; exact unhide L3⟩)
    go_wp2_with fail
    refine wp_loop_rounds 1 ?_
    rw [rounds_succ]
    go_wp2_with fail
    go_end0
    exact ⟨rfl, unhide fin⟩
  · rw [firstPl_length] at hca ⊢
    have HOA := hide hoa
    clear hoa
    go_wp2_with fail
    go_loopg [25] m (fun gh s25 wr => ∃ (k : Nat) (cvk evk : Value), Hid (gh = m - k) ∧ s25 = .int .i64 (k : Int) ∧ k ≤ m ∧ Hid (Laid' base w wr PB C E cv ev sv ahead (O ++ allK (all true f) ob (keysAt v a) (subs v a) ahead k) cvk evk) ∧ Hid (OwnI wr ba (firstPl v a m)))
    case atStart => exact ⟨0, cv2, ev2, rfl, rfl, by omega, by rw [show allK (all true f) ob (keysAt v a) (subs v a) ahead 0 = [] from rfl, List.append_nil]; exact unhide L3, unhide HOA⟩
    case round =>
      clear L3 HOA
      obtain ⟨k, cvk, evk, hg, rfl, hk, hLk, hOI⟩ := hrel
      by_cases hlt : k < m
      · have hat := (unhide HAT) k hlt
        have fa := hOI.out.cell (i := k) (by rw [firstPl_length]; exact hlt)
        rw [firstPl_getD v a m k hlt] at fa
        have hup := hat.up
        have hlen := hat.len
        have hilo := hat.lo
        have hbk := (unhide HB) k (by omega)
        have hplt := hat.lt
        have hpval := hat.val
        have hkey := hat.key
        have hsub := hat.sub
        generalize M.iter v k (a + 1) = p at *
        generalize M.iter (part v a) k 1 = ik at *
        generalize M.iter (part v a) (k + 1) 1 = ik1 at *
        have hbel := hLk.out.fr.low (unhide HL) (unhide HS) hbw
        have hbw3 := Nat.le_trans hbw hLk.out.fr.size
        have HST := hide (fun W (hW : Below wr.heap.size wr W) => stepTo_any v b off cap a k p W ha hplt ((unhide HRW) W (hbel.trans (hW.mono hbw3))) (by have := hW.size; omega) hcap hvl (keysAt v a) hkey.symm)
        rw [unhide HCL, unhide HOB] at HST
        have HALLK := hide (show O ++ allK (all true f) ob (keysAt v a) (subs v a) ahead (k + 1) = (O ++ allK (all true f) ob (keysAt v a) (subs v a) ahead k) ++ all true f (part v p) (ahead ++ [stepAt ob (keysAt v a) k]) by rw [allK, hsub, List.append_assoc])
        obtain ⟨L, hL⟩ : ∃ L, L = O ++ allK (all true f) ob (keysAt v a) (subs v a) ahead k := ⟨_, rfl⟩
        rw [← hL] at hLk hbk HALLK
        clear hL hat hsub hkey
        obtain ⟨st, hst⟩ : ∃ st, st = stepAt ob (keysAt v a) k := ⟨_, rfl⟩
        rw [← hst] at HST HALLK
        clear hst
        have hk0 : (0 : Int) ≤ (k : Int) := by omega
        have hltI : (k : Int) < (m : Int) := by omega
        have HLT := hide hlt
        have HPV := hide hpval
        clear hlt hpval
        go_wp2_with fail
        refine ((unhide HST) wr (Below.refl _ _)).mono ?_
        rintro e4 w4 ⟨rfl, hb4⟩
        obtain ⟨W5, hW5⟩ : ∃ W5, W5 = w4.alloc (.cells #[.int .i64 st.kind, .int .i64 st.num, .string st.text, .string st.key, .int .i64 st.n] 43) := ⟨_, rfl⟩
        have B5 : Below wr.heap.size wr W5 := by rw [hW5]; exact hb4.alloc hb4.size _
        have B45 : Below w4.heap.size w4 W5 := by rw [hW5]; exact (Below.refl _ _).alloc (Nat.le_refl _) _
        have HN5 := hide (show ∀ j u, (flat [st])[j]? = some u → W5.cell? ((⟨w4.heap.size, 0, none⟩ : Addr).add j) = some u by rw [hW5]; exact one_words w4 st)
        have L5 := hide (hLk.out.below B5)
        have OI5 := hide (hOI.out.below B5 hOI.out.lt)
        have hb5 : base ≤ W5.heap.size := Nat.le_trans hbw3 B5.size
        have hfl := hide (flat_one [st])
        clear HST hb4 fa hLk hOI hbel B45
        have hb63 : ahead.length + 1 ≤ maxLen := by unfold maxLen; omega
        have hby : (ahead.length + 1) * 56 ≤ 140737488355328 := by omega
        go_wp2_with (at_builtin; rw [← hW5]; refine wpList_app rfl (.tmp 33) (.tmp 39) 24 rfl 43 i0 _ 5 56 Tryd.underlying24 hi hz0 hz1 hz2 rfl (by decide) base sv ahead.length (flat ahead) rfl (unhide L5).st ⟨w4.heap.size, 0, none⟩ 1 1 rfl (flat [st]) (by rfl) (unhide HN5) (unhide hfl) hb63 hby hb5 ?_)
        intro sv1 W6 ho6 hk6 hg6 hcs6
        rw [← flat_append] at ho6
        rw [← hW5] at hg6 hcs6
        have hcs6 := hcs6.imp id (fun h => (show (∀ g, sv1.ownBlock = some g → W5.heap.size ≤ g) ∧ W5.grownBy W6 none from ⟨fun g hg => by have := h.1 g hg; rw [hW5]; simpa using this, h.2⟩))
        obtain ⟨ls6, ds6, ch6⟩ := Laid'.child (unhide L5) (unhide HS) (unhide HL) (unhide HD) hbw ho6 hk6 hg6 hcs6
        have hlw := (unhide HS).1
        have B06 : Below base w W6 := ((unhide L5).fr.low (unhide HL) (unhide HS) hbw).grown hg6 hb5 (ownsRow_base (unhide HS))
        have hb6 : base ≤ W6.heap.size := Nat.le_trans hb5 hg6.size
        have HIH := hide (ih.out v b off cap p (ahead ++ [st]) sv1 base PB _ _ cvk evk W6 (unhide HV) hplt (by omega) ((unhide HRW) W6 B06) hb hb6 hcap ls6 (by rw [List.length_append]; exact ho6) ds6 (by rw [List.length_append, List.length_cons, List.length_nil]; omega) (by rw [List.length_append]; omega) (by rw [List.length_append, ends_length]; omega))
        have OI6 : OwnI W6 ba (firstPl v a m) := by
          obtain ⟨ys, y1, y2⟩ := unhide OI5
          exact ⟨ys, grown_own hg6 y1 (other_block (unhide L5).st y1 (by decide)), y2⟩
        have OI7 := hide (fun w7 (hf7 : Fr W6 w7 PB cvk evk sv1) => (show OwnI w7 ba (firstPl v a m) by
          obtain ⟨ys, y1, y2⟩ := OI6
          exact ⟨ys, hf7.other ls6 (ahead := ahead ++ [st]) (by rw [List.length_append]; exact ho6) y1 (by decide) (by decide) (by decide), y2⟩))
        have CH := hide ch6
        clear ls6 ds6 ch6 ho6 hk6 hg6 hcs6 L5 OI5 HN5 hfl hW5 B5 OI6 B06 hb63 hby
        go_wp2_with fail
        refine (unhide HIH).mono ?_
        rintro e7 w7 ⟨rfl, cv7, ev7, hl7⟩
        have L7 := hide ((unhide CH) w7 cv7 ev7 _ hl7)
        rw [← unhide HALLK] at L7
        have O7 := hide ((unhide OI7) w7 hl7.fr)
        clear HIH CH OI7 hl7 HALLK
        go_wp2_with fail
        go_roundg (m - (k + 1))
        case rel => exact ⟨k + 1, cv7, ev7, rfl, by go_num, by have := unhide HLT; omega, unhide L7, unhide O7⟩
        case measure => have := hg.out; have := unhide HLT; omega
      · have hke : k = m := by omega
        have fin := hide (show LaidP base w PB C E cv ev sv ahead (all true (f + 1) (part v a) ahead) wr from ⟨_, _, by rw [unhide HE, ← hke]; exact hLk.out⟩)
        clear hke hLk
        go_wp2_with fail
        go_end0
        exact ⟨rfl, unhide fin⟩

set_option maxRecDepth 100000 in
set_option maxHeartbeats 4000000 in
theorem from_not (f : Nat) (ih : Hid (LaySays true (.func (.func 18) #[] #[]) f)) (v : List M.Cl) (b off cap a : Nat) (ahead : List M.Cl) (sv : Value) (base PB : Nat) (C : List M.Cl) (E : List Nat) (cv ev : Value) (w : World) (hv : M.valueFault v = 0) (ha : a < v.length) (hf : (part v a).length ≤ f + 1) (hrow : Row w b off v) (hb : b < base) (hbw : base ≤ w.heap.size) (hcap : v.length ≤ cap)
    (h : Ls base w PB C E cv ev) (hs : w.ownsRow base 43 5 sv ahead.length (flat ahead)) (hd : Dis cv sv) (hsz : ahead.length + (part v a).length ≤ 300) (hC : C.length + 301 * (part v a).length ≤ 100000) (hE : E.length + (part v a).length ≤ 1000) (h0 : (v.getD a M.zero).n ≠ 0) :
    Calls Tryd.prog 33 #[.pointer (some ⟨PB, 0, none⟩), .slice (some ⟨b, off, none⟩) v.length cap, .int .i64 (a : Int), sv, .func (.func 18) #[] #[]] w fun e w' => e = .returned (.tuple #[]) ∧ LaidP base w PB C E cv ev sv ahead (all true (f + 1) (part v a) ahead) w' := by
  have hvl := (M.fault_zero hv).2.1
  have HB := hide (fun k hk => bound_at true f hv ha ahead hsz k hk)
  have HAT := hide (fun k hk => at_place hv ha (k := k) hk)
  have HE := hide (all_part true f hv ha ahead)
  have HRW := hide (fun W (h : Below base w W) => (show Row W b off v from hrow.below h hb))
  have hbl : b < w.heap.size := Nat.lt_of_lt_of_le hb hbw
  have HCP := hide (fun W (h : Below base w W) (hl : base ≤ W.heap.size) => childPlaces_any v b off cap a W hv ha (hrow.below h hb) (by omega) hcap)
  have hA : M.arity v a ≤ 200 := (M.places_in hv a ha).2.2.2
  have HV := hide hv
  have HL := hide h
  have HS := hide hs
  have HD := hide hd
  obtain ⟨i0, hi, hz0, hz1, hz2⟩ := info_parts Tryd.info43
  obtain ⟨f0, f1, f2, f3, f4⟩ := hrow a ha
  have aI : (a : Int) < (v.length : Int) := by omega
  have a0 : (0 : Int) ≤ (a : Int) := by omega
  have HW := hide (wantL (v.getD a M.zero) w)
  obtain ⟨O, hO⟩ : ∃ O, O = own true (v.getD a M.zero).n ahead := ⟨_, rfl⟩
  rw [← hO] at HB HE
  have HOWN : Hid (O = []) := hide (by rw [hO]; exact if_neg (fun h => h.elim (fun h => by cases h) h0))
  rw [show ((v.getD a M.zero).n == 0) = false from beq_eq_false_iff_ne.2 h0] at HW
  clear h0
  clear hO
  clear hv hrow h hs hd
  generalize hcell : v.getD a M.zero = c at *
  have HCL := hide hcell
  clear hcell
  go_enter Tryd.func33, Tryd.ntmps33
  go_wp2_with fail
  refine (unhide HW).mono ?_
  rintro e w1 ⟨rfl, hb1⟩
  have L1 := hide ((Laid'.start (unhide HL) (unhide HS)).below hb1)
  clear f0 f1 f2 f3 f4 HW
  obtain ⟨w2, hw2⟩ : ∃ w2, w2 = w1 := ⟨_, rfl⟩
  have L2 : Hid (LaidP base w PB C E cv ev sv ahead O w2) := hide ⟨cv, ev, by rw [unhide HOWN, hw2]; exact unhide L1⟩
  clear hb1
  subst hw2
  obtain ⟨m, hm⟩ : ∃ m, m = M.arity v a := ⟨_, rfl⟩
  rw [← hm] at HB HAT HE HCP hA
  have HM := hide hm
  clear hm
  generalize hob : decide (c.kind = 6) = ob at *
  have HOB := hide hob
  clear hob
  obtain ⟨cv2, ev2, L2⟩ := L2.out
  have B2 := hide (L2.fr.low (unhide HL) (unhide HS) hbw)
  have hbw2 := Nat.le_trans hbw L2.fr.size
  have L2 := hide L2
  go_wp2_with fail
  refine ((unhide HCP) w2 (unhide B2) hbw2).mono ?_
  rintro e w3 ⟨sa, rfl, hra, hb3⟩
  have L3 := hide ((unhide L2).below hb3)
  clear HCP L2 B2 hb3
  obtain ⟨_, ⟨rfl, hnil⟩ | ⟨ba, ca, rfl, _, hca, hoa⟩⟩ := hra
  · have hm0 : m = 0 := by have := congrArg List.length hnil; rwa [firstPl_length] at this
    subst hm0
    have fin := hide (show LaidP base w PB C E cv ev sv ahead (all true (f + 1) (part v a) ahead) w3 from ⟨_, _, by rw [unhide HE]; rw [show allK (all true f) ob (keysAt v a) (subs v a) ahead 0 = [] from rfl, List.append_nil]; exact unhide L3⟩)
    go_wp2_with fail
    refine wp_loop_rounds 1 ?_
    rw [rounds_succ]
    go_wp2_with fail
    go_end0
    exact ⟨rfl, unhide fin⟩
  · rw [firstPl_length] at hca ⊢
    have HOA := hide hoa
    clear hoa
    go_wp2_with fail
    go_loopg [25] m (fun gh s25 wr => ∃ (k : Nat) (cvk evk : Value), Hid (gh = m - k) ∧ s25 = .int .i64 (k : Int) ∧ k ≤ m ∧ Hid (Laid' base w wr PB C E cv ev sv ahead (O ++ allK (all true f) ob (keysAt v a) (subs v a) ahead k) cvk evk) ∧ Hid (OwnI wr ba (firstPl v a m)))
    case atStart => exact ⟨0, cv2, ev2, rfl, rfl, by omega, by rw [show allK (all true f) ob (keysAt v a) (subs v a) ahead 0 = [] from rfl, List.append_nil]; exact unhide L3, unhide HOA⟩
    case round =>
      clear L3 HOA
      obtain ⟨k, cvk, evk, hg, rfl, hk, hLk, hOI⟩ := hrel
      by_cases hlt : k < m
      · have hat := (unhide HAT) k hlt
        have fa := hOI.out.cell (i := k) (by rw [firstPl_length]; exact hlt)
        rw [firstPl_getD v a m k hlt] at fa
        have hup := hat.up
        have hlen := hat.len
        have hilo := hat.lo
        have hbk := (unhide HB) k (by omega)
        have hplt := hat.lt
        have hpval := hat.val
        have hkey := hat.key
        have hsub := hat.sub
        generalize M.iter v k (a + 1) = p at *
        generalize M.iter (part v a) k 1 = ik at *
        generalize M.iter (part v a) (k + 1) 1 = ik1 at *
        have hbel := hLk.out.fr.low (unhide HL) (unhide HS) hbw
        have hbw3 := Nat.le_trans hbw hLk.out.fr.size
        have HST := hide (fun W (hW : Below wr.heap.size wr W) => stepTo_any v b off cap a k p W ha hplt ((unhide HRW) W (hbel.trans (hW.mono hbw3))) (by have := hW.size; omega) hcap hvl (keysAt v a) hkey.symm)
        rw [unhide HCL, unhide HOB] at HST
        have HALLK := hide (show O ++ allK (all true f) ob (keysAt v a) (subs v a) ahead (k + 1) = (O ++ allK (all true f) ob (keysAt v a) (subs v a) ahead k) ++ all true f (part v p) (ahead ++ [stepAt ob (keysAt v a) k]) by rw [allK, hsub, List.append_assoc])
        obtain ⟨L, hL⟩ : ∃ L, L = O ++ allK (all true f) ob (keysAt v a) (subs v a) ahead k := ⟨_, rfl⟩
        rw [← hL] at hLk hbk HALLK
        clear hL hat hsub hkey
        obtain ⟨st, hst⟩ : ∃ st, st = stepAt ob (keysAt v a) k := ⟨_, rfl⟩
        rw [← hst] at HST HALLK
        clear hst
        have hk0 : (0 : Int) ≤ (k : Int) := by omega
        have hltI : (k : Int) < (m : Int) := by omega
        have HLT := hide hlt
        have HPV := hide hpval
        clear hlt hpval
        go_wp2_with fail
        refine ((unhide HST) wr (Below.refl _ _)).mono ?_
        rintro e4 w4 ⟨rfl, hb4⟩
        obtain ⟨W5, hW5⟩ : ∃ W5, W5 = w4.alloc (.cells #[.int .i64 st.kind, .int .i64 st.num, .string st.text, .string st.key, .int .i64 st.n] 43) := ⟨_, rfl⟩
        have B5 : Below wr.heap.size wr W5 := by rw [hW5]; exact hb4.alloc hb4.size _
        have B45 : Below w4.heap.size w4 W5 := by rw [hW5]; exact (Below.refl _ _).alloc (Nat.le_refl _) _
        have HN5 := hide (show ∀ j u, (flat [st])[j]? = some u → W5.cell? ((⟨w4.heap.size, 0, none⟩ : Addr).add j) = some u by rw [hW5]; exact one_words w4 st)
        have L5 := hide (hLk.out.below B5)
        have OI5 := hide (hOI.out.below B5 hOI.out.lt)
        have hb5 : base ≤ W5.heap.size := Nat.le_trans hbw3 B5.size
        have hfl := hide (flat_one [st])
        clear HST hb4 fa hLk hOI hbel B45
        have hb63 : ahead.length + 1 ≤ maxLen := by unfold maxLen; omega
        have hby : (ahead.length + 1) * 56 ≤ 140737488355328 := by omega
        go_wp2_with (at_builtin; rw [← hW5]; refine wpList_app rfl (.tmp 33) (.tmp 39) 24 rfl 43 i0 _ 5 56 Tryd.underlying24 hi hz0 hz1 hz2 rfl (by decide) base sv ahead.length (flat ahead) rfl (unhide L5).st ⟨w4.heap.size, 0, none⟩ 1 1 rfl (flat [st]) (by rfl) (unhide HN5) (unhide hfl) hb63 hby hb5 ?_)
        intro sv1 W6 ho6 hk6 hg6 hcs6
        rw [← flat_append] at ho6
        rw [← hW5] at hg6 hcs6
        have hcs6 := hcs6.imp id (fun h => (show (∀ g, sv1.ownBlock = some g → W5.heap.size ≤ g) ∧ W5.grownBy W6 none from ⟨fun g hg => by have := h.1 g hg; rw [hW5]; simpa using this, h.2⟩))
        obtain ⟨ls6, ds6, ch6⟩ := Laid'.child (unhide L5) (unhide HS) (unhide HL) (unhide HD) hbw ho6 hk6 hg6 hcs6
        have hlw := (unhide HS).1
        have B06 : Below base w W6 := ((unhide L5).fr.low (unhide HL) (unhide HS) hbw).grown hg6 hb5 (ownsRow_base (unhide HS))
        have hb6 : base ≤ W6.heap.size := Nat.le_trans hb5 hg6.size
        have HIH := hide (ih.out v b off cap p (ahead ++ [st]) sv1 base PB _ _ cvk evk W6 (unhide HV) hplt (by omega) ((unhide HRW) W6 B06) hb hb6 hcap ls6 (by rw [List.length_append]; exact ho6) ds6 (by rw [List.length_append, List.length_cons, List.length_nil]; omega) (by rw [List.length_append]; omega) (by rw [List.length_append, ends_length]; omega))
        have OI6 : OwnI W6 ba (firstPl v a m) := by
          obtain ⟨ys, y1, y2⟩ := unhide OI5
          exact ⟨ys, grown_own hg6 y1 (other_block (unhide L5).st y1 (by decide)), y2⟩
        have OI7 := hide (fun w7 (hf7 : Fr W6 w7 PB cvk evk sv1) => (show OwnI w7 ba (firstPl v a m) by
          obtain ⟨ys, y1, y2⟩ := OI6
          exact ⟨ys, hf7.other ls6 (ahead := ahead ++ [st]) (by rw [List.length_append]; exact ho6) y1 (by decide) (by decide) (by decide), y2⟩))
        have CH := hide ch6
        clear ls6 ds6 ch6 ho6 hk6 hg6 hcs6 L5 OI5 HN5 hfl hW5 B5 OI6 B06 hb63 hby
        go_wp2_with fail
        refine (unhide HIH).mono ?_
        rintro e7 w7 ⟨rfl, cv7, ev7, hl7⟩
        have L7 := hide ((unhide CH) w7 cv7 ev7 _ hl7)
        rw [← unhide HALLK] at L7
        have O7 := hide ((unhide OI7) w7 hl7.fr)
        clear HIH CH OI7 hl7 HALLK
        go_wp2_with fail
        go_roundg (m - (k + 1))
        case rel => exact ⟨k + 1, cv7, ev7, rfl, by go_num, by have := unhide HLT; omega, unhide L7, unhide O7⟩
        case measure => have := hg.out; have := unhide HLT; omega
      · have hke : k = m := by omega
        have fin := hide (show LaidP base w PB C E cv ev sv ahead (all true (f + 1) (part v a) ahead) wr from ⟨_, _, by rw [unhide HE, ← hke]; exact hLk.out⟩)
        clear hke hLk
        go_wp2_with fail
        go_end0
        exact ⟨rfl, unhide fin⟩

theorem saysE : ∀ f, LaySays false (.func (.func 16) #[] #[]) f := by
  intro f
  induction f with
  | zero => intro v b off cap a ahead sv base PB C E cv ev w hv ha hf; have := (fault_len (part_valid hv ha)).1; omega
  | succ f ih => intro v b off cap a ahead sv base PB C E cv ev w hv ha hf hrow hb hbw hcap h hs hd hsz hC hE; exact from_every f (hide ih) v b off cap a ahead sv base PB C E cv ev w hv ha hf hrow hb hbw hcap h hs hd hsz hC hE
theorem saysL : ∀ f, LaySays true (.func (.func 18) #[] #[]) f := by
  intro f
  induction f with
  | zero => intro v b off cap a ahead sv base PB C E cv ev w hv ha hf; have := (fault_len (part_valid hv ha)).1; omega
  | succ f ih =>
    intro v b off cap a ahead sv base PB C E cv ev w hv ha hf hrow hb hbw hcap h hs hd hsz hC hE
    by_cases h0 : (v.getD a M.zero).n = 0
    · exact from_leaf f (hide ih) v b off cap a ahead sv base PB C E cv ev w hv ha hf hrow hb hbw hcap h hs hd hsz hC hE h0
    · exact from_not f (hide ih) v b off cap a ahead sv base PB C E cv ev w hv ha hf hrow hb hbw hcap h hs hd hsz hC hE h0
end Al
end Go.Proofs.YtfcglmkbfdfaeaaDoor
