/-
  impl.DeepOf; spec.l6All, spec.l6Deep, spec.DeepOf.
-/
import Derived.Test.YthbiclpifeobkaaQ44
import Derived.Test.YthbiclpifeobkaaQ45
import Derived.Test.YthbiclpifeobkaaQ50
import Derived.Maps.AppendAt
namespace Go.Proofs.Ythbiclpifeobkaa
open Go.RowKit
set_option linter.unusedVariables false

set_option maxRecDepth 100000 in
set_option maxHeartbeats 4000000 in
theorem implDeepOf_any (v : List M.Cl) (b off cap : Nat) (w : World) (hrow : Row w b off v) (hb : b < w.heap.size) (hn : v.length ≤ 1048576) (hcap : v.length ≤ cap) (hok : ∀ c ∈ v, c.ok) :
    Calls Try.prog 32 #[.slice (some ⟨b, off, none⟩) v.length cap] w (Ans w (deepOut v)) := by
  obtain ⟨i0, hi, hz0, hz1, hz2⟩ := info_parts Try.info24
  have OK := hide hok
  have B0 : ∀ o, Below w.heap.size w (w.alloc o) := fun o => (Below.refl _ _).alloc (Nat.le_refl _) o
  have HB0 := hide B0
  clear B0 hok
  go_enter Try.func32, Try.ntmps32
  go_wp2_with fail
  refine (implFault_any v b off cap _ (hrow.below ((unhide HB0) _) hb) (by simp; omega) hn hcap (unhide OK)).mono ?_
  rintro e1 w1 ⟨rfl, hb1⟩
  have hR : Own w1 w.heap.size 41 [.int .i64 0, .slice none 0 0] := Own.below ⟨_, heap_alloc_new _ _, rfl⟩ hb1 (by simp)
  have B1 : Below w.heap.size w w1 := ((unhide HB0) _).trans (hb1.mono (by simp))
  have hrow1 := hrow.below B1 hb
  have hb1' : b < w1.heap.size := Nat.lt_of_lt_of_le hb B1.size
  clear hb1
  by_cases hv : M.valueFault v = 0
  · rw [hv]
    have fin := hide (dpo_ok hv)
    have hl1 := (M.fault_zero hv).1
    have hl2 := (M.fault_zero hv).2.1
    have HALL := hide (deep_all hv (unhide OK))
    have HMD := hide (deep_made hv (unhide OK))
    have HPT := hide (fun a (ha : a < v.length) w' (r : Row w' b off v) hb' => partOf_any v b off cap a w' hv ha r hb' hcap)
    clear hv OK
    go_wp2_with fail
    go_loopg [4, 14] v.length (fun gh s4 s14 wr => ∃ k : Nat, Hid (gh = v.length - k) ∧ s14 = .int .i64 k ∧ k ≤ v.length ∧ Hid (SS wr w1.heap.size s4 (deepK v k)) ∧ Below w1.heap.size w1 wr)
    case atStart => exact ⟨0, rfl, rfl, by omega, SS.nil _ _, Below.refl _ _⟩
    case round =>
      obtain ⟨k, hg, rfl, hk, hss, hbel⟩ := hrel
      by_cases hlt : k < v.length
      · have hbr : b < wr.heap.size := Nat.lt_of_lt_of_le hb1' hbel.size
        go_wp2_with fail
        refine ((unhide HPT) k hlt _ (hrow1.below hbel hb1') hbr).mono ?_
        rintro e2 w2 ⟨sp, rfl, hrp0, hb2⟩
        have B2 : Below w1.heap.size w1 w2 := hbel.trans (hb2.mono hbel.size)
        have hrp : Res w2 w1.heap.size sp (part v k) := hrp0.mono hbel.size
        have hss1 := (hss.out).below hb2
        clear hss hb2 hrp0 hbel
        obtain ⟨ss, hsl, hown, hres⟩ := hss1
        obtain ⟨pa, pn, pc, rfl⟩ := hrp.shape
        have hlk := deepK_length v k
        have hown3 := hide (fun o => (hlk ▸ hown : World.ownsRow w2 w1.heap.size 24 1 _ k ss).alloc o)
        have hbse := hide (ownsRow_base hown)
        have hone := hide (one_val w2 (.slice pa pn pc) 24)
        have honep := hide (one_plain' pa pn pc)
        have hsn := hide (fun w' o v' hg ho => SS.snoc (w3 := w') (o := o) (v' := v') hlk hsl hown hres hrp hg ho)
        have hb63 : k + 1 ≤ maxLen := by unfold maxLen; omega
        have hby : (k + 1) * 24 ≤ 140737488355328 := by omega
        have hbase : w1.heap.size ≤ w2.heap.size + 1 := by have := B2.size; omega
        clear hown hres hrp hsl hlk
        go_wp2_with (at_builtin; refine wpList_append_own _ rfl (.tmp 17) (.tmp 21) 31 rfl w1.heap.size 24 i0 (.slice none 0 0) 1 24 Try.underlying31 hi hz0 hz1 hz2 rfl (by decide) _ k ss rfl ((unhide hown3) _) ⟨w2.heap.size, 0, none⟩ 1 1 [.slice pa pn pc] rfl rfl (unhide hone) (unhide honep) hb63 hby (by simpa using hbase) ?_)
        intro v' w3 ho' hg' _
        have hss' := hide ((unhide hsn) _ _ _ hg' ho')
        have B3 : Below w1.heap.size w1 w3 := (B2.alloc B2.size _).grown hg' (by simpa using hbase) (unhide hbse)
        rw [deepK_succ] at hss'
        clear hg' ho' B2
        go_wp2_with fail
        go_roundg (v.length - (k + 1))
        case rel => exact ⟨k + 1, rfl, by go_num, by omega, unhide hss', B3⟩
        case measure => have := hg.out; omega
      · have hke : k = v.length := by omega
        have hss2 : SS wr w1.heap.size u4 (deepL v) := by have := hss.out; rw [hke] at this; exact this
        obtain ⟨la, lc, hsh, hlc, hlv⟩ := hss2.lv (valid_ne (unhide HALL).2.1)
        subst hsh
        have BR : Below w.heap.size w wr := B1.trans (hbel.mono B1.size)
        have hRr := hR.below hbel hR.lt
        have hwr : w.heap.size < wr.heap.size := hRr.lt
        have HLE := hide (show (deepL v).length ≤ 4096 by have := (unhide HALL).1; omega)
        clear hss hss2 hke
        go_wp2_with fail
        refine (layArrayV_any la lc (deepL v) _ hlv hlc (unhide HLE) (unhide HALL).2.1).mono ?_
        rintro e2 w2 ⟨s2, rfl, hr2, hb2⟩
        have hR2 := hRr.below hb2 hRr.lt
        have B2 : Below w.heap.size w w2 := BR.trans (hb2.mono BR.size)
        have HT := hide (implTold_any s2 _ _ w2 hr2 hb2.size (unhide HMD).1 (unhide HMD).2.1 (unhide HMD).2.2)
        obtain ⟨at2, mt2, ct2, rfl⟩ := hr2.shape
        have fin2 := hide ((unhide fin).trans (show deepIn v = told (arrV (deepL v)) from rfl))
        clear hr2 hb2 hlv
        generalize hR2 : told (arrV (deepL v)) = R at *
        obtain ⟨rc, rl⟩ := R
        clear hR2
        go_wp2_with fail
        refine (unhide HT).mono ?_
        rintro e3 w3 ⟨s3, rfl, hr3, hb3⟩
        have hR3 := hR2.below hb3 hR2.lt
        have r0 := hR3.cell 0
        have r1 := hR3.cell 1
        have z0 := hR3.frozen 0
        have z1 := hR3.frozen 1
        simp only [List.getElem?_cons_zero, List.getElem?_cons_succ] at r0 r1
        have HE := hide (Ans.storeC hr3 hwr (B2.trans (hb3.mono B2.size)))
        obtain ⟨ac, mc, cc, rfl⟩ := hr3.shape
        clear hr3 hb3 HT
        go_wp2_with fail
        refine bodyPost_ret (v := .agg #[.int .i64 rc, .slice ac mc cc]) (by simp [results, Try.results32, go_sem, r0, r1]) rfl (ans_of (unhide fin2) ((unhide HE) _ _).1 ((unhide HE) _ _).2)
  · have fin := hide (dpo_bad hv)
    generalize M.valueFault v = q at *
    have hq : (q != 0) = true := by simpa using hv
    have r0 := hR.cell 0
    have r1 := hR.cell 1
    have z0 := hR.frozen 0
    have z1 := hR.frozen 1
    simp only [List.getElem?_cons_zero, List.getElem?_cons_succ] at r0 r1
    go_wp2_with fail
    refine bodyPost_ret (v := .agg #[.int .i64 q, .slice none 0 0]) (by simp [results, Try.results32, go_sem, r0, r1]) rfl (ans_of (unhide fin) ⟨by simp, .inl ⟨rfl, rfl⟩⟩ ((B1.setCell (Nat.le_refl _) _).setCell (Nat.le_refl _) _))

/-- A list of its own, as a row. -/
theorem Res.rowedD {w : World} {B : Nat} {s : Value} {l : List M.Cl} (h : Res w B s l) (hne : l ≠ []) : ∃ b cap, s = .slice (some ⟨b, 0, none⟩) l.length cap ∧ l.length ≤ cap ∧ b < w.heap.size ∧ Row w b 0 l := by
  obtain ⟨_, ⟨_, h2⟩ | ⟨c, cc, h3, h4, h5, h6⟩⟩ := h
  · exact absurd h2 hne
  · exact ⟨c, cc, h3, h5, h6.lt, h6.row⟩
/-- A row is appended to a row of the call's own, whether it is nil or not; where the new row lies is told. -/
theorem append_row_at {P : Program} {w : World} {ops : Array Oper} {rest : List Oper} {o : Oper} {a : Act} {Q : Exit → Act → World → Prop} (hgd : o.guard = none) (s x : Operand) (t : TypeId)
    (ho : o.op = .call { callee := .builtin .append, args := #[s, x], argTypes := #[t, t] })
    (base : Nat) (e : TypeId) (i : TypeInfo) (z : Value) (bytes : Nat) (ht : P.underlying t = some (.slice e)) (hi : P.info? e = some i) (hz : i.zero = some z)
    (hsize : i.size = 1) (hby : i.bytes = bytes) (hzs : z.cells.size = 1)
    (v : Value) (n : Nat) (xs : List Value) (hs : a.eval s = v) (hown : w.ownsRow base e 1 v n xs)
    (base2 : Nat) (e2 : TypeId) (v2 : Value) (m : Nat) (ys : List Value) (hx : a.eval x = v2) (hown2 : w.ownsRow base2 e2 1 v2 m ys) (h1 : ∀ u ∈ ys, u.oneCell' = true)
    (h63 : n + m ≤ maxLen) (hbytes : (n + m) * bytes ≤ 140737488355328) (hbase : base ≤ w.heap.size)
    (h : ∀ v' w', w'.ownsRow base e 1 v' (n + m) (xs ++ ys) → w.grownBy w' v.ownBlock → (v'.ownBlock = v.ownBlock ∨ v'.ownBlock = some w.heap.size) → wpList P ops Q rest (a.put o.dst v') w') : wpList P ops Q (o :: rest) a w := by
  obtain ⟨hlen, ⟨hv2, h0⟩ | ⟨g, cap, cur, hv2, hg, hh, hnc, hcm, hcs, htk⟩⟩ := hown2
  · subst h0
    have hys : ys = [] := List.length_eq_zero_iff.1 (by omega)
    subst hys
    refine wpList_append_own_none hgd s x t ho base e i 1 ht hi v n xs hs hown (hx.trans hv2) (h v w (by simpa using hown) ⟨rfl, rfl, rfl, Nat.le_refl _, fun _ _ _ => rfl⟩ (.inl rfl))
  · refine wpList_append_own_at w hgd s x t ho base e i z 1 bytes ht hi hz hsize hby hzs (by decide) v n xs hs hown ⟨g, 0, none⟩ m cap ys (hx.trans hv2) hlen (fun j u hu => ?_) h1 h63 hbytes hbase (fun v' w' q1 q2 _ q4 => h v' w' q1 q2 q4)
    have hj : j < m := by have := (List.getElem?_eq_some_iff.1 hu).1; omega
    have ha : (⟨g, 0, none⟩ : Addr).add j = ⟨g, j, none⟩ := by
      unfold Addr.add; split <;> simp_all
    rw [ha, row_at (base := 0) (cap := 0) hh htk hj]
    exact hu

theorem deepL_length (v : List M.Cl) : (deepL v).length = v.length := deepK_length _ _
theorem sub_at {v : List M.Cl} {k : Nat} (hk : k < (subs v 0).length) : (subs v 0).getD k [] = part v (M.iter v k 1) := by
  rw [← firstS_all] at hk ⊢
  rw [firstS_length] at hk
  exact firstS_getD v _ k hk
theorem sub_short {v : List M.Cl} (hv : M.valueFault v = 0) {k : Nat} (hk : k < (subs v 0).length) : ((subs v 0).getD k []).length < v.length := by
  have hl1 := (M.fault_zero hv).1
  have hin := M.places_in hv 0 (by omega)
  rw [sub_at hk]
  rw [subs_length] at hk
  have h1 := hin.1 k hk
  simp only [Nat.zero_add] at h1
  have hp : M.iter v k 1 < v.length := by have := hin.2.2.1; omega
  have := part_len hv hp
  have := end_gt hv hp
  omega
theorem iter_bound {v : List M.Cl} (hv : M.valueFault v = 0) {k : Nat} (hk : k ≤ M.arity v 0) : M.iter v k 1 ≤ v.length := by
  have hl1 := (M.fault_zero hv).1
  have hin := M.places_in hv 0 (by omega)
  have h9 := hin.2.2.1
  by_cases h : k = M.arity v 0
  · have := hin.2.1; simp only [Nat.zero_add] at this; subst h; omega
  · have := hin.1 k (by omega); simp only [Nat.zero_add] at this; omega
/-- What the walk of all values in one holds: the parts, and what was told so far. -/
structure Al (w0 wr : World) (B : Nat) (s3 s4 : Value) (v : List M.Cl) (k : Nat) : Prop where
  parts : SS wr B s4 (subs v 0)
  out : SS wr B s3 (deepK v (M.iter v k 1))
  ap : Apart s3 s4
  bel : Below B w0 wr
  low : B ≤ wr.heap.size
theorem Al.below {w0 wr w' : World} {B : Nat} {s3 s4 : Value} {v : List M.Cl} {k : Nat} (h : Al w0 wr B s3 s4 v k) (hb : Below wr.heap.size wr w') : Al w0 w' B s3 s4 v k :=
  ⟨h.parts.below hb, h.out.below hb, h.ap, h.bel.trans (hb.mono h.low), Nat.le_trans h.low hb.size⟩
/-- The values in one part are told: what an append asks and what it gives. -/
theorem Al.put {w0 wr : World} {B C : Nat} {s3 s4 sp : Value} {v : List M.Cl} {k : Nat} (h : Al w0 wr B s3 s4 v k) (hv : M.valueFault v = 0) (hk : k < M.arity v 0) (hp : SS wr C sp (deepL (part v (M.iter v k 1)))) (hC : B ≤ C) :
    ∃ ss tt, wr.ownsRow B 24 1 s3 (M.iter v k 1) ss ∧ wr.ownsRow C 24 1 sp (part v (M.iter v k 1)).length tt ∧ (∀ u ∈ tt, u.oneCell' = true) ∧ M.iter v k 1 + (part v (M.iter v k 1)).length ≤ 200 ∧ ∀ v' w', w'.ownsRow B 24 1 v' (M.iter v k 1 + (part v (M.iter v k 1)).length) (ss ++ tt) → wr.grownBy w' s3.ownBlock → (v'.ownBlock = s3.ownBlock ∨ v'.ownBlock = some wr.heap.size) → Al w0 w' B v' s4 v (k + 1) := by
  obtain ⟨ss, hsl, hown, hres⟩ := h.out
  obtain ⟨tt, htl, hown2, hres2⟩ := hp
  have hl2 := (M.fault_zero hv).2.1
  have hb9 := iter_bound hv (k := k + 1) (by omega)
  have hst := congrArg List.length (deep_step hv hk)
  rw [List.length_append, deepK_length, deepK_length, deepL_length] at hst
  have hdl := deepL_length (part v (M.iter v k 1))
  have hkl := deepK_length v (M.iter v k 1)
  refine ⟨ss, tt, by rw [hkl] at hown; exact hown, by rw [hdl] at hown2; exact hown2, SS.one (v := sp) htl hres2, by omega, fun v' w' ho hg hat => ?_⟩
  obtain ⟨x4, hx4⟩ := h.parts.ownsRow
  have hbse := ownsRow_base hown
  refine ⟨h.parts.keptB hown h.ap.or hg, ?_, h.ap.next (fun g hg' => (row_blt hx4 g hg').2) hat, h.bel.grown hg h.low hbse, Nat.le_trans h.low hg.size⟩
  rw [← deep_step hv hk]
  exact SS.join hsl hown hres htl hres2 hC hg (by rw [hkl, hdl]; exact ho)

set_option maxRecDepth 100000 in
set_option maxHeartbeats 4000000 in
theorem l6All_any (N : Nat) : ∀ (v : List M.Cl) (b off cap : Nat) (w : World) (hN : v.length < N) (hv : M.valueFault v = 0) (hrow : Row w b off v) (hb : b < w.heap.size) (hcap : v.length ≤ cap) (hok : ∀ c ∈ v, c.ok),
    Calls Try.prog 95 #[.slice (some ⟨b, off, none⟩) v.length cap] w fun e w' => ∃ s, e = .returned s ∧ SS w' w.heap.size s (deepL v) ∧ Below w.heap.size w w' := by
  induction N with
  | zero => intro v _ _ _ _ h; omega
  | succ N ih =>
  intro v b off cap w hN hv hrow hb hcap hok
  have hl1 := (M.fault_zero hv).1
  have hl2 := (M.fault_zero hv).2.1
  have hall := subs_all hv hok
  have HNE := hide hall.2.2.2
  have HREC : Hid (∀ k (wr : World) b2 c2, k < (subs v 0).length → Row wr b2 0 ((subs v 0).getD k []) → b2 < wr.heap.size → ((subs v 0).getD k []).length ≤ c2 → Calls Try.prog 95 #[.slice (some ⟨b2, 0, none⟩) ((subs v 0).getD k []).length c2] wr fun e w' => ∃ s, e = .returned s ∧ SS w' wr.heap.size s (deepL ((subs v 0).getD k [])) ∧ Below wr.heap.size wr w') := fun k wr b2 c2 h1 h2 h3 h4 =>
    ih _ b2 0 c2 wr (by have := sub_short hv h1; omega) (hall.2.1 k h1) h2 h3 h4 (hall.2.2.1 k h1)
  have h200 := hall.1
  have HPF := hide (fun w' (r : Row w' b off v) hb' => l1Parts_any v b off cap w' hv r hb' hcap hok)
  obtain ⟨i0, hi, hz0, hz1, hz2⟩ := info_parts Try.info24
  obtain ⟨j0, hj, hy0, hy1, hy2⟩ := info_parts Try.info44
  have hsub := subs_length v 0
  have HV := hide hv
  have HD0 := hide (deep_zero hv)
  have HDE := hide (deep_end hv)
  clear ih hall hv hok
  obtain ⟨w0, hw0⟩ : ∃ w0, w0 = w.alloc (.cells #[] 44) := ⟨_, rfl⟩
  have hs0 : w0.heap.size = w.heap.size + 1 := by rw [hw0]; simp
  have B00 : Below w.heap.size w w0 := by rw [hw0]; exact (Below.refl _ _).alloc (Nat.le_refl _) _
  have hO : w0.ownsRow w.heap.size 44 5 (.slice (some ⟨w.heap.size, 0, none⟩) 0 0) 0 [] := by rw [hw0]; exact ⟨rfl, .inr ⟨w.heap.size, 0, #[], rfl, Nat.le_refl _, heap_alloc_new _ _, Nat.le_refl _, by simp [maxLen], rfl, rfl⟩⟩
  have hrow0 := hrow.below B00 hb
  have hnews := hide (row_words hrow0)
  have hone := hide (flat_one v)
  have HFL := hide (flat_length v)
  have hb63 : 0 + v.length ≤ maxLen := by unfold maxLen; omega
  have hby : (0 + v.length) * 56 ≤ 140737488355328 := by omega
  have HO := hide hO
  have hbse := hide (ownsRow_base hO)
  clear hO hrow0
  rw [hw0] at HO hnews
  go_enter Try.func95, Try.ntmps95
  go_wp2_with (at_builtin; refine wpList_append_own _ rfl (.tmp 6) (.tmp 7) 24 rfl w.heap.size 44 j0 _ 5 56 Try.underlying24 hj hy0 hy1 hy2 rfl (by decide) _ 0 _ rfl (unhide HO) ⟨b, off, none⟩ v.length cap (flat v) rfl (unhide HFL) (unhide hnews) (unhide hone) hb63 hby (by simp) ?_)
  intro sv w1 ho1 hg1 _
  have B1 : Below w.heap.size w w1 := (by rw [hw0] at B00; exact B00 : Below w.heap.size w _).grown hg1 (by simp) (unhide hbse)
  have hr1 : Res w1 w.heap.size sv v := res_of_owns ho1 (by omega)
  obtain ⟨pa, pn, pc, hsv⟩ := hr1.shape
  clear ho1 hg1 HO hnews hone HFL hbse
  have HR1 := hide hr1
  clear hr1
  subst hsv
  go_wp2_with fail
  obtain ⟨w2, hw2⟩ : ∃ w2, w2 = w1.alloc (.cells #[.slice pa pn pc] 24) := ⟨_, rfl⟩
  rw [← hw2]
  have hs2 : w2.heap.size = w1.heap.size + 1 := by rw [hw2]; simp
  have B2 : Below w.heap.size w w2 := by rw [hw2]; exact B1.alloc B1.size _
  have hS2 : SS w2 w.heap.size (.slice (some ⟨w1.heap.size, 0, none⟩) 1 1) [v] := by
    rw [hw2]
    refine ⟨[.slice pa pn pc], rfl, ⟨rfl, .inr ⟨w1.heap.size, 1, #[.slice pa pn pc], rfl, B1.size, heap_alloc_new _ _, Nat.le_refl _, by simp [maxLen], rfl, rfl⟩⟩, fun i hi => ?_⟩
    have : i = 0 := by simp at hi; omega
    subst this
    exact (unhide HR1).alloc _
  clear hw2
  refine ((unhide HPF) _ (hrow.below B2 hb) (Nat.lt_of_lt_of_le hb B2.size)).mono ?_
  rintro e3 w3 ⟨s4, rfl, hs4, hb3⟩
  have L0 : Al w w3 w.heap.size (.slice (some ⟨w1.heap.size, 0, none⟩) 1 1) s4 v 0 := by
    refine ⟨hs4.mono B2.size, by rw [unhide HD0]; exact hS2.below hb3, fun g hg e => ?_, B2.trans (hb3.mono B2.size), Nat.le_trans B2.size hb3.size⟩
    obtain ⟨x4, hx4⟩ := hs4.ownsRow
    have := (row_blt hx4 g hg).1
    simp only [Value.ownBlock, Option.some.injEq] at e
    omega
  obtain ⟨qa, qc, hsh, hqc, _⟩ := hs4.lv (unhide HNE)
  subst hsh
  have HL0 := hide L0
  clear L0 hS2 hs4 hb3 HPF B00 B1 B2 HR1
  obtain ⟨m, hm⟩ : ∃ m, m = (subs v 0).length := ⟨_, rfl⟩
  have HM := hide hm
  have hma : m = M.arity v 0 := by rw [hm, hsub]
  have HMA := hide hma
  rw [← hm] at hqc h200 HL0 ⊢
  clear hm hma hsub
  go_wp2_with fail
  go_loopg [3, 5] m (fun gh s3 s5 wr => ∃ k : Nat, Hid (gh = m - k) ∧ s5 = .int .i64 k ∧ k ≤ m ∧ Hid (Al w wr w.heap.size s3 (.slice qa m qc) v k))
  case atStart => exact ⟨0, rfl, rfl, by omega, unhide HL0⟩
  case round =>
    clear HL0
    obtain ⟨k, hg, rfl, hk, hL⟩ := hrel
    by_cases hlt : k < m
    · have hlt2 : k < (subs v 0).length := by rw [← unhide HM]; exact hlt
      obtain ⟨g2, cap2, sq, heq2, hcap2, f2, hr2⟩ := (hL.out).parts.at hlt2
      rw [← unhide HM] at heq2 hcap2
      cases heq2
      obtain ⟨b2, c2, hsq, hc2, hb2, hrw2⟩ := hr2.rowedD ((unhide HNE) k hlt2)
      subst hsq
      have HQ := hide ((unhide HREC) k wr b2 c2 hlt2 hrw2 hb2 hc2)
      have HPUT : Hid (∀ w7, Below wr.heap.size wr w7 → ∀ sp, SS w7 wr.heap.size sp (deepL ((subs v 0).getD k [])) → _) := fun w7 h7 sp hsp => ((hL.out).below h7).put (unhide HV) (by rw [← unhide HMA]; exact hlt) (by rw [sub_at hlt2] at hsp; exact hsp) (hL.out).low
      have hsz := (hL.out).low
      clear hL hr2 hrw2 hlt2
      generalize deepL ((subs v 0).getD k []) = dl at HQ HPUT
      generalize ((subs v 0).getD k []).length = x2 at f2 HQ hc2
      go_wp2_with fail
      refine (unhide HQ).mono ?_
      rintro e7 w7 ⟨sp, rfl, hsp, hb7⟩
      obtain ⟨ss, tt, hown, hown2, hone, h200', hput⟩ := (unhide HPUT) w7 hb7 sp hsp
      have HO1 := hide hown
      have HO2 := hide hown2
      have HON := hide hone
      have HP := hide hput
      have hsz7 : w.heap.size ≤ w7.heap.size := Nat.le_trans hsz hb7.size
      clear HPUT HQ hown hown2 hone hput hsp hb7 f2
      generalize (part v (M.iter v k 1)).length = pl at *
      generalize M.iter v k 1 = p at HO1 HO2 HP h200'
      have hb63 : p + pl ≤ maxLen := by unfold maxLen; omega
      have hby : (p + pl) * 24 ≤ 140737488355328 := by omega
      go_wp2_with (at_builtin; refine append_row_at rfl (.tmp 18) (.tmp 23) 31 rfl w.heap.size 24 i0 (.slice none 0 0) 24 Try.underlying31 hi hz0 hz1 hz2 rfl _ p ss rfl (unhide HO1) wr.heap.size 24 _ pl tt rfl (unhide HO2) (unhide HON) hb63 hby hsz7 ?_)
      intro v8 w8 ho8 hg8 hat8
      have R := hide ((unhide HP) v8 w8 ho8 hg8 hat8)
      clear ho8 hg8 hat8 HP HO1 HO2 HON
      go_wp2_with fail
      go_roundg (m - (k + 1))
      case rel => exact ⟨k + 1, rfl, by go_num, by omega, unhide R⟩
      case measure => have := hg.out; omega
    · have hke : k = m := by omega
      subst hke
      have hfin : SS wr w.heap.size u3 (deepL v) := by have := (hL.out).out; rw [unhide HMA, unhide HDE] at this; exact this
      have hbl := (hL.out).bel
      obtain ⟨fa, fc, hfs, _, _⟩ := hfin.lv (fun i hi => by
        rw [deepL_length] at hi
        rw [show (deepL v).getD i [] = part v i from deepK_getD v hi]
        intro e
        have := (fault_len (part_valid (unhide HV) hi)).1
        rw [e] at this
        simp at this)
      have HF := hide hfin
      clear hL hfin
      subst hfs
      go_wp2_with fail
      go_ret
      exact ⟨_, rfl, unhide HF, hbl⟩

set_option maxRecDepth 100000 in
set_option maxHeartbeats 4000000 in
theorem l6Deep_any (v : List M.Cl) (b off cap : Nat) (w : World) (hv : M.valueFault v = 0) (hrow : Row w b off v) (hb : b < w.heap.size) (hcap : v.length ≤ cap) (hok : ∀ c ∈ v, c.ok) :
    Calls Try.prog 72 #[.slice (some ⟨b, off, none⟩) v.length cap] w (Ans w (deepIn v)) := by
  have fin := hide (show deepIn v = told (arrV (deepL v)) from rfl)
  have HALL := hide (deep_all hv hok)
  have HMD := hide (deep_made hv hok)
  have HLE := hide (show (deepL v).length ≤ 4096 by have := (unhide HALL).1; omega)
  obtain ⟨w0, hw0⟩ : ∃ w0, w0 = w.alloc (.cells #[.int .i64 0, .slice none 0 0] 41) := ⟨_, rfl⟩
  have HR0 : Own w0 w.heap.size 41 [.int .i64 0, .slice none 0 0] := by rw [hw0]; exact ⟨_, heap_alloc_new _ _, rfl⟩
  have B00 : Below w.heap.size w w0 := by rw [hw0]; exact (Below.refl _ _).alloc (Nat.le_refl _) _
  have HQ := hide (l6All_any (v.length + 1) v b off cap w0 (by omega) hv (hrow.below B00 hb) (Nat.lt_of_lt_of_le hb B00.size) hcap hok)
  clear hv hok hrow
  go_enter Try.func72, Try.ntmps72
  go_wp2_with fail
  rw [← hw0]
  clear hw0
  refine (unhide HQ).mono ?_
  rintro e1 w1 ⟨s1, rfl, hs1, hb1⟩
  have hR1 := HR0.below hb1 HR0.lt
  have BR : Below w.heap.size w w1 := B00.trans (hb1.mono B00.size)
  have hwr : w.heap.size < w1.heap.size := hR1.lt
  obtain ⟨la, lc, hsh, hlc, hlv⟩ := hs1.lv (valid_ne (unhide HALL).2.1)
  subst hsh
  clear hs1 hb1 HQ
  go_wp2_with fail
  refine (l1ArrayV_any la lc (deepL v) _ hlv hlc (unhide HLE) (unhide HALL).2.1).mono ?_
  rintro e2 w2 ⟨s2, rfl, hr2, hb2⟩
  have hR2 := hR1.below hb2 hR1.lt
  have B2 : Below w.heap.size w w2 := BR.trans (hb2.mono BR.size)
  have HT := hide (specTold_any s2 _ _ w2 hr2 hb2.size (unhide HMD).1 (unhide HMD).2.1 (unhide HMD).2.2)
  obtain ⟨at2, mt2, ct2, rfl⟩ := hr2.shape
  clear hr2 hb2 hlv
  generalize hR2 : told (arrV (deepL v)) = R at *
  obtain ⟨rc, rl⟩ := R
  clear hR2
  go_wp2_with fail
  refine (unhide HT).mono ?_
  rintro e3 w3 ⟨s3, rfl, hr3, hb3⟩
  have hR3 := hR2.below hb3 hR2.lt
  have r0 := hR3.cell 0
  have r1 := hR3.cell 1
  have z0 := hR3.frozen 0
  have z1 := hR3.frozen 1
  simp only [List.getElem?_cons_zero, List.getElem?_cons_succ] at r0 r1
  have HE := hide (Ans.storeC hr3 hwr (B2.trans (hb3.mono B2.size)))
  obtain ⟨ac, mc, cc, rfl⟩ := hr3.shape
  clear hr3 hb3 HT
  go_wp2_with fail
  refine bodyPost_ret (v := .agg #[.int .i64 rc, .slice ac mc cc]) (by simp [results, Try.results72, go_sem, r0, r1]) rfl (ans_of (unhide fin) ((unhide HE) _ _).1 ((unhide HE) _ _).2)

set_option maxRecDepth 100000 in
set_option maxHeartbeats 4000000 in
theorem specDeepOf_any (v : List M.Cl) (b off cap : Nat) (w : World) (hrow : Row w b off v) (hb : b < w.heap.size) (hn : v.length ≤ 1048576) (hcap : v.length ≤ cap) (hok : ∀ c ∈ v, c.ok) :
    Calls Try.prog 33 #[.slice (some ⟨b, off, none⟩) v.length cap] w (Ans w (deepOut v)) := by
  have OK := hide hok
  have B0 : ∀ o, Below w.heap.size w (w.alloc o) := fun o => (Below.refl _ _).alloc (Nat.le_refl _) o
  have HB0 := hide B0
  clear B0 hok
  go_enter Try.func33, Try.ntmps33
  go_wp2_with fail
  refine (specFault_any v b off cap _ (hrow.below ((unhide HB0) _) hb) (by simp; omega) hn hcap (unhide OK)).mono ?_
  rintro e1 w1 ⟨rfl, hb1⟩
  have hR : Own w1 w.heap.size 41 [.int .i64 0, .slice none 0 0] := Own.below ⟨_, heap_alloc_new _ _, rfl⟩ hb1 (by simp)
  have B1 : Below w.heap.size w w1 := ((unhide HB0) _).trans (hb1.mono (by simp))
  have hrow1 := hrow.below B1 hb
  have hb1' : b < w1.heap.size := Nat.lt_of_lt_of_le hb B1.size
  clear hb1
  by_cases hv : M.valueFault v = 0
  · rw [hv]
    have fin := hide (dpo_ok hv)
    have HQ := hide (l6Deep_any v b off cap w1 hv hrow1 hb1' hcap (unhide OK))
    clear hv OK hrow1
    generalize hR2 : deepIn v = R at *
    obtain ⟨rc, rl⟩ := R
    clear hR2
    go_wp2_with fail
    refine (unhide HQ).mono ?_
    rintro ec wc ⟨sc, rfl, hrc, hbc⟩
    have hRc := hR.below hbc hR.lt
    have r0 := hRc.cell 0
    have r1 := hRc.cell 1
    have z0 := hRc.frozen 0
    have z1 := hRc.frozen 1
    simp only [List.getElem?_cons_zero, List.getElem?_cons_succ] at r0 r1
    have HE := hide (Ans.store hrc B1 hR.lt hbc)
    obtain ⟨ac, mc, cc, rfl⟩ := hrc.shape
    clear hrc hbc HQ
    go_wp2_with fail
    refine bodyPost_ret (v := .agg #[.int .i64 rc, .slice ac mc cc]) (by simp [results, Try.results33, go_sem, r0, r1]) rfl (ans_of (unhide fin) ((unhide HE) _ _).1 ((unhide HE) _ _).2)
  · have fin := hide (dpo_bad hv)
    generalize M.valueFault v = q at *
    have hq : (q != 0) = true := by simpa using hv
    go_wp2_with fail
    refine (l3Bad_any _ _).mono ?_
    rintro ec wc ⟨sc, rfl, hrc, hbc⟩
    have hRc := hR.below hbc hR.lt
    have r0 := hRc.cell 0
    have r1 := hRc.cell 1
    have z0 := hRc.frozen 0
    have z1 := hRc.frozen 1
    simp only [List.getElem?_cons_zero, List.getElem?_cons_succ] at r0 r1
    have HE := hide (Ans.store hrc B1 hR.lt hbc)
    obtain ⟨ac, mc, cc, rfl⟩ := hrc.shape
    clear hrc hbc
    go_wp2_with fail
    refine bodyPost_ret (v := .agg #[.int .i64 q, .slice ac mc cc]) (by simp [results, Try.results33, go_sem, r0, r1]) rfl (ans_of (unhide fin) ((unhide HE) _ _).1 ((unhide HE) _ _).2)

end Go.Proofs.Ythbiclpifeobkaa
