/-
  spec.l10Go, walked.
-/
import Derived.Test.YtbaanpgbfncdnaaGreatQ49
namespace Go.Proofs.YtbaanpgbfncdnaaGreat
open Go.RowKit
set_option linter.unusedVariables false
set_option linter.unusedSimpArgs false
theorem Ste.Ons.bel {w w' : World} {o : Option Ste} {e : Ending} (h : Ste.Ons w o e w') : Below w.heap.size w w' := by obtain ⟨_, _, _, hb, _⟩ := h; exact hb
theorem Ste.Ons.pt {w w' : World} {s : Ste} {a : Option Addr} {n c : Nat} {q : Bool} (h : Ste.Ons w (some s) (.returned (.tuple #[.slice a n c, .bool q])) w') : Ste.Pt w' (.slice a n c) s := by
  obtain ⟨v, e, hp, _⟩ := h
  simp only [Ending.returned.injEq, Value.tuple.injEq, Array.mk.injEq, List.cons.injEq, and_true] at e
  rw [e.1]
  exact hp s rfl
theorem Ste.one_sl (a : Option Addr) (n k : Nat) : ∀ u ∈ ([Value.slice a n k] : List Value), u.oneCell' = true := by
  intro u hu
  simp only [List.mem_cons, List.not_mem_nil, or_false] at hu
  subst hu
  rfl
theorem Ste.wk_co {w : World} {b : Nat} {x0 x1 x2 x3 : Value} (h : Own w b 65 [x0, x1, x2, x3]) : w.cell? ⟨b, 0, none⟩ = some x0 ∧ w.cell? ⟨b, 1, none⟩ = some x1 ∧ w.cell? ⟨b, 2, none⟩ = some x2 ∧ w.cell? ⟨b, 3, none⟩ = some x3 := ⟨h.cell 0, h.cell 1, h.cell 2, h.cell 3⟩
set_option maxRecDepth 100000 in
set_option maxHeartbeats 4000000 in
theorem specl10Go_step (p : Int) (hone : Ste.OneSays p) (b P : Nat) (l : List Co) (hfl : Co.fault l = 0) (f : Nat) (ih : Ste.GoSays p b P l f) : Ste.GoSays p b P l (f + 1) := by
  intro i d w hi hif hd hz hcc hP
  obtain ⟨_, _, _, h900, h0⟩ := Ste.tre_whole hfl
  have hfine := Co.fine_of h0
  have okI := Ste.tre_ok h0 _ i (Nat.lt_succ_self _) hi
  have hks := Ste.tre_ks hfine hi
  have hhd := Ste.tre_hd hfine hi
  have hpass := Ste.pass_eq p (Ste.tre l i) (fun e => by
    have hff := ((Ste.ok_iff _).1 okI).1
    rw [e] at hff
    exact Ste.one_leaf hff)
  have hFit := ((Ste.ok_iff _).1 okI).1
  have hszk := Ste.sz_ks (Ste.tre l i)
  rw [hks, hhd] at hpass hFit
  rw [hks] at hszk
  have hKm : ∀ m, m < (Ste.lks (l.getD i Co.zero)).length → (Ste.lks (l.getD i Co.zero)).getD m 0 ∈ Ste.lks (l.getD i Co.zero) := fun m hm => Ste.kid_mem hm
  have hKlt := Ste.lks_fine hfine hi
  have hKid := fun m (hm : m < (Ste.lks (l.getD i Co.zero)).length) => Ste.kid_is hfine hi hm
  have hKlen := Ste.lks_len (l.getD i Co.zero)
  have hops := (Co.node_parts (Co.nf_all h0 i hi)).1
  obtain ⟨f0, f1, f2, f3, f4, vg, f5, hres⟩ := hcc.at' i hi
  have hiI : (i : Int) < (l.length : Int) := by omega
  have hi0 : (0 : Int) ≤ (i : Int) := by omega
  obtain ⟨K, hK⟩ : ∃ K, K = Ste.lks (l.getD i Co.zero) := ⟨_, rfl⟩
  rw [← hK] at hpass hFit hszk hKm hKlt hKid hKlen
  have hOK : ∀ x ∈ K, Ste.Ok (Ste.tre l x) := fun x hx => Ste.tre_ok h0 _ x (Nat.lt_succ_self _) (by have := hKlt x hx; omega)
  have hSZ : ∀ x ∈ K, Ste.sz (Ste.tre l x) ≤ 900 := fun x hx => by
    have := Ste.szL_mem (List.mem_map.2 ⟨x, hx, rfl⟩ : Ste.tre l x ∈ K.map (Ste.tre l))
    omega
  have hDL : ∀ j, j < K.length → Ste.didL p ((K.map (Ste.tre l)).take j) + Ste.sz (Ste.tre l (K.getD j 0)) ≤ Ste.szL (K.map (Ste.tre l)) := fun j hj => by
    have h1 := Ste.didL_le p ((K.map (Ste.tre l)).take j) (fun k hk => by
      obtain ⟨x, hx, rfl⟩ := List.mem_map.1 (List.mem_of_mem_take hk)
      exact hOK x hx)
    have h2 := Ste.szL_take_succ (K.map (Ste.tre l)) j (by rw [List.length_map]; exact hj)
    have h3 := Ste.szL_take_le (K.map (Ste.tre l)) (j + 1)
    have e : (K.map (Ste.tre l)).getD j Ste.z = Ste.tre l (K.getD j 0) := by
      rw [List.getD_eq_getElem?_getD, List.getD_eq_getElem?_getD, List.getElem?_map, List.getElem?_eq_getElem hj]; rfl
    rw [e] at h2
    omega
  have hDA := Ste.didL_le p (K.map (Ste.tre l)) (fun k hk => by
    obtain ⟨x, hx, rfl⟩ := List.mem_map.1 hk
    exact hOK x hx)
  have HPASS := hide hpass
  have HFIT := hide hFit
  have HKM := hide hKm
  have HKLT := hide hKlt
  have HKID := hide hKid
  have HOK := hide hOK
  have HSZ := hide hSZ
  have HDL := hide hDL
  have HIH := hide ih
  have HONE := hide hone
  have HRES := hide hres
  have hd9 : d + Ste.szL (K.map (Ste.tre l)) + 1 ≤ 1000000 := by omega
  have HKI := hide (show Co.kids (l.getD i Co.zero).op = K.length from hKlen.symm)
  have HL6 := hide (fun wq => l6Kids_any (l.getD i Co.zero).op wq hops.1 hops.2)
  have HKD := hide (fun j hj wq => l6Kid_any (l.getD i Co.zero) vg j hj wq)
  have hK3 : K.length ≤ 3 := by rw [hKlen]; exact Co.kids_le _
  clear hpass hFit hszk hKm hKlt hKid hKlen hOK hSZ hDL ih hone hres hks hhd okI hK
  rw [unhide HKI] at HL6
  generalize l.getD i Co.zero = n at *
  obtain ⟨ks, hks⟩ : ∃ ks, ks = K.length := ⟨_, rfl⟩
  rw [← hks] at HL6 hK3
  have HKS := hide hks
  clear hks
  obtain ⟨k0, k1, k2, k3⟩ := Ste.wk_co hP
  obtain ⟨w1, hw1⟩ : ∃ w1, w1 = w.alloc (.cells #[.int .i64 n.op, .int .i64 n.a, .int .i64 n.b, .int .i64 n.c, .int .i64 n.num, .slice (some ⟨vg, 0, none⟩) n.val.length n.val.length] 47) := ⟨_, rfl⟩
  have B1 : Below w.heap.size w w1 := by rw [hw1]; exact (Below.refl _ _).alloc (Nat.le_refl _) _
  have N1 : Own w1 w.heap.size 47 [.int .i64 n.op, .int .i64 n.a, .int .i64 n.b, .int .i64 n.c, .int .i64 n.num, .slice (some ⟨vg, 0, none⟩) n.val.length n.val.length] := by rw [hw1]; exact ⟨_, heap_alloc_new _ _, rfl⟩
  have hs1 : w.heap.size < w1.heap.size := N1.lt
  obtain ⟨w2, hw2⟩ : ∃ w2, w2 = w1.alloc (.cells #[] 24) := ⟨_, rfl⟩
  have B2 : Below w1.heap.size w1 w2 := by rw [hw2]; exact (Below.refl _ _).alloc (Nat.le_refl _) _
  have B02 : Below w.heap.size w w2 := B1.trans (B2.mono (Nat.le_of_lt hs1))
  have HG0 := hide (show Ste.Gl p b P w.heap.size w1.heap.size l K d w w2 [.int .i64 n.op, .int .i64 n.a, .int .i64 n.b, .int .i64 n.c, .int .i64 n.num, .slice (some ⟨vg, 0, none⟩) n.val.length n.val.length] 0 (.slice (some ⟨w1.heap.size, 0, none⟩) 0 0) [] from ⟨Ste.owns_empty_k 1 (Nat.le_refl _) (by rw [hw2]; exact heap_alloc_new _ _), ⟨_, _, rfl⟩, fun t ht => absurd ht (by omega), by
      have := hP.below B02 hP.lt
      simpa [Ste.didL] using this, N1.below B2 N1.lt, Ste.Gf.of B02, hcc.below B02⟩)
  have HRS := hide (fun (W : World) (hg : Ste.Gf P w W) => hg.res hP (unhide HRES))
  obtain ⟨i1, hi1, hy0, hy1, hy2⟩ := info_parts Ste.infoSC
  clear hcc hP B2 B02 N1 B1 HRES
  go_enter Tryz.func46, Tryz.ntmps46
  go_upto_region 2 with fail
  rw [← hw1]
  clear hw1
  go_upto_region 3 with fail
  rw [← hw2]
  clear hw2 k0 k1 k2 k3 f0 f1 f2 f3 f4 f5
  go_wp2_with fail
  go_loopg [6, 7] 4 (fun gh s6 s7 wr => ∃ (j : Nat) (vs : List Value), Hid (gh = 4 - j) ∧ s7 = .int .i64 j ∧ j ≤ ks ∧ Hid (Ste.Gl p b P w.heap.size w1.heap.size l K d w wr [.int .i64 n.op, .int .i64 n.a, .int .i64 n.b, .int .i64 n.c, .int .i64 n.num, .slice (some ⟨vg, 0, none⟩) n.val.length n.val.length] j s6 vs))
  case atStart => exact ⟨0, [], rfl, rfl, by omega, unhide HG0⟩
  case round =>
  clear HG0
  obtain ⟨j, vs, hg, rfl, hj, HG⟩ := hrel
  obtain ⟨c0, c1, c2, c3, c4, c5⟩ := Ste.six_co (unhide HG).nd
  obtain ⟨q, cap, hv⟩ := (unhide HG).non
  subst hv
  have hsz := (unhide HG).fr.size
  by_cases hlt : j < ks
  · have hltI : (j : Int) < (ks : Int) := by omega
    have hjK : j < K.length := by rw [← unhide HKS]; exact hlt
    have hmem := (unhide HKM) j hjK
    have hxi := (unhide HKLT) _ hmem
    have HKJ := hide (fun wq => (unhide HKD) j (by omega) wq)
    rw [(unhide HKID) j hjK] at HKJ
    have hdl := (unhide HDL) j hjK
    have hzx := (unhide HSZ) _ hmem
    have HREC := hide (fun (W : World) (hb : Below wr.heap.size wr W) => (unhide HIH) (K.getD j 0) (d + Ste.didL p ((K.map (Ste.tre l)).take j)) W (by omega) (by omega) (by omega) hzx ((unhide HG).cc.below hb) ((unhide HG).wk.below hb (unhide HG).wk.lt))
    have HST := hide (fun (w1' w2' : World) (x : Value) h1 h2 h3 h4 (W wA : World) (v' : Value) h5 h6 h7 => Ste.Gl.step (w1 := w1') (w2 := w2') (x := x) (wA := wA) (v' := v') (unhide HG) hjK h1 h2 h3 h4 W h5 h6 h7 (by omega))
    have HRW := hide (fun (W : World) (hgf : Ste.Gf P wr W) => hgf.row (unhide HG).wk (unhide HG).row (by decide))
    generalize K.getD j 0 = x at *
    have h63 : j + 1 ≤ maxLen := by unfold maxLen; omega
    have hby : (j + 1) * 24 ≤ 140737488355328 := by omega
    clear hmem hdl hzx HG
    go_wp2_with fail
    refine ((unhide HL6) _).mono ?_
    rintro e wk ⟨rfl, hwk⟩
    rw [hwk]
    clear hwk
    go_wp2_with fail
    refine ((unhide HKJ) _).mono ?_
    rintro e w3 ⟨rfl, hb3⟩
    have HR3 := hide ((unhide HREC) w3 hb3)
    clear c0 c1 c2 c3 c4 c5
    go_wp2_with fail
    refine (unhide HR3).mono ?_
    rintro e w4 ⟨ra, rn, rc, rfl, hpt, hwk, hgf⟩
    have g4 : Ste.Gf P wr w4 := (Ste.Gf.of hb3).trans hgf
    have HROW := hide (fun o => Ste.owns_belowk ((unhide HRW) w4 g4) ((Below.refl w4.heap.size w4).alloc (Nat.le_refl _) o))
    have hone := hide (one_val w4 (.slice ra rn rc) 24)
    have honep := hide (Ste.one_sl ra rn rc)
    have HS4 := hide (fun wA v' o h6 h7 => (unhide HST) w3 w4 (.slice ra rn rc) hb3 hgf hpt hwk (w4.alloc o) wA v' ((Below.refl w4.heap.size w4).alloc (Nat.le_refl _) o) h6 h7)
    have hs4 : w1.heap.size ≤ w4.heap.size := by
      have e1 := g4.size
      have e2 := hsz
      have e3 := Ste.owns_lt ((unhide HRW) wr (Ste.Gf.refl _ _)) (b := q) rfl
      have e4 := (Ste.owns_typed ((unhide HRW) wr (Ste.Gf.refl _ _)) (b := q) rfl).1
      omega
    clear HREC HR3 HRW HST hpt hwk hgf g4 hb3
    go_wp2_with (at_builtin; refine wpList_append_own _ rfl (.tmp 25) (.tmp 31) 97 rfl w1.heap.size 24 i1 (.slice none 0 0) 1 24 Tryz.underlying97 hi1 hy0 hy1 hy2 rfl (by decide) _ j _ rfl ((unhide HROW) _) ⟨w4.heap.size, 0, none⟩ 1 1 [.slice ra rn rc] rfl rfl (unhide hone) (unhide honep) h63 hby (by simp; omega) ?_)
    intro v' wA ho hgr _
    have HGA := hide ((unhide HS4) wA v' _ ho hgr)
    obtain ⟨xa, xc, rfl⟩ := Ste.owns_shape ho
    clear ho hgr HS4 HROW hone honep
    go_wp2_with fail
    go_roundg (4 - (j + 1))
    case rel => exact ⟨j + 1, _, rfl, by go_num, by omega, unhide HGA⟩
    case measure => have := hg.out; omega
  · have hltI : ¬ (j : Int) < (ks : Int) := by omega
    have hjks : j = ks := by omega
    subst hjks
    obtain ⟨H, hH⟩ : ∃ H : Hd, H = ⟨n.op, n.num, n.val⟩ := ⟨_, rfl⟩
    have GZ := Ste.Gl.zero (h := H) (K := K) (by rw [hH]; have := unhide HG; rw [unhide HKS] at this; exact this) (Nat.le_refl _) (by rw [hH]; have := unhide HFIT; rw [List.length_map] at this; exact this) (unhide HSZ) (unhide HOK) (by rw [hH]; exact (unhide HRS) wr (unhide HG).fr)
    obtain ⟨q', cap', hq', hW'⟩ := GZ
    cases hq'
    obtain ⟨W, hW⟩ : ∃ W, W = ((wr.setCell ⟨w.heap.size, 1, none⟩ (.int .i64 0)).setCell ⟨w.heap.size, 2, none⟩ (.int .i64 0)).setCell ⟨w.heap.size, 3, none⟩ (.int .i64 0) := ⟨_, rfl⟩
    obtain ⟨hPs, hNd, hWk, hRv, hFr⟩ := hW' W hW
    rw [hH] at hNd
    have z1 := (unhide HG).nd.frozen 1
    have z2 := (unhide HG).nd.frozen 2
    have z3 := (unhide HG).nd.frozen 3
    have hPH := hide (show (Ste.pass p (Ste.tre l i)) = Ste.fin p H ((K.map (Ste.tre l)).map fun k => (Ste.pass p k).1) (Ste.didL p (K.map (Ste.tre l))) by rw [hH]; exact unhide HPASS)
    have hLm : ((K.map (Ste.tre l)).map fun k => (Ste.pass p k).1) = K.map fun x => (Ste.pass p (Ste.tre l x)).1 := by rw [List.map_map]; rfl
    rw [hLm] at hPH
    have hLl : (K.map fun x => (Ste.pass p (Ste.tre l x)).1).length = j := by rw [List.length_map, ← unhide HKS]
    have hvl : H.val = n.val := by rw [hH]
    have hop : H.op = n.op := by rw [hH]
    have hnm : H.num = n.num := by rw [hH]
    generalize (K.map fun x => (Ste.pass p (Ste.tre l x)).1) = L at *
    generalize Ste.didL p (K.map (Ste.tre l)) = dd at *
    have HLL := hide hLl
    have HJN := hide (fun (W2 : World) (hb : Below W.heap.size W W2) => specl10Join_any H (some ⟨vg, 0, none⟩) n.val.length n.val.length q cap L W2 (hPs.below hb) (hRv.below hb))
    have HON := hide (fun (W2 : World) (hb : Below W.heap.size W W2) (h0 : 0 < L.length) => (unhide HONE) H (some ⟨vg, 0, none⟩) n.val.length n.val.length q cap L W2 (hPs.below hb) h0 (hRv.below hb))
    rw [hop, hnm, hLl] at HJN HON
    have HPP := hide hPs
    have HWK := hide hWk
    have HNDH := hide hNd
    have HFR := hide hFr
    have HHO := hide hop
    clear hPs hWk hNd hFr hRv hW' hLm HG HPASS HFIT HKM HKLT HKID HOK HSZ HDL HIH HONE HKD HRS hLl hvl hop hnm hH
    go_wp2_with fail
    refine ((unhide HL6) _).mono ?_
    rintro e wk ⟨rfl, hwk⟩
    rw [hwk]
    clear hwk
    go_upto_region 10 with fail
    rw [← hW]
    clear hW c0 c1 c2 c3 c4 c5 z1 z2 z3 HL6
    obtain ⟨c0, c1, c2, c3, c4, c5⟩ := Ste.six_co (unhide HNDH)
    obtain ⟨k0, k1, k2, k3⟩ := Ste.wk_co (unhide HWK)
    by_cases hj0 : j = 0
    · -- no parts
      subst hj0
      have FIN := hide (show Ste.pass p (Ste.tre l i) = (Ste.mk H L, dd) by
        rw [unhide hPH]
        have hL0 : L = [] := List.length_eq_zero_iff.1 (unhide HLL)
        have hn1 := Ste.one_leaf (p := p) (h := H) (by have := (unhide HPP).hF; rw [hL0] at this; exact this)
        unfold Ste.fin
        rw [hL0, hn1])
      have HJ := hide ((unhide HJN) W (Below.refl _ _))
      clear HJN HON hPH
      go_wp2_with fail
      refine (unhide HJ).mono ?_
      rintro e w5 ⟨ra, rn, rc, rfl, hpt, hb5⟩
      have HF := hide (And.intro hpt (And.intro ((unhide HWK).below hb5 (unhide HWK).lt) ((unhide HFR).trans (Ste.Gf.of hb5))))
      clear HJ hpt hb5 c0 c1 c2 c3 c4 c5 k0 k1 k2 k3
      go_wp2_with fail
      go_ret
      exact ⟨_, _, _, rfl, by rw [unhide FIN]; exact (unhide HF).1, by rw [unhide FIN]; exact (unhide HF).2.1, (unhide HF).2.2⟩
    · have hjI : (0 : Int) < (j : Int) := by omega
      have hjN : 0 < j := by omega
      have HO := hide (fun (W2 : World) (hb : Below W.heap.size W W2) => (unhide HON) W2 hb hjN)
      have hKEEP : ∀ W2, Below W.heap.size W W2 → (W2.cell? ⟨P, 2, none⟩ = some (.int .i64 p) ∧ W2.cell? ⟨w.heap.size, 0, none⟩ = some (.int .i64 n.op) ∧ W2.cell? ⟨w.heap.size, 1, none⟩ = some (.int .i64 0) ∧ W2.cell? ⟨w.heap.size, 2, none⟩ = some (.int .i64 0) ∧ W2.cell? ⟨w.heap.size, 3, none⟩ = some (.int .i64 0) ∧ W2.cell? ⟨w.heap.size, 4, none⟩ = some (.int .i64 n.num) ∧ W2.cell? ⟨w.heap.size, 5, none⟩ = some (.slice (some ⟨vg, 0, none⟩) n.val.length n.val.length) ∧ Below W.heap.size W W2) := fun W2 hb => by
        have o := (unhide HNDH).below hb (unhide HNDH).lt
        exact ⟨((unhide HWK).below hb (unhide HWK).lt).cell 2, o.cell 0, o.cell 1, o.cell 2, o.cell 3, o.cell 4, o.cell 5, hb⟩
      have KEEP := hide hKEEP
      have KEEP0 := hKEEP W (Below.refl _ _)
      have hdd : ((d + dd : Nat) : Int) ≤ 1000000 := by omega
      have hdd0 : (0 : Int) ≤ ((d + dd : Nat) : Int) := by omega
      obtain ⟨D, hD⟩ : ∃ D, D = d + dd := ⟨_, rfl⟩
      rw [← hD] at hdd hdd0 HWK k3
      have HDD := hide hD
      clear HON hKEEP hD
      obtain ⟨o, ho⟩ : ∃ o, o = Ste.one p H L := ⟨_, rfl⟩
      rw [← ho] at HO
      have HOE := hide ho
      clear ho
      cases o with
      | none =>
        have FIN := hide (show Ste.pass p (Ste.tre l i) = (Ste.mk H L, dd) by rw [unhide hPH]; unfold Ste.fin; rw [← unhide HOE])
        clear hPH HOE
        go_wp2_with fail
        go_region_held3 (fun w' => w'.cell? ⟨P, 2, none⟩ = some (.int .i64 p) ∧ w'.cell? ⟨w.heap.size, 0, none⟩ = some (.int .i64 n.op) ∧ w'.cell? ⟨w.heap.size, 1, none⟩ = some (.int .i64 0) ∧ w'.cell? ⟨w.heap.size, 2, none⟩ = some (.int .i64 0) ∧ w'.cell? ⟨w.heap.size, 3, none⟩ = some (.int .i64 0) ∧ w'.cell? ⟨w.heap.size, 4, none⟩ = some (.int .i64 n.num) ∧ w'.cell? ⟨w.heap.size, 5, none⟩ = some (.slice (some ⟨vg, 0, none⟩) n.val.length n.val.length) ∧ Below W.heap.size W w')
          (first | assumption | exact (unhide KEEP) _ (Below.refl _ _) | exact (unhide KEEP) _ (Below.refl _ _).drew | exact (unhide KEEP) _ (by assumption))
          (first | (go_at_call 68; refine ((unhide HO) _ (by first | exact (Below.refl _ _).drew | exact Below.refl _ _ | assumption)).mono ?_; rintro e w5 hons; have HO5 := hide (hons.ahead (by first | exact (Below.refl _ _).drew | exact Below.refl _ _ | assumption)); obtain ⟨mv, rfl, _, _, za, zn, zc, rfl⟩ := hons; have hb5 : Below W.heap.size W w5 := Ste.Ons.bel (unhide HO5)))
        all_goals
          have HJ := hide ((unhide HJN) w5 hb5)
          obtain ⟨c0', c1', c2', c3', c4', c5'⟩ := Ste.six_co ((unhide HNDH).below hb5 (unhide HNDH).lt)
          go_wp2_with fail
          refine (unhide HJ).mono ?_
          rintro e w6 ⟨ra, rn, rc, rfl, hpt, hb6⟩
          have hb56 : Below W.heap.size W w6 := hb5.trans (hb6.mono hb5.size)
          have HF := hide (And.intro hpt (And.intro ((unhide HWK).below hb56 (unhide HWK).lt) ((unhide HFR).trans (Ste.Gf.of hb56))))
          clear HJ hpt hb6 c0' c1' c2' c3' c4' c5'
          go_wp2_with fail
          go_ret
          exact ⟨_, _, _, rfl, by rw [unhide FIN]; exact (unhide HF).1, by rw [unhide FIN]; have := (unhide HF).2.1; rw [unhide HDD] at this; exact this, (unhide HF).2.2⟩
      | some s' =>
        have FIN := hide (show Ste.pass p (Ste.tre l i) = (s', dd + 1) by rw [unhide hPH]; unfold Ste.fin; rw [← unhide HOE])
        clear hPH HOE HJN
        go_wp2_with fail
        go_region_held3 (fun w' => w'.cell? ⟨P, 2, none⟩ = some (.int .i64 p) ∧ w'.cell? ⟨w.heap.size, 0, none⟩ = some (.int .i64 n.op) ∧ w'.cell? ⟨w.heap.size, 1, none⟩ = some (.int .i64 0) ∧ w'.cell? ⟨w.heap.size, 2, none⟩ = some (.int .i64 0) ∧ w'.cell? ⟨w.heap.size, 3, none⟩ = some (.int .i64 0) ∧ w'.cell? ⟨w.heap.size, 4, none⟩ = some (.int .i64 n.num) ∧ w'.cell? ⟨w.heap.size, 5, none⟩ = some (.slice (some ⟨vg, 0, none⟩) n.val.length n.val.length) ∧ Below W.heap.size W w')
          (first | assumption | exact (unhide KEEP) _ (Below.refl _ _) | exact (unhide KEEP) _ (Below.refl _ _).drew | exact (unhide KEEP) _ (by assumption))
          (first | (go_at_call 68; refine ((unhide HO) _ (by first | exact (Below.refl _ _).drew | exact Below.refl _ _ | assumption)).mono ?_; rintro e w5 hons; have HO5 := hide (hons.ahead (by first | exact (Below.refl _ _).drew | exact Below.refl _ _ | assumption)); obtain ⟨mv, rfl, _, _, za, zn, zc, rfl⟩ := hons; have hb5 : Below W.heap.size W w5 := Ste.Ons.bel (unhide HO5)))
        all_goals
          have OP := (unhide HWK).below hb5 (unhide HWK).lt
          have k3' : w5.cell? ⟨P, 3, none⟩ = some (.int .i64 (D : Int)) := OP.cell 3
          have z3' := OP.frozen 3
          have hpt := Ste.Ons.pt (unhide HO5)
          have HF := hide (show Ste.Pt (w5.setCell ⟨P, 3, none⟩ (.int .i64 ((D : Int) + 1))) (.slice za zn zc) s' ∧ Own (w5.setCell ⟨P, 3, none⟩ (.int .i64 ((D : Int) + 1))) P 65 [.slice (some ⟨b, 0, none⟩) l.length l.length, .slice none 0 0, .int .i64 p, .int .i64 ((d + (dd + 1) : Nat) : Int)] ∧ Ste.Gf P w (w5.setCell ⟨P, 3, none⟩ (.int .i64 ((D : Int) + 1))) from ⟨hpt.far OP (fun e => absurd e (by decide)) (by decide), by
            have := OP.set 3 (.int .i64 ((D : Int) + 1))
            rw [show ((d + (dd + 1) : Nat) : Int) = (D : Int) + 1 by have := unhide HDD; omega]
            exact this, by
            have g5 := (unhide HFR).trans (Ste.Gf.of hb5)
            exact ⟨g5.os, g5.tape, g5.output, by have := g5.size; simpa using this, fun k hk hne => (heap_setCell_other _ ⟨P, 3, none⟩ k _ hne).trans (g5.block k hk hne)⟩⟩)
          clear hpt OP HO5
          go_wp2_with fail
          go_ret
          exact ⟨_, _, _, rfl, by rw [unhide FIN]; exact (unhide HF).1, by rw [unhide FIN]; exact (unhide HF).2.1, (unhide HF).2.2⟩
/-- By induction on how deep it may call itself. -/
theorem specl10Go_says (p : Int) (hone : Ste.OneSays p) (b P : Nat) (l : List Co) (hfl : Co.fault l = 0) (f : Nat) : Ste.GoSays p b P l f := by
  induction f with
  | zero => intro i d w _ h; omega
  | succ f ih => exact specl10Go_step p hone b P l hfl f ih
end Go.Proofs.YtbaanpgbfncdnaaGreat
