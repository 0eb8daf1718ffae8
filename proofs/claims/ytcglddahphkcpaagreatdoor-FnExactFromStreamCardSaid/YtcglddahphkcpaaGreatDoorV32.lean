/-
  impl.setElement.
-/
import Derived.Test.YtcglddahphkcpaaGreatDoorV16
import Derived.Test.YtcglddahphkcpaaGreatDoorV19
import Derived.Test.YtcglddahphkcpaaGreatDoorV31
namespace Go.Proofs.YtcglddahphkcpaaGreatDoor
open Go.RowKit
set_option linter.unusedVariables false
set_option linter.unusedSimpArgs false

theorem Pth.els_subs {v : List M.Cl} (hv : M.valueFault v = 0) (hk : (v.getD 0 M.zero).kind = 5 ∨ (v.getD 0 M.zero).kind = 0) : Pth.els v = subs v 0 ∧ (v.getD 0 M.zero).n = ((Pth.els v).length : Int) := by
  have hcd := Pth.cell_code hv (i := 0) (by have := (Pth.lens hv).1; omega)
  have hb := code_bd hcd
  have hsl := subs_length v 0
  unfold M.arity at hsl
  unfold Pth.els
  rcases hk with hk | hk
  · rw [if_pos hk]
    exact ⟨rfl, by rw [hsl]; omega⟩
  · have hn : (v.getD 0 M.zero).n = 0 := by
      unfold M.cellCode at hcd
      split at hcd
      · cases hcd
      split at hcd
      · cases hcd
      rename_i h2
      by_cases e : (v.getD 0 M.zero).n = 0
      · exact e
      · exact absurd (.inr (.inr ⟨e, by omega, by omega⟩)) h2
    rw [if_neg (by omega)]
    rw [hn] at hsl
    have h0 : (subs v 0).length = 0 := by simpa using hsl
    exact ⟨(List.length_eq_zero_iff.1 h0).symm, by rw [hn]; rfl⟩
/-- What SetPath tells of a number and the steps behind it. -/
def Pth.elOut (v : List M.Cl) (n : Int) (cs x : List M.Cl) : Int × List M.Cl :=
  if (v.getD 0 M.zero).kind ≠ 5 ∧ (v.getD 0 M.zero).kind ≠ 0 then (6, [])
  else if Pth.idx n (Pth.els v).length < 0 then (3, [])
  else if 200 ≤ Pth.idx n (Pth.els v).length then (2, [])
  else
    (if (Pth.setS ((Pth.pad (Pth.els v) ((Pth.idx n (Pth.els v).length).toNat + 1)).getD (Pth.idx n (Pth.els v).length).toNat []) cs x).1 = 0 then
      told (arrV ((Pth.pad (Pth.els v) ((Pth.idx n (Pth.els v).length).toNat + 1)).set (Pth.idx n (Pth.els v).length).toNat (Pth.setS ((Pth.pad (Pth.els v) ((Pth.idx n (Pth.els v).length).toNat + 1)).getD (Pth.idx n (Pth.els v).length).toNat []) cs x).2))
    else Pth.setS ((Pth.pad (Pth.els v) ((Pth.idx n (Pth.els v).length).toNat + 1)).getD (Pth.idx n (Pth.els v).length).toNat []) cs x)
theorem Pth.setS_3 {v : List M.Cl} {c : M.Cl} {cs x : List M.Cl} (h : c.kind ≠ 4) : Pth.setS v (c :: cs) x = Pth.elOut v c.num cs x := by rw [Pth.setS, if_neg h]; rfl
theorem Pth.setS_4 {v : List M.Cl} {c : M.Cl} {cs x : List M.Cl} (h : c.kind = 4) : Pth.setS v (c :: cs) x = Pth.memOut v c.text cs x := by rw [Pth.setS, if_pos h]; rfl
theorem Pth.el_kind {v : List M.Cl} {n : Int} {cs x : List M.Cl} (h5 : (v.getD 0 M.zero).kind ≠ 5) (h0 : (v.getD 0 M.zero).kind ≠ 0) : Pth.elOut v n cs x = (6, []) := if_pos ⟨h5, h0⟩
theorem Pth.el_low {v : List M.Cl} {n : Int} {cs x : List M.Cl} (hk : (v.getD 0 M.zero).kind = 5 ∨ (v.getD 0 M.zero).kind = 0) {q : Int} (hq : Pth.idx n (Pth.els v).length = q) (h : q < 0) : Pth.elOut v n cs x = (3, []) := by
  unfold Pth.elOut; rw [if_neg (by omega), hq, if_pos h]
theorem Pth.el_many {v : List M.Cl} {n : Int} {cs x : List M.Cl} (hk : (v.getD 0 M.zero).kind = 5 ∨ (v.getD 0 M.zero).kind = 0) {q : Int} (hq : Pth.idx n (Pth.els v).length = q) (h0 : ¬ q < 0) (h : 200 ≤ q) : Pth.elOut v n cs x = (2, []) := by
  unfold Pth.elOut; rw [if_neg (by omega), hq, if_neg h0, if_pos h]
theorem Pth.el_in {v : List M.Cl} {n : Int} {cs x : List M.Cl} (hk : (v.getD 0 M.zero).kind = 5 ∨ (v.getD 0 M.zero).kind = 0) {k : Nat} (hq : Pth.idx n (Pth.els v).length = (k : Int)) (h : k < 200) {R : Int × List M.Cl} (hR : Pth.setS ((Pth.pad (Pth.els v) (k + 1)).getD k []) cs x = R) : Pth.elOut v n cs x = if R.1 = 0 then told (arrV ((Pth.pad (Pth.els v) (k + 1)).set k R.2)) else R := by
  unfold Pth.elOut; rw [if_neg (by omega), hq, if_neg (by omega), if_neg (by omega), Int.toNat_natCast, hR]

theorem SS.put {w : World} {B g cap j : Nat} {ps : List (List M.Cl)} {s2 : Value} {x : List M.Cl} (h : SS w B (.slice (some ⟨g, 0, none⟩) ps.length cap) ps) (hj : j < ps.length) (hne : ∀ i, i < ps.length → ps.getD i [] ≠ []) (hr : Res w B s2 x) (hx : x ≠ []) : SS (w.setCell ⟨g, j, none⟩ s2) B (.slice (some ⟨g, 0, none⟩) ps.length cap) (ps.set j x) := by
  obtain ⟨ss, h1, h2, h3⟩ := h
  have far : ∀ (s : Value) (l : List M.Cl), Res w B s l → l ≠ [] → Res (w.setCell ⟨g, j, none⟩ s2) B s l := by
    intro s l hs hl
    refine hs.setOther _ _ (fun b hb e => ?_)
    obtain ⟨_, ⟨_, q2⟩ | ⟨c, cc, q3, q4, q5, ⟨xs, q6, _⟩⟩⟩ := hs
    · exact hl q2
    · rw [q3] at hb
      simp only [Value.ownBlock, Option.some.injEq] at hb
      have hcg : c = g := by rw [hb]; exact e
      obtain ⟨_, ⟨r2, _⟩ | ⟨g', cap', cur, r2, r4, r5, _⟩⟩ := h2
      · cases r2
      · simp only [Value.slice.injEq, Option.some.injEq, Addr.mk.injEq, and_true, true_and] at r2
        rw [← r2.1, ← hcg] at r5
        obtain ⟨c2, q7, _⟩ := q6
        rw [r5] at q7
        simp at q7
  refine ⟨ss.set j s2, by rw [List.length_set, List.length_set, h1], ?_, fun i hi => ?_⟩
  · rw [List.length_set]
    exact (h2.stored j s2).1
  · rw [List.length_set] at hi
    rw [List.getD_eq_getElem?_getD, List.getElem?_set, List.getD_eq_getElem?_getD, List.getElem?_set]
    by_cases e : j = i
    · rw [if_pos e, if_pos e, if_pos (by omega), if_pos (by omega)]
      exact far _ _ hr hx
    · rw [if_neg e, if_neg e, ← List.getD_eq_getElem?_getD, ← List.getD_eq_getElem?_getD]
      exact far _ _ (h3 i hi) (hne i hi)

set_option maxHeartbeats 400000 in
theorem fromBeginning_any (v : List M.Cl) (b off cap : Nat) (n : Int) (w : World) (m : Nat) (hv : 1 ≤ v.length) (hrow : Row w b off v) (hm : (v.getD 0 M.zero).n = (m : Int)) (hm2 : m ≤ 200) (h0 : -1000000000000000 ≤ n) (h1 : n ≤ 1000000000000000) :
    Calls Tryz.prog 180 #[.slice (some ⟨b, off, none⟩) v.length cap, .int .i64 n] w fun e w' => e = .returned (.int .i64 (Pth.idx n m)) ∧ w' = w := by
  obtain ⟨_, _, _, _, f4⟩ := hrow 0 (by omega)
  simp only [Nat.zero_mul, Nat.add_zero] at f4
  rw [hm] at f4
  have hvI : (0 : Int) < (v.length : Int) := by omega
  clear hrow hm
  by_cases hn : n < 0
  · have fin := hide (show Pth.idx n m = n + (m : Int) from if_pos hn)
    have hw : IntKind.i64.wrap (n + (m : Int)) = n + (m : Int) := IntWalk.i64_in _ ⟨by omega, by omega⟩
    go_enter Tryz.func180, Tryz.ntmps180
    go_wp2_with fail
    go_ret
    exact ⟨ret_int (by rw [unhide fin]), rfl⟩
  · have fin := hide (show Pth.idx n m = n from if_neg hn)
    go_enter Tryz.func180, Tryz.ntmps180
    go_wp2_with fail
    go_ret
    exact ⟨ret_int (by rw [unhide fin]), rfl⟩

set_option maxRecDepth 100000 in
set_option maxHeartbeats 1000000 in
theorem setElement_any (cs x : List M.Cl) (ih : Hid (Pth.SetI cs x)) (hx : M.valueFault x = 0) (v : List M.Cl) (n : Int) (b off cap b' o cap' bx ox cx : Nat) (w : World) (hv : M.valueFault v = 0) (n0 : -1000000000000000 ≤ n) (n1 : n ≤ 1000000000000000) (hrow : Row w b off v) (hb : b < w.heap.size) (hcap : v.length ≤ cap) (hrow' : Row w b' o cs) (hb' : b' < w.heap.size) (hcap' : cs.length ≤ cap') (hc' : cap' ≤ 9223372036854775807) (hrowx : Row w bx ox x) (hbx : bx < w.heap.size) (hcx : x.length ≤ cx) :
    Calls Tryz.prog 140 #[.slice (some ⟨b, off, none⟩) v.length cap, .int .i64 n, .slice (some ⟨b', o, none⟩) cs.length cap', .slice (some ⟨bx, ox, none⟩) x.length cx] w (Ans w (Pth.elOut v n cs x)) := by
  have hlen := (Pth.lens hv).2
  have hlen1 := (Pth.lens hv).1
  have hlenI : (0 : Int) < (v.length : Int) := by omega
  obtain ⟨W0, hW0⟩ : ∃ W0, W0 = w.alloc (.cells #[.int .i64 0, .slice none 0 0] 59) := ⟨_, rfl⟩
  have B0 : Below w.heap.size w W0 := by rw [hW0]; exact (Below.refl _ _).alloc (Nat.le_refl _) _
  have R0 : Own W0 w.heap.size 59 [.int .i64 0, .slice none 0 0] := by rw [hW0]; exact ⟨_, heap_alloc_new _ _, rfl⟩
  have Z0 : Hid (W0.heap.size = w.heap.size + 1) := hide (by rw [hW0]; simp)
  obtain ⟨f0, _, _, _, _⟩ := (hrow.below B0 hb) 0 (by omega)
  simp only [Nat.zero_mul, Nat.add_zero] at f0
  have HIH := hide (fun u b2 o2 c2 W (h : Below w.heap.size w W) hu r hb2 hc2 => ih.out u b2 o2 c2 b' o cap' bx ox cx W hu r hb2 hc2 (hrow'.below h hb') (Nat.lt_of_lt_of_le hb' h.size) hcap' hc' (hrowx.below h hbx) (Nat.lt_of_lt_of_le hbx h.size) hcx)
  have SGD := hide (fun u (hu : M.valueFault u = 0) => Pth.setS_gd hu hx cs)
  have p0 := R0.cell 0
  have p1 := R0.cell 1
  have y0 := R0.frozen 0
  have y1 := R0.frozen 1
  simp only [List.getElem?_cons_zero, List.getElem?_cons_succ] at p0 p1
  by_cases hk : (v.getD 0 M.zero).kind = 5 ∨ (v.getD 0 M.zero).kind = 0
  · obtain ⟨hels, hen⟩ := Pth.els_subs hv hk
    have hev := Pth.els_val hv
    have HFB := hide (fromBeginning_any v b off cap n W0 (Pth.els v).length hlen1 (hrow.below B0 hb) hen hev.1 n0 n1)
    have HPO := hide (partsOf_any v b off cap W0 hv (hrow.below B0 hb) (Nat.lt_of_lt_of_le hb B0.size) hcap)
    rw [← hels] at HPO
    have ELW := hide (fun q hq h => Pth.el_low (n := n) (cs := cs) (x := x) hk (q := q) hq h)
    have EMY := hide (fun q hq h0 h => Pth.el_many (n := n) (cs := cs) (x := x) hk (q := q) hq h0 h)
    have EIN := hide (fun (k : Nat) hq h R hR => Pth.el_in (n := n) (cs := cs) (x := x) hk (k := k) hq h (R := R) hR)
    have hel1 := hev.1
    have HEV := hide hev.2
    generalize Pth.els v = ps at *
    generalize hq : Pth.idx n ps.length = q at *
    have HQ := hide hq
    have hqb : -1000000000000000 ≤ q ∧ q ≤ 1000000000000000 := by rw [← hq]; unfold Pth.idx; split <;> omega
    clear hq hv hrow hrow' hrowx ih hels hen hev R0
    have hR0 : Own W0 w.heap.size 59 [.int .i64 0, .slice none 0 0] := by rw [hW0]; exact ⟨_, heap_alloc_new _ _, rfl⟩
    have HR0 := hide hR0
    clear hR0
    generalize (v.getD 0 M.zero).kind = kd at *
    rcases hk with rfl | rfl
    · go_enter Tryz.func140, Tryz.ntmps140
      go_upto_region 1 with fail
      rw [← hW0]
      clear hW0
      go_wp2_with fail
      refine (unhide HFB).mono ?_
      rintro e1 w1 ⟨rfl, hw1⟩
      rw [hw1]
      clear hw1 w1 HFB
      by_cases hlow : q < 0
      · have E := hide ((unhide ELW) q rfl hlow)
        clear EIN EMY ELW HIH SGD HPO
        go_wp2_with fail
        refine bodyPost_ret (v := .agg #[.int .i64 3, .slice none 0 0]) (by simp [results, Tryz.results140, go_sem, p0, p1]) rfl (ans_of (unhide E) (resNil _ _) (store_below B0 _ _))
      by_cases hbig : 200 ≤ q
      · have E := hide ((unhide EMY) q rfl (by omega) hbig)
        clear EIN EMY ELW HIH SGD HPO
        go_wp2_with fail
        refine bodyPost_ret (v := .agg #[.int .i64 2, .slice none 0 0]) (by simp [results, Tryz.results140, go_sem, p0, p1]) rfl (ans_of (unhide E) (resNil _ _) (store_below B0 _ _))
      obtain ⟨k, hqk⟩ : ∃ k : Nat, q = (k : Int) := ⟨q.toNat, by omega⟩
      subst hqk
      have hk200 : k < 200 := by omega
      have EIN2 := hide (fun R hR => (unhide EIN) k rfl hk200 R hR)
      clear EIN EMY ELW hlow hbig f0
      have hbig' : ¬ (200 : Int) ≤ (k : Int) := by omega
      have hlow' : ¬ (k : Int) < 0 := by omega
      obtain ⟨i0, hi, hz0, hz1, hz2⟩ := info_parts Tryz.info24
      go_wp2_with fail
      refine (unhide HPO).mono ?_
      rintro e2 w2 ⟨s2, rfl, hsd, hb2⟩
      have hR2 := (unhide HR0).below hb2 (unhide HR0).lt
      have B2 : Below w.heap.size w w2 := B0.trans (hb2.mono B0.size)
      obtain ⟨ss0, hs1, hs2, hs3⟩ := hsd.ss
      rw [Z0.out] at hs2 hs3
      have HS3 := hide hs3
      clear p0 p1 y0 y1 hb2 HPO hsd hs3
      go_wp2_with fail
      go_loopg [9] (k + 1 - ps.length) (fun g s9 wr => ∃ (m : Nat) (ss : List Value), Hid (g = k + 1 - m) ∧ wr.ownsRow (w.heap.size + 1) 24 1 s9 m ss ∧ Hid (ss.length = m) ∧ Hid (∀ j, j < m → Res wr (w.heap.size + 1) (ss.getD j (.slice none 0 0)) ((Pth.pad ps m).getD j [])) ∧ ps.length ≤ m ∧ m ≤ max ps.length (k + 1) ∧ Below w.heap.size w wr ∧ Own wr w.heap.size 59 [.int .i64 0, .slice none 0 0])
      case atStart => exact ⟨ps.length, ss0, rfl, hs2, hs1, (by show ∀ j, _; rw [Pth.pad_le (Nat.le_refl _)]; exact unhide HS3), Nat.le_refl _, by omega, B2, hR2⟩
      case round =>
        clear hs2 HS3 B2 hR2
        obtain ⟨m, ss, hg, hown, hsl, hres, hm1, hm2, hbel, hRr⟩ := hrel
        have hsh : ∃ a c, u9 = Value.slice a m c := by
          rcases hown.2 with ⟨h, h2⟩ | ⟨g, c, _, h, _⟩
          · exact ⟨none, 0, by rw [h, h2]⟩
          · exact ⟨_, _, h⟩
        obtain ⟨la, lc, rfl⟩ := hsh
        have hszr := hRr.lt
        by_cases hlt : m ≤ k
        · have hltI : (m : Int) ≤ (k : Int) := by omega
          go_wp2_with fail
          refine (nullResult_any _).mono ?_
          rintro e3 w3 ⟨sp, rfl, hrp, hb3⟩
          have B3 : Below w.heap.size w w3 := hbel.trans (hb3.mono hbel.size)
          have hown2 := ownsRow_below (B := 0) hown hb3
          have hR3 := hRr.below hb3 hRr.lt
          have hres2 := hide (fun j (hj : j < m) => (hres.out j hj).below hb3)
          have hrp2 : Res w3 (w.heap.size + 1) sp [M.zero] := hrp.mono (by omega)
          clear hown hRr hres hb3 hbel hrp
          obtain ⟨pa, pn, pc, rfl⟩ := hrp2.shape
          have HRP := hide hrp2
          clear hrp2
          have hnb := hide (other_block hown2 hR3 (by decide))
          have hkeep := hide (fun (w' : World) o (hg' : (w3.alloc o).grownBy w' _) (s : Value) (l : List M.Cl) (h : Res w3 (w.heap.size + 1) s l) => grown_res (hown2.alloc o) hg' (h.alloc o) (by decide))
          have hown3 := hide (fun o => hown2.alloc o)
          have hbse := hide (ownsRow_base hown2)
          have hone := hide (one_val w3 (.slice pa pn pc) 24)
          have honep := hide (show ∀ u ∈ ([.slice pa pn pc] : List Value), u.oneCell' = true by intro u hu; simp only [List.mem_cons, List.not_mem_nil, or_false] at hu; subst hu; rfl)
          have hb63 : m + 1 ≤ maxLen := by unfold maxLen; omega
          have hby : (m + 1) * 24 ≤ 140737488355328 := by omega
          have hbase : w.heap.size + 1 ≤ w3.heap.size + 1 := by have := B3.size; omega
          have HR3 := hide hR3
          clear hown2 hR3 hszr
          have hfv := field_value 0 pa pn pc w3
          go_wp2_with (at_builtin; refine wpList_append_own _ rfl (.tmp 39) (.tmp 42) 28 rfl (w.heap.size + 1) 24 i0 (.slice none 0 0) 1 24 Tryz.underlying28 hi hz0 hz1 hz2 rfl (by decide) _ m ss rfl ((unhide hown3) _) ⟨w3.heap.size, 0, none⟩ 1 1 [.slice pa pn pc] rfl rfl (unhide hone) (unhide honep) hb63 hby (by simpa using hbase) ?_)
          intro v' w4 ho4 hg4 _
          have B4 : Below w.heap.size w w4 := (B3.alloc B3.size _).grown hg4 (by simp; have := B3.size; omega) (fun q hq => by have := (unhide hbse) q hq; omega)
          have hR4 : Own w4 w.heap.size 59 [.int .i64 0, .slice none 0 0] := grown_own hg4 ((unhide HR3).alloc _) (unhide hnb)
          have hres4 := hide (show ∀ j, j < m + 1 → Res w4 (w.heap.size + 1) ((ss ++ [Value.slice pa pn pc]).getD j (.slice none 0 0)) ((Pth.pad ps (m + 1)).getD j []) by
            intro j hj
            have hl := hsl.out
            have hpl := Pth.pad_length ps m
            rw [Pth.pad_succ hm1]
            by_cases e : j = m
            · subst e
              rw [List.getD_eq_getElem?_getD, List.getElem?_append_right (by omega), hl, Nat.sub_self, List.getD_eq_getElem?_getD, List.getElem?_append_right (by omega), show j - (Pth.pad ps j).length = 0 by omega]
              exact (unhide hkeep) _ _ hg4 _ _ (unhide HRP)
            · rw [List.getD_eq_getElem?_getD, List.getElem?_append_left (by omega), ← List.getD_eq_getElem?_getD, List.getD_eq_getElem?_getD (l := Pth.pad ps m ++ _), List.getElem?_append_left (by omega), ← List.getD_eq_getElem?_getD]
              exact (unhide hkeep) _ _ hg4 _ _ ((unhide hres2) j (by omega)))
          have HO4 := hide ho4
          clear ho4 hg4 B3 hown3 hone honep hkeep hres2 HRP hnb hbse HR3
          go_wp2_with fail
          go_roundg (k + 1 - (m + 1))
          case rel => exact ⟨m + 1, _, rfl, unhide HO4, (by show _ = _; rw [List.length_append, hsl.out]; rfl), unhide hres4, by omega, by omega, B4, hR4⟩
          case measure => have := hg.out; omega
        · have hltI : ¬ (m : Int) ≤ (k : Int) := by omega
          have hpad : Pth.pad ps m = Pth.pad ps (k + 1) := by
            by_cases e : ps.length ≤ k
            · rw [show m = k + 1 by omega]
            · rw [Pth.pad_le (by omega), Pth.pad_le (by omega)]
          have hml : (Pth.pad ps (k + 1)).length = m := by rw [← hpad, Pth.pad_length]; omega
          have hss : SS wr (w.heap.size + 1) (.slice la m lc) (Pth.pad ps (k + 1)) := ⟨ss, by rw [hsl.out, hml], by rw [hml]; exact hown, fun i hi => by rw [← hpad]; exact hres.out i (by omega)⟩
          have hval := Pth.pad_val (unhide HEV) (k + 1)
          have hsg := hide (fun u hu => Pth.set_val hval k (x := u) hu)
          have hne := hide (fun i (hi : i < (Pth.pad ps (k + 1)).length) => Pth.val_ne (hval i hi))
          have hvk := hval k (by omega)
          have HML := hide hml
          have SIG := hide ((unhide SGD) _ hvk)
          clear hown hsl hres hpad hval SGD
          generalize Pth.pad ps (k + 1) = L at *
          have hmk : k < m := by omega
          have hm400 : m ≤ 400 := by omega
          obtain ⟨g, lc2, hsh, hlc, hLV⟩ : ∃ g lc2, Value.slice la m lc = .slice (some ⟨g, 0, none⟩) m lc2 ∧ m ≤ lc2 ∧ LV wr (some ⟨g, 0, none⟩) L := by
            obtain ⟨a, c, e1, e2, e3⟩ := hss.lv (unhide hne)
            obtain ⟨g, _, _, _, e4, _⟩ := e3 k (by rw [unhide HML]; exact hmk)
            subst e4
            rw [unhide HML] at e1 e2
            exact ⟨g, c, e1, e2, e3⟩
          simp only [Value.slice.injEq, true_and] at hsh
          obtain ⟨rfl, rfl⟩ := hsh
          obtain ⟨g', bk, ok, ck, hg', hgl, fk, hck, hbk, hrk⟩ := hLV k (by rw [unhide HML]; exact hmk)
          simp only [Option.some.injEq, Addr.mk.injEq, and_true] at hg'
          subst hg'
          have HC := hide ((unhide HIH) (L.getD k []) bk ok ck wr hbel hvk hrk hbk hck)
          have EI := hide (fun R h => (unhide EIN2) R h)
          generalize hR3 : Pth.setS (L.getD k []) cs x = R3 at *
          generalize L.getD k [] = u at *
          obtain ⟨rc3, rl3⟩ := R3
          have E := hide ((unhide EI) _ rfl)
          simp only at E
          have HSS := hide hss
          have kI : (0 : Int) ≤ (k : Int) := by omega
          have kI2 : (k : Int) < (m : Int) := by omega
          clear hLV hrk HIH EIN2 EI hss hvk hR3
          go_wp2_with fail
          refine (unhide HC).mono ?_
          rintro e3 w3 ⟨s3, rfl, hr3, hb3⟩
          obtain ⟨a3, n3, c3, rfl⟩ := hr3.shape
          obtain ⟨W3, hW3⟩ : ∃ W3, W3 = w3.alloc (.cells #[.int .i64 rc3, .slice a3 n3 c3] 59) := ⟨_, rfl⟩
          have O3 : Own W3 w3.heap.size 59 [.int .i64 rc3, .slice a3 n3 c3] := by rw [hW3]; exact ⟨_, heap_alloc_new _ _, rfl⟩
          have R3 : Own W3 w.heap.size 59 [.int .i64 0, .slice none 0 0] := by rw [hW3]; exact (hRr.below hb3 hRr.lt).alloc _
          have V3 : Res W3 (w.heap.size + 1) (.slice a3 n3 c3) rl3 := by rw [hW3]; exact (hr3.alloc _).mono (by omega)
          have C3 : Below w.heap.size w W3 := by rw [hW3]; exact (hbel.trans (hb3.mono hbel.size)).alloc (by have := hbel.size; have := hb3.size; omega) _
          have SS3 := hide (show SS W3 (w.heap.size + 1) (.slice (some ⟨g, 0, none⟩) m lc) L by rw [hW3]; exact ((unhide HSS).below hb3).below ((Below.refl _ _).alloc (Nat.le_refl _) _))
          have gne : g ≠ w3.heap.size := by have := hb3.size; omega
          have gne2 : g ≠ w.heap.size := by
            intro e
            obtain ⟨ss2, _, ⟨_, ⟨z1, _⟩ | ⟨g2, c2, cur, z1, z2, z3, _⟩⟩, _⟩ := unhide HSS
            · cases z1
            · simp only [Value.slice.injEq, Option.some.injEq, Addr.mk.injEq, and_true, true_and] at z1; omega
          have glt : g < W3.heap.size := by rw [hW3]; simp; have := hb3.size; omega
          clear fk hRr hr3 hb3 HC hbel HSS
          generalize hg3 : w3.heap.size = g3 at *
          have p0 := R3.cell 0
          have p1 := R3.cell 1
          have y0 := R3.frozen 0
          have y1 := R3.frozen 1
          simp only [List.getElem?_cons_zero, List.getElem?_cons_succ] at p0 p1
          have q0 := O3.cell 0
          have q1 := O3.cell 1
          simp only [List.getElem?_cons_zero, List.getElem?_cons_succ] at q0 q1
          go_upto_region 12 with fail
          rw [← hW3]
          clear hW3 hg3
          by_cases hz3 : rc3 = 0
          · subst hz3
            simp only [if_pos] at E
            have hr0 := (unhide SIG).ok rfl
            obtain ⟨ss4, j1, j2, j3⟩ := unhide SS3
            have fg : ∃ z, W3.cell? ⟨g, k, none⟩ = some z := by
              obtain ⟨gg, cc, sx, e1, e2, e3, e4⟩ := SS.at (i := k) (unhide SS3) (by rw [unhide HML]; exact hmk)
              simp only [Value.slice.injEq, Option.some.injEq, Addr.mk.injEq, and_true] at e1
              rw [← e1.1] at e3
              exact ⟨_, e3⟩
            obtain ⟨zz, fg⟩ := fg
            have fz : W3.frozen? ⟨g, k, none⟩ = false := by
              obtain ⟨_, ⟨z1, _⟩ | ⟨g2, c2, cur, z1, z2, z3, _⟩⟩ := j2
              · cases z1
              · simp only [Value.slice.injEq, Option.some.injEq, Addr.mk.injEq, and_true] at z1
                rw [← z1.1] at z3
                exact Own.frozen ⟨_, z3, rfl⟩ k
            clear j1 j2 j3 ss4
            obtain ⟨W4, hW4⟩ : ∃ W4, W4 = W3.setCell ⟨g, k, none⟩ (.slice a3 n3 c3) := ⟨_, rfl⟩
            have SS4 : SS W4 (w.heap.size + 1) (.slice (some ⟨g, 0, none⟩) L.length lc) (L.set k rl3) := by
              rw [hW4]
              exact SS.put (by rw [unhide HML]; exact unhide SS3) (by rw [unhide HML]; exact hmk) (unhide hne) V3 (Pth.val_ne hr0)
            have R4 : Own W4 w.heap.size 59 [.int .i64 0, .slice none 0 0] := by rw [hW4]; exact R3.setOther _ _ (Ne.symm gne2)
            have C4 : Below w.heap.size w W4 := by
              rw [hW4]
              exact C3.setCell (by show w.heap.size ≤ g; obtain ⟨gg, cc, sx, e1, e2, e3, e4⟩ := SS.at (i := k) (unhide SS3) (by rw [unhide HML]; exact hmk); obtain ⟨ss2, _, ⟨_, ⟨z1, _⟩ | ⟨g2, c2, cur, z1, z2, z3, _⟩⟩, _⟩ := unhide SS3; (· cases z1); (· simp only [Value.slice.injEq, Option.some.injEq, Addr.mk.injEq, and_true, true_and] at z1; omega)) _
            have hv4 := (unhide hsg) rl3 hr0
            have hLl : (L.set k rl3).length = m := by rw [List.length_set, unhide HML]
            obtain ⟨la4, lc4, hsh4, hlc4, hLV4⟩ := SS4.lv (fun i hi => Pth.val_ne (hv4 i hi))
            rw [hLl] at hsh4 hlc4
            rw [unhide HML] at hsh4
            simp only [Value.slice.injEq, true_and] at hsh4
            obtain ⟨rfl, rfl⟩ := hsh4
            have HLA := hide (layArrayV_any (some ⟨g, 0, none⟩) lc (L.set k rl3) W4 hLV4 (by rw [hLl]; exact hlc4) (by rw [hLl]; omega) hv4)
            rw [hLl] at HLA
            have hal := arrK_length (L.set k rl3) (L.set k rl3).length
            have hts := tot_small (L.set k rl3) (L.set k rl3).length (Nat.le_refl _) (fun j hj => (Pth.lens (hv4 j hj)).2)
            have hvl : (arrV (L.set k rl3)).length ≤ 1048576 := by unfold arrV; omega
            have hvn : arrV (L.set k rl3) ≠ [] := by unfold arrV arrK; simp
            have hvo := hide (show ∀ c ∈ arrV (L.set k rl3), c.ok from arrK_ok (L.set k rl3) (by omega) (fun j hj => Pth.oks (hv4 j hj)) _ (Nat.le_refl _))
            generalize L.set k rl3 = L4 at *
            clear SS3 SS4 R3 C3 V3 O3 hv4 hal hts hLV4 hsg hne SIG
            generalize hlv : arrV L4 = A4 at *
            clear hlv
            go_upto_region 15 with fail
            rw [← hW4]
            clear hW4 p0 p1 y0 y1 q0 q1 fg fz
            go_wp2_with fail
            refine (unhide HLA).mono ?_
            rintro e5 w5 ⟨s5, rfl, hr5, hb5⟩
            have HT := hide (implTold_any s5 _ A4 w5 hr5 (by have := hb5.size; omega) hvn hvl (unhide hvo))
            obtain ⟨a5, n5, c5, rfl⟩ := hr5.shape
            have R5 := R4.below hb5 R4.lt
            have C5 := C4.trans (hb5.mono C4.size)
            have hsz4 := R4.lt
            generalize told A4 = R6 at *
            obtain ⟨rc6, rl6⟩ := R6
            clear hr5 hb5 HLA
            go_wp2_with fail
            refine (unhide HT).mono ?_
            rintro e6 w6 ⟨s6, rfl, hr6, hb6⟩
            obtain ⟨a6, n6, c6, rfl⟩ := hr6.shape
            have R6 := R5.below hb6 R5.lt
            have F := hide (Pth.ret (hr6.mono (by omega)) (C5.trans (hb6.mono C5.size)))
            clear hr6 hb6 HT R5 C5 R4 C4
            have p0 := R6.cell 0
            have p1 := R6.cell 1
            have y0 := R6.frozen 0
            have y1 := R6.frozen 1
            simp only [List.getElem?_cons_zero, List.getElem?_cons_succ] at p0 p1
            go_wp2_with fail
            refine bodyPost_ret (v := .agg #[.int .i64 rc6, .slice a6 n6 c6]) (by simp [results, Tryz.results140, go_sem, p0, p1]) rfl (ans_of (unhide E) ((unhide F) _ _).1 ((unhide F) _ _).2)
          · have F := hide (Pth.ret V3 C3)
            rw [if_neg hz3] at E
            have hz' : (rc3 == 0) = false := by simp [hz3]
            clear V3 SIG O3 R3 hz3 SS3 hsg hne
            go_wp2_with fail
            refine bodyPost_ret (v := .agg #[.int .i64 rc3, .slice a3 n3 c3]) (by simp [results, Tryz.results140, go_sem, p0, p1]) rfl (ans_of (unhide E) ((unhide F) _ _).1 ((unhide F) _ _).2)
    · go_enter Tryz.func140, Tryz.ntmps140
      go_upto_region 1 with fail
      rw [← hW0]
      clear hW0
      go_wp2_with fail
      refine (unhide HFB).mono ?_
      rintro e1 w1 ⟨rfl, hw1⟩
      rw [hw1]
      clear hw1 w1 HFB
      by_cases hlow : q < 0
      · have E := hide ((unhide ELW) q rfl hlow)
        clear EIN EMY ELW HIH SGD HPO
        go_wp2_with fail
        refine bodyPost_ret (v := .agg #[.int .i64 3, .slice none 0 0]) (by simp [results, Tryz.results140, go_sem, p0, p1]) rfl (ans_of (unhide E) (resNil _ _) (store_below B0 _ _))
      by_cases hbig : 200 ≤ q
      · have E := hide ((unhide EMY) q rfl (by omega) hbig)
        clear EIN EMY ELW HIH SGD HPO
        go_wp2_with fail
        refine bodyPost_ret (v := .agg #[.int .i64 2, .slice none 0 0]) (by simp [results, Tryz.results140, go_sem, p0, p1]) rfl (ans_of (unhide E) (resNil _ _) (store_below B0 _ _))
      obtain ⟨k, hqk⟩ : ∃ k : Nat, q = (k : Int) := ⟨q.toNat, by omega⟩
      subst hqk
      have hk200 : k < 200 := by omega
      have EIN2 := hide (fun R hR => (unhide EIN) k rfl hk200 R hR)
      clear EIN EMY ELW hlow hbig f0
      have hbig' : ¬ (200 : Int) ≤ (k : Int) := by omega
      have hlow' : ¬ (k : Int) < 0 := by omega
      obtain ⟨i0, hi, hz0, hz1, hz2⟩ := info_parts Tryz.info24
      go_wp2_with fail
      refine (unhide HPO).mono ?_
      rintro e2 w2 ⟨s2, rfl, hsd, hb2⟩
      have hR2 := (unhide HR0).below hb2 (unhide HR0).lt
      have B2 : Below w.heap.size w w2 := B0.trans (hb2.mono B0.size)
      obtain ⟨ss0, hs1, hs2, hs3⟩ := hsd.ss
      rw [Z0.out] at hs2 hs3
      have HS3 := hide hs3
      clear p0 p1 y0 y1 hb2 HPO hsd hs3
      go_wp2_with fail
      go_loopg [9] (k + 1 - ps.length) (fun g s9 wr => ∃ (m : Nat) (ss : List Value), Hid (g = k + 1 - m) ∧ wr.ownsRow (w.heap.size + 1) 24 1 s9 m ss ∧ Hid (ss.length = m) ∧ Hid (∀ j, j < m → Res wr (w.heap.size + 1) (ss.getD j (.slice none 0 0)) ((Pth.pad ps m).getD j [])) ∧ ps.length ≤ m ∧ m ≤ max ps.length (k + 1) ∧ Below w.heap.size w wr ∧ Own wr w.heap.size 59 [.int .i64 0, .slice none 0 0])
      case atStart => exact ⟨ps.length, ss0, rfl, hs2, hs1, (by show ∀ j, _; rw [Pth.pad_le (Nat.le_refl _)]; exact unhide HS3), Nat.le_refl _, by omega, B2, hR2⟩
      case round =>
        clear hs2 HS3 B2 hR2
        obtain ⟨m, ss, hg, hown, hsl, hres, hm1, hm2, hbel, hRr⟩ := hrel
        have hsh : ∃ a c, u9 = Value.slice a m c := by
          rcases hown.2 with ⟨h, h2⟩ | ⟨g, c, _, h, _⟩
          · exact ⟨none, 0, by rw [h, h2]⟩
          · exact ⟨_, _, h⟩
        obtain ⟨la, lc, rfl⟩ := hsh
        have hszr := hRr.lt
        by_cases hlt : m ≤ k
        · have hltI : (m : Int) ≤ (k : Int) := by omega
          go_wp2_with fail
          refine (nullResult_any _).mono ?_
          rintro e3 w3 ⟨sp, rfl, hrp, hb3⟩
          have B3 : Below w.heap.size w w3 := hbel.trans (hb3.mono hbel.size)
          have hown2 := ownsRow_below (B := 0) hown hb3
          have hR3 := hRr.below hb3 hRr.lt
          have hres2 := hide (fun j (hj : j < m) => (hres.out j hj).below hb3)
          have hrp2 : Res w3 (w.heap.size + 1) sp [M.zero] := hrp.mono (by omega)
          clear hown hRr hres hb3 hbel hrp
          obtain ⟨pa, pn, pc, rfl⟩ := hrp2.shape
          have HRP := hide hrp2
          clear hrp2
          have hnb := hide (other_block hown2 hR3 (by decide))
          have hkeep := hide (fun (w' : World) o (hg' : (w3.alloc o).grownBy w' _) (s : Value) (l : List M.Cl) (h : Res w3 (w.heap.size + 1) s l) => grown_res (hown2.alloc o) hg' (h.alloc o) (by decide))
          have hown3 := hide (fun o => hown2.alloc o)
          have hbse := hide (ownsRow_base hown2)
          have hone := hide (one_val w3 (.slice pa pn pc) 24)
          have honep := hide (show ∀ u ∈ ([.slice pa pn pc] : List Value), u.oneCell' = true by intro u hu; simp only [List.mem_cons, List.not_mem_nil, or_false] at hu; subst hu; rfl)
          have hb63 : m + 1 ≤ maxLen := by unfold maxLen; omega
          have hby : (m + 1) * 24 ≤ 140737488355328 := by omega
          have hbase : w.heap.size + 1 ≤ w3.heap.size + 1 := by have := B3.size; omega
          have HR3 := hide hR3
          clear hown2 hR3 hszr
          have hfv := field_value 0 pa pn pc w3
          go_wp2_with (at_builtin; refine wpList_append_own _ rfl (.tmp 39) (.tmp 42) 28 rfl (w.heap.size + 1) 24 i0 (.slice none 0 0) 1 24 Tryz.underlying28 hi hz0 hz1 hz2 rfl (by decide) _ m ss rfl ((unhide hown3) _) ⟨w3.heap.size, 0, none⟩ 1 1 [.slice pa pn pc] rfl rfl (unhide hone) (unhide honep) hb63 hby (by simpa using hbase) ?_)
          intro v' w4 ho4 hg4 _
          have B4 : Below w.heap.size w w4 := (B3.alloc B3.size _).grown hg4 (by simp; have := B3.size; omega) (fun q hq => by have := (unhide hbse) q hq; omega)
          have hR4 : Own w4 w.heap.size 59 [.int .i64 0, .slice none 0 0] := grown_own hg4 ((unhide HR3).alloc _) (unhide hnb)
          have hres4 := hide (show ∀ j, j < m + 1 → Res w4 (w.heap.size + 1) ((ss ++ [Value.slice pa pn pc]).getD j (.slice none 0 0)) ((Pth.pad ps (m + 1)).getD j []) by
            intro j hj
            have hl := hsl.out
            have hpl := Pth.pad_length ps m
            rw [Pth.pad_succ hm1]
            by_cases e : j = m
            · subst e
              rw [List.getD_eq_getElem?_getD, List.getElem?_append_right (by omega), hl, Nat.sub_self, List.getD_eq_getElem?_getD, List.getElem?_append_right (by omega), show j - (Pth.pad ps j).length = 0 by omega]
              exact (unhide hkeep) _ _ hg4 _ _ (unhide HRP)
            · rw [List.getD_eq_getElem?_getD, List.getElem?_append_left (by omega), ← List.getD_eq_getElem?_getD, List.getD_eq_getElem?_getD (l := Pth.pad ps m ++ _), List.getElem?_append_left (by omega), ← List.getD_eq_getElem?_getD]
              exact (unhide hkeep) _ _ hg4 _ _ ((unhide hres2) j (by omega)))
          have HO4 := hide ho4
          clear ho4 hg4 B3 hown3 hone honep hkeep hres2 HRP hnb hbse HR3
          go_wp2_with fail
          go_roundg (k + 1 - (m + 1))
          case rel => exact ⟨m + 1, _, rfl, unhide HO4, (by show _ = _; rw [List.length_append, hsl.out]; rfl), unhide hres4, by omega, by omega, B4, hR4⟩
          case measure => have := hg.out; omega
        · have hltI : ¬ (m : Int) ≤ (k : Int) := by omega
          have hpad : Pth.pad ps m = Pth.pad ps (k + 1) := by
            by_cases e : ps.length ≤ k
            · rw [show m = k + 1 by omega]
            · rw [Pth.pad_le (by omega), Pth.pad_le (by omega)]
          have hml : (Pth.pad ps (k + 1)).length = m := by rw [← hpad, Pth.pad_length]; omega
          have hss : SS wr (w.heap.size + 1) (.slice la m lc) (Pth.pad ps (k + 1)) := ⟨ss, by rw [hsl.out, hml], by rw [hml]; exact hown, fun i hi => by rw [← hpad]; exact hres.out i (by omega)⟩
          have hval := Pth.pad_val (unhide HEV) (k + 1)
          have hsg := hide (fun u hu => Pth.set_val hval k (x := u) hu)
          have hne := hide (fun i (hi : i < (Pth.pad ps (k + 1)).length) => Pth.val_ne (hval i hi))
          have hvk := hval k (by omega)
          have HML := hide hml
          have SIG := hide ((unhide SGD) _ hvk)
          clear hown hsl hres hpad hval SGD
          generalize Pth.pad ps (k + 1) = L at *
          have hmk : k < m := by omega
          have hm400 : m ≤ 400 := by omega
          obtain ⟨g, lc2, hsh, hlc, hLV⟩ : ∃ g lc2, Value.slice la m lc = .slice (some ⟨g, 0, none⟩) m lc2 ∧ m ≤ lc2 ∧ LV wr (some ⟨g, 0, none⟩) L := by
            obtain ⟨a, c, e1, e2, e3⟩ := hss.lv (unhide hne)
            obtain ⟨g, _, _, _, e4, _⟩ := e3 k (by rw [unhide HML]; exact hmk)
            subst e4
            rw [unhide HML] at e1 e2
            exact ⟨g, c, e1, e2, e3⟩
          simp only [Value.slice.injEq, true_and] at hsh
          obtain ⟨rfl, rfl⟩ := hsh
          obtain ⟨g', bk, ok, ck, hg', hgl, fk, hck, hbk, hrk⟩ := hLV k (by rw [unhide HML]; exact hmk)
          simp only [Option.some.injEq, Addr.mk.injEq, and_true] at hg'
          subst hg'
          have HC := hide ((unhide HIH) (L.getD k []) bk ok ck wr hbel hvk hrk hbk hck)
          have EI := hide (fun R h => (unhide EIN2) R h)
          generalize hR3 : Pth.setS (L.getD k []) cs x = R3 at *
          generalize L.getD k [] = u at *
          obtain ⟨rc3, rl3⟩ := R3
          have E := hide ((unhide EI) _ rfl)
          simp only at E
          have HSS := hide hss
          have kI : (0 : Int) ≤ (k : Int) := by omega
          have kI2 : (k : Int) < (m : Int) := by omega
          clear hLV hrk HIH EIN2 EI hss hvk hR3
          go_wp2_with fail
          refine (unhide HC).mono ?_
          rintro e3 w3 ⟨s3, rfl, hr3, hb3⟩
          obtain ⟨a3, n3, c3, rfl⟩ := hr3.shape
          obtain ⟨W3, hW3⟩ : ∃ W3, W3 = w3.alloc (.cells #[.int .i64 rc3, .slice a3 n3 c3] 59) := ⟨_, rfl⟩
          have O3 : Own W3 w3.heap.size 59 [.int .i64 rc3, .slice a3 n3 c3] := by rw [hW3]; exact ⟨_, heap_alloc_new _ _, rfl⟩
          have R3 : Own W3 w.heap.size 59 [.int .i64 0, .slice none 0 0] := by rw [hW3]; exact (hRr.below hb3 hRr.lt).alloc _
          have V3 : Res W3 (w.heap.size + 1) (.slice a3 n3 c3) rl3 := by rw [hW3]; exact (hr3.alloc _).mono (by omega)
          have C3 : Below w.heap.size w W3 := by rw [hW3]; exact (hbel.trans (hb3.mono hbel.size)).alloc (by have := hbel.size; have := hb3.size; omega) _
          have SS3 := hide (show SS W3 (w.heap.size + 1) (.slice (some ⟨g, 0, none⟩) m lc) L by rw [hW3]; exact ((unhide HSS).below hb3).below ((Below.refl _ _).alloc (Nat.le_refl _) _))
          have gne : g ≠ w3.heap.size := by have := hb3.size; omega
          have gne2 : g ≠ w.heap.size := by
            intro e
            obtain ⟨ss2, _, ⟨_, ⟨z1, _⟩ | ⟨g2, c2, cur, z1, z2, z3, _⟩⟩, _⟩ := unhide HSS
            · cases z1
            · simp only [Value.slice.injEq, Option.some.injEq, Addr.mk.injEq, and_true, true_and] at z1; omega
          have glt : g < W3.heap.size := by rw [hW3]; simp; have := hb3.size; omega
          clear fk hRr hr3 hb3 HC hbel HSS
          generalize hg3 : w3.heap.size = g3 at *
          have p0 := R3.cell 0
          have p1 := R3.cell 1
          have y0 := R3.frozen 0
          have y1 := R3.frozen 1
          simp only [List.getElem?_cons_zero, List.getElem?_cons_succ] at p0 p1
          have q0 := O3.cell 0
          have q1 := O3.cell 1
          simp only [List.getElem?_cons_zero, List.getElem?_cons_succ] at q0 q1
          go_upto_region 12 with fail
          rw [← hW3]
          clear hW3 hg3
          by_cases hz3 : rc3 = 0
          · subst hz3
            simp only [if_pos] at E
            have hr0 := (unhide SIG).ok rfl
            obtain ⟨ss4, j1, j2, j3⟩ := unhide SS3
            have fg : ∃ z, W3.cell? ⟨g, k, none⟩ = some z := by
              obtain ⟨gg, cc, sx, e1, e2, e3, e4⟩ := SS.at (i := k) (unhide SS3) (by rw [unhide HML]; exact hmk)
              simp only [Value.slice.injEq, Option.some.injEq, Addr.mk.injEq, and_true] at e1
              rw [← e1.1] at e3
              exact ⟨_, e3⟩
            obtain ⟨zz, fg⟩ := fg
            have fz : W3.frozen? ⟨g, k, none⟩ = false := by
              obtain ⟨_, ⟨z1, _⟩ | ⟨g2, c2, cur, z1, z2, z3, _⟩⟩ := j2
              · cases z1
              · simp only [Value.slice.injEq, Option.some.injEq, Addr.mk.injEq, and_true] at z1
                rw [← z1.1] at z3
                exact Own.frozen ⟨_, z3, rfl⟩ k
            clear j1 j2 j3 ss4
            obtain ⟨W4, hW4⟩ : ∃ W4, W4 = W3.setCell ⟨g, k, none⟩ (.slice a3 n3 c3) := ⟨_, rfl⟩
            have SS4 : SS W4 (w.heap.size + 1) (.slice (some ⟨g, 0, none⟩) L.length lc) (L.set k rl3) := by
              rw [hW4]
              exact SS.put (by rw [unhide HML]; exact unhide SS3) (by rw [unhide HML]; exact hmk) (unhide hne) V3 (Pth.val_ne hr0)
            have R4 : Own W4 w.heap.size 59 [.int .i64 0, .slice none 0 0] := by rw [hW4]; exact R3.setOther _ _ (Ne.symm gne2)
            have C4 : Below w.heap.size w W4 := by
              rw [hW4]
              exact C3.setCell (by show w.heap.size ≤ g; obtain ⟨gg, cc, sx, e1, e2, e3, e4⟩ := SS.at (i := k) (unhide SS3) (by rw [unhide HML]; exact hmk); obtain ⟨ss2, _, ⟨_, ⟨z1, _⟩ | ⟨g2, c2, cur, z1, z2, z3, _⟩⟩, _⟩ := unhide SS3; (· cases z1); (· simp only [Value.slice.injEq, Option.some.injEq, Addr.mk.injEq, and_true, true_and] at z1; omega)) _
            have hv4 := (unhide hsg) rl3 hr0
            have hLl : (L.set k rl3).length = m := by rw [List.length_set, unhide HML]
            obtain ⟨la4, lc4, hsh4, hlc4, hLV4⟩ := SS4.lv (fun i hi => Pth.val_ne (hv4 i hi))
            rw [hLl] at hsh4 hlc4
            rw [unhide HML] at hsh4
            simp only [Value.slice.injEq, true_and] at hsh4
            obtain ⟨rfl, rfl⟩ := hsh4
            have HLA := hide (layArrayV_any (some ⟨g, 0, none⟩) lc (L.set k rl3) W4 hLV4 (by rw [hLl]; exact hlc4) (by rw [hLl]; omega) hv4)
            rw [hLl] at HLA
            have hal := arrK_length (L.set k rl3) (L.set k rl3).length
            have hts := tot_small (L.set k rl3) (L.set k rl3).length (Nat.le_refl _) (fun j hj => (Pth.lens (hv4 j hj)).2)
            have hvl : (arrV (L.set k rl3)).length ≤ 1048576 := by unfold arrV; omega
            have hvn : arrV (L.set k rl3) ≠ [] := by unfold arrV arrK; simp
            have hvo := hide (show ∀ c ∈ arrV (L.set k rl3), c.ok from arrK_ok (L.set k rl3) (by omega) (fun j hj => Pth.oks (hv4 j hj)) _ (Nat.le_refl _))
            generalize L.set k rl3 = L4 at *
            clear SS3 SS4 R3 C3 V3 O3 hv4 hal hts hLV4 hsg hne SIG
            generalize hlv : arrV L4 = A4 at *
            clear hlv
            go_upto_region 15 with fail
            rw [← hW4]
            clear hW4 p0 p1 y0 y1 q0 q1 fg fz
            go_wp2_with fail
            refine (unhide HLA).mono ?_
            rintro e5 w5 ⟨s5, rfl, hr5, hb5⟩
            have HT := hide (implTold_any s5 _ A4 w5 hr5 (by have := hb5.size; omega) hvn hvl (unhide hvo))
            obtain ⟨a5, n5, c5, rfl⟩ := hr5.shape
            have R5 := R4.below hb5 R4.lt
            have C5 := C4.trans (hb5.mono C4.size)
            have hsz4 := R4.lt
            generalize told A4 = R6 at *
            obtain ⟨rc6, rl6⟩ := R6
            clear hr5 hb5 HLA
            go_wp2_with fail
            refine (unhide HT).mono ?_
            rintro e6 w6 ⟨s6, rfl, hr6, hb6⟩
            obtain ⟨a6, n6, c6, rfl⟩ := hr6.shape
            have R6 := R5.below hb6 R5.lt
            have F := hide (Pth.ret (hr6.mono (by omega)) (C5.trans (hb6.mono C5.size)))
            clear hr6 hb6 HT R5 C5 R4 C4
            have p0 := R6.cell 0
            have p1 := R6.cell 1
            have y0 := R6.frozen 0
            have y1 := R6.frozen 1
            simp only [List.getElem?_cons_zero, List.getElem?_cons_succ] at p0 p1
            go_wp2_with fail
            refine bodyPost_ret (v := .agg #[.int .i64 rc6, .slice a6 n6 c6]) (by simp [results, Tryz.results140, go_sem, p0, p1]) rfl (ans_of (unhide E) ((unhide F) _ _).1 ((unhide F) _ _).2)
          · have F := hide (Pth.ret V3 C3)
            rw [if_neg hz3] at E
            have hz' : (rc3 == 0) = false := by simp [hz3]
            clear V3 SIG O3 R3 hz3 SS3 hsg hne
            go_wp2_with fail
            refine bodyPost_ret (v := .agg #[.int .i64 rc3, .slice a3 n3 c3]) (by simp [results, Tryz.results140, go_sem, p0, p1]) rfl (ans_of (unhide E) ((unhide F) _ _).1 ((unhide F) _ _).2)
  · have h5 : (v.getD 0 M.zero).kind ≠ 5 := fun h => hk (Or.inl h)
    have h0 : (v.getD 0 M.zero).kind ≠ 0 := fun h => hk (Or.inr h)
    have E := hide (Pth.el_kind (n := n) (cs := cs) (x := x) h5 h0)
    generalize (v.getD 0 M.zero).kind = kd at *
    have e5 : (kd == 5) = false := by simp [h5]
    have e0 : (kd == 0) = false := by simp [h0]
    have d5 : (kd != 5) = true := by simp [h5]
    have d0 : (kd != 0) = true := by simp [h0]
    clear HIH SGD hk hv hrow hrow' hrowx ih
    go_enter Tryz.func140, Tryz.ntmps140
    go_upto_region 1 with fail
    rw [← hW0]
    clear hW0
    go_wp2_with fail
    refine bodyPost_ret (v := .agg #[.int .i64 6, .slice none 0 0]) (by simp [results, Tryz.results140, go_sem, p0, p1]) rfl (ans_of (unhide E) (resNil _ _) (store_below B0 _ _))
end Go.Proofs.YtcglddahphkcpaaGreatDoor
