/-
  spec.l13SetIndex.
  impl.setSteps by induction on the steps.
  spec.l13Set by induction on the steps.
  impl.SetPath and spec.SetPath, whole.
-/
import Derived.Test.YtoaibccmlmaknaaGreatPthE
import Derived.Test.YtoaibccmlmaknaaGreatSetS
namespace Go.Proofs.YtoaibccmlmaknaaGreat
open Go.RowKit
set_option linter.unusedVariables false
set_option linter.unusedSimpArgs false

/-- The slice from a on holds the steps, each as a list of its own. -/
def Pth.PL (w : World) (a : Option Addr) (cs : List M.Cl) : Prop := cs = [] ∨ ∃ g o, a = some ⟨g, o, none⟩ ∧ g < w.heap.size ∧ ∀ i, i < cs.length → ∃ b off c, w.cell? ⟨g, o + i, none⟩ = some (.slice (some ⟨b, off, none⟩) 1 c) ∧ 1 ≤ c ∧ b < w.heap.size ∧ Row w b off [cs.getD i M.zero]
theorem Pth.PL.below {w w' : World} {B : Nat} {a : Option Addr} {cs : List M.Cl} (h : Pth.PL w a cs) (hb : Below w.heap.size w w') : Pth.PL w' a cs := by
  rcases h with h | ⟨g, o, rfl, h1, h2⟩
  · exact .inl h
  · refine .inr ⟨g, o, rfl, Nat.lt_of_lt_of_le h1 hb.size, fun i hi => ?_⟩
    obtain ⟨b, off, c, q1, q2, q3, q4⟩ := h2 i hi
    exact ⟨b, off, c, (hb.cell h1).trans q1, q2, Nat.lt_of_lt_of_le q3 hb.size, q4.below hb q3⟩
/-- What l13Set says of steps. -/
def Pth.SetM (cs x : List M.Cl) : Prop := ∀ (v : List M.Cl) (b off cap : Nat) (pa : Option Addr) (cap' bx ox cx : Nat) (w : World), M.valueFault v = 0 → Row w b off v → b < w.heap.size → v.length ≤ cap → Pth.PL w pa cs → cs.length ≤ cap' → cap' ≤ 9223372036854775807 → Row w bx ox x → bx < w.heap.size → x.length ≤ cx →
  Calls Tryz.prog 21 #[.slice (some ⟨b, off, none⟩) v.length cap, .slice pa cs.length cap', .slice (some ⟨bx, ox, none⟩) x.length cx] w (Ans w (Pth.setS v cs x))

set_option maxHeartbeats 400000 in
theorem l13Index_any (n : Int) (m : Nat) (w : World) (h0 : -1000000000000000 ≤ n) (h1 : n ≤ 1000000000000000) (hm : m ≤ 200) :
    Calls Tryz.prog 56 #[.int .i64 n, .int .i64 m] w fun e w' => e = .returned (.int .i64 (Pth.idx n m)) ∧ w' = w := by
  by_cases hn : n < 0
  · have fin := hide (show Pth.idx n m = n + (m : Int) from if_pos hn)
    have hw : IntKind.i64.wrap (n + (m : Int)) = n + (m : Int) := IntWalk.i64_in _ ⟨by omega, by omega⟩
    go_enter Tryz.func56, Tryz.ntmps56
    go_wp2_with fail
    go_ret
    exact ⟨ret_int (by rw [unhide fin]), rfl⟩
  · have fin := hide (show Pth.idx n m = n from if_neg hn)
    go_enter Tryz.func56, Tryz.ntmps56
    go_wp2_with fail
    go_ret
    exact ⟨ret_int (by rw [unhide fin]), rfl⟩

set_option maxRecDepth 100000 in
set_option maxHeartbeats 1000000 in
theorem l13SetIndex_any (cs x : List M.Cl) (ih : Hid (Pth.SetM cs x)) (hx : M.valueFault x = 0) (v : List M.Cl) (n : Int) (b off cap : Nat) (pa : Option Addr) (cap' bx ox cx : Nat) (w : World) (hv : M.valueFault v = 0) (n0 : -1000000000000000 ≤ n) (n1 : n ≤ 1000000000000000) (hrow : Row w b off v) (hb : b < w.heap.size) (hcap : v.length ≤ cap) (hpl : Pth.PL w pa cs) (hcap' : cs.length ≤ cap') (hc' : cap' ≤ 9223372036854775807) (hrowx : Row w bx ox x) (hbx : bx < w.heap.size) (hcx : x.length ≤ cx) :
    Calls Tryz.prog 37 #[.slice (some ⟨b, off, none⟩) v.length cap, .int .i64 n, .slice pa cs.length cap', .slice (some ⟨bx, ox, none⟩) x.length cx] w (Ans w (Pth.elOut v n cs x)) := by
  have hlen := (Pth.lens hv).2
  have hlen1 := (Pth.lens hv).1
  have hlenI : (0 : Int) < (v.length : Int) := by omega
  obtain ⟨W0, hW0⟩ : ∃ W0, W0 = w.alloc (.cells #[.int .i64 0, .slice none 0 0] 49) := ⟨_, rfl⟩
  have B0 : Below w.heap.size w W0 := by rw [hW0]; exact (Below.refl _ _).alloc (Nat.le_refl _) _
  have R0 : Own W0 w.heap.size 49 [.int .i64 0, .slice none 0 0] := by rw [hW0]; exact ⟨_, heap_alloc_new _ _, rfl⟩
  have Z0 : Hid (W0.heap.size = w.heap.size + 1) := hide (by rw [hW0]; simp)
  obtain ⟨W1, hW1⟩ : ∃ W1, W1 = W0.alloc (.cells #[] 26) := ⟨_, rfl⟩
  have B1 : Below w.heap.size w W1 := by rw [hW1]; exact B0.alloc B0.size _
  have R1 : Own W1 w.heap.size 49 [.int .i64 0, .slice none 0 0] := by rw [hW1]; exact R0.alloc _
  have N1 : Hid (W1.ownsRow (w.heap.size + 1) 26 1 (.slice (some ⟨w.heap.size + 1, 0, none⟩) 0 0) 0 []) := hide (by
    rw [hW1, ← Z0.out]
    exact ⟨rfl, .inr ⟨W0.heap.size, 0, #[], rfl, Nat.le_refl _, heap_alloc_new _ _, Nat.le_refl _, by simp [maxLen], rfl, rfl⟩⟩)
  obtain ⟨f0, _, _, _, _⟩ := (hrow.below B0 hb) 0 (by omega)
  obtain ⟨g0, _, _, _, _⟩ := (hrow.below B1 hb) 0 (by omega)
  simp only [Nat.zero_mul, Nat.add_zero] at f0 g0
  have HIH := hide (fun u b2 o2 c2 W (h : Below w.heap.size w W) hu r hb2 hc2 => ih.out u b2 o2 c2 pa cap' bx ox cx W hu r hb2 hc2 (hpl.below (B := 0) h) hcap' hc' (hrowx.below h hbx) (Nat.lt_of_lt_of_le hbx h.size) hcx)
  have SGD := hide (fun u (hu : M.valueFault u = 0) => Pth.setS_gd hu hx cs)
  by_cases hk : (v.getD 0 M.zero).kind = 5 ∨ (v.getD 0 M.zero).kind = 0
  · obtain ⟨hels, hen⟩ := Pth.els_subs hv hk
    have hev := Pth.els_val hv
    have HPO := hide (l1Parts_any v b off cap W1 hv (hrow.below B1 hb) (Nat.lt_of_lt_of_le hb B1.size) hcap (Pth.oks hv))
    rw [← hels] at HPO
    have ELW := hide (fun q hq h => Pth.el_low (n := n) (cs := cs) (x := x) hk (q := q) hq h)
    have EMY := hide (fun q hq h0 h => Pth.el_many (n := n) (cs := cs) (x := x) hk (q := q) hq h0 h)
    have EIN := hide (fun (k : Nat) hq h R hR => Pth.el_in (n := n) (cs := cs) (x := x) hk (k := k) hq h (R := R) hR)
    have hel1 := hev.1
    have HEV := hide hev.2
    have HNE := hide (fun i (hi : i < (Pth.els v).length) => Pth.val_ne (hev.2 i hi))
    have EZ : Hid ((v.getD 0 M.zero).kind = 0 → Pth.els v = []) := hide (fun h => if_neg (by omega))
    generalize Pth.els v = ps at *
    clear hv hrow hrowx ih hels hen hev R0 hpl
    have HR1 := hide R1
    have hsz1 : Hid (w.heap.size + 1 ≤ W1.heap.size) := hide R1.lt
    generalize (v.getD 0 M.zero).kind = kd at *
    rcases hk with rfl | rfl
    · go_enter Tryz.func37, Tryz.ntmps37
      go_upto_region 1 with fail
      rw [← hW0]
      clear hW0
      go_upto_region 4 with fail
      rw [← hW1, Z0.out]
      clear hW1
      go_wp2_with fail
      refine (unhide HPO).mono ?_
      rintro e2 w2 ⟨s2, rfl, hss0, hb2⟩
      have B2 : Below w.heap.size w w2 := B1.trans (hb2.mono B1.size)
      have hR2 := R1.below hb2 R1.lt
      obtain ⟨la0, lc0, rfl, _, _⟩ := hss0.lv (unhide HNE)
      obtain ⟨ss0, hs1, hs2, hs3⟩ := hss0
      have hs2 : w2.ownsRow (w.heap.size + 1) 26 1 (.slice la0 ps.length lc0) ps.length ss0 := ownsRow_mono hs2 hsz1.out
      have HS3 := hide (fun i hi => (hs3 i hi).mono hsz1.out)
      have HR2 := hide hR2
      have HS2 := hide hs2
      clear hb2 HPO hs3 R1 B1 EZ N1 f0 g0
      have p0 := hR2.cell 0
      have p1 := hR2.cell 1
      have y0 := hR2.frozen 0
      have y1 := hR2.frozen 1
      simp only [List.getElem?_cons_zero, List.getElem?_cons_succ] at p0 p1
      go_wp2_with fail
      refine (l13Index_any n ps.length w2 n0 n1 hel1).mono ?_
      rintro e1 w1 ⟨rfl, hw1⟩
      rw [hw1]
      clear hw1 w1
      generalize hq : Pth.idx n ps.length = q at *
      have hqb : -1000000000000000 ≤ q ∧ q ≤ 1000000000000000 := by rw [← hq]; unfold Pth.idx; split <;> omega
      clear hq
      by_cases hlow : q < 0
      · have E := hide ((unhide ELW) q rfl hlow)
        clear EIN EMY ELW HIH SGD
        go_wp2_with fail
        refine (l3Bad_any _ _).mono ?_
        rintro ec wc ⟨sc, rfl, hrc, hbc⟩
        have hRc := (unhide HR2).below hbc (unhide HR2).lt
        have F := hide (Pth.ret (hrc.mono (unhide HR2).lt) (B2.trans (hbc.mono B2.size)))
        obtain ⟨ac, mc, cc, rfl⟩ := hrc.shape
        clear p0 p1 y0 y1 hrc hbc
        have p0 := hRc.cell 0
        have p1 := hRc.cell 1
        have y0 := hRc.frozen 0
        have y1 := hRc.frozen 1
        simp only [List.getElem?_cons_zero, List.getElem?_cons_succ] at p0 p1
        go_wp2_with fail
        refine bodyPost_ret (v := .agg #[.int .i64 3, .slice ac mc cc]) (by simp [results, Tryz.results37, go_sem, p0, p1]) rfl (ans_of (unhide E) ((unhide F) _ _).1 ((unhide F) _ _).2)
      by_cases hbig : 200 ≤ q
      · have E := hide ((unhide EMY) q rfl (by omega) hbig)
        clear EIN EMY ELW HIH SGD
        go_wp2_with fail
        refine (l3Bad_any _ _).mono ?_
        rintro ec wc ⟨sc, rfl, hrc, hbc⟩
        have hRc := (unhide HR2).below hbc (unhide HR2).lt
        have F := hide (Pth.ret (hrc.mono (unhide HR2).lt) (B2.trans (hbc.mono B2.size)))
        obtain ⟨ac, mc, cc, rfl⟩ := hrc.shape
        clear p0 p1 y0 y1 hrc hbc
        have p0 := hRc.cell 0
        have p1 := hRc.cell 1
        have y0 := hRc.frozen 0
        have y1 := hRc.frozen 1
        simp only [List.getElem?_cons_zero, List.getElem?_cons_succ] at p0 p1
        go_wp2_with fail
        refine bodyPost_ret (v := .agg #[.int .i64 2, .slice ac mc cc]) (by simp [results, Tryz.results37, go_sem, p0, p1]) rfl (ans_of (unhide E) ((unhide F) _ _).1 ((unhide F) _ _).2)
      obtain ⟨k, hqk⟩ : ∃ k : Nat, q = (k : Int) := ⟨q.toNat, by omega⟩
      subst hqk
      have hk200 : k < 200 := by omega
      have EIN2 := hide (fun R hR => (unhide EIN) k rfl hk200 R hR)
      clear EIN EMY ELW hlow hbig
      have hbig' : ¬ (200 : Int) ≤ (k : Int) := by omega
      have hlow' : ¬ (k : Int) < 0 := by omega
      obtain ⟨i0, hi, hz0, hz1, hz2⟩ := info_parts Tryz.info26
      clear p0 p1 y0 y1
      go_wp2_with fail
      go_loopg [9] (k + 1 - ps.length) (fun g s9 wr => ∃ (m : Nat) (ss : List Value), Hid (g = k + 1 - m) ∧ wr.ownsRow (w.heap.size + 1) 26 1 s9 m ss ∧ Hid (ss.length = m) ∧ Hid (∀ j, j < m → Res wr (w.heap.size + 1) (ss.getD j (.slice none 0 0)) ((Pth.pad ps m).getD j [])) ∧ ps.length ≤ m ∧ m ≤ max ps.length (k + 1) ∧ Below w.heap.size w wr ∧ Own wr w.heap.size 49 [.int .i64 0, .slice none 0 0])
      case atStart => exact ⟨ps.length, ss0, rfl, hs2, hs1, (by show ∀ j, _; rw [Pth.pad_le (Nat.le_refl _)]; exact unhide HS3), Nat.le_refl _, by omega, B2, hR2⟩
      case round =>
        clear hs2 HS3 B2 hR2
        obtain ⟨m, ss, hg, hown, hsl, hres, hm1, hm2, hbel, hRr⟩ := hrel
        have hsh : ∃ a c, u9 = Value.slice a m c := by
          rcases hown.2 with ⟨h, h2⟩ | ⟨g, c, _, h, _⟩
          · exact ⟨none, 0, by rw [h, h2]⟩
          · exact ⟨_, _, h⟩
        obtain ⟨la, lc, rfl⟩ := hsh
        have hszr := hRr.lt
        by_cases hlt : m ≤ k
        · have hltI : (m : Int) ≤ (k : Int) := by omega
          go_wp2_with fail
          refine (l3Null_any _).mono ?_
          rintro e3 w3 ⟨sp, rfl, hrp, hb3⟩
          have B3 : Below w.heap.size w w3 := hbel.trans (hb3.mono hbel.size)
          have hown2 := ownsRow_below (B := 0) hown hb3
          have hR3 := hRr.below hb3 hRr.lt
          have hres2 := hide (fun j (hj : j < m) => (hres.out j hj).below hb3)
          have hrp2 : Res w3 (w.heap.size + 1) sp [M.zero] := hrp.mono (by omega)
          clear hown hRr hres hb3 hbel hrp
          obtain ⟨pa, pn, pc, rfl⟩ := hrp2.shape
          have HRP := hide hrp2
          clear hrp2
          have hnb := hide (other_block hown2 hR3 (by decide))
          have hkeep := hide (fun (w' : World) o (hg' : (w3.alloc o).grownBy w' _) (s : Value) (l : List M.Cl) (h : Res w3 (w.heap.size + 1) s l) => grown_res (hown2.alloc o) hg' (h.alloc o) (by decide))
          have hown3 := hide (fun o => hown2.alloc o)
          have hbse := hide (ownsRow_base hown2)
          have hone := hide (one_val w3 (.slice pa pn pc) 26)
          have honep := hide (show ∀ u ∈ ([.slice pa pn pc] : List Value), u.oneCell' = true by intro u hu; simp only [List.mem_cons, List.not_mem_nil, or_false] at hu; subst hu; rfl)
          have hb63 : m + 1 ≤ maxLen := by unfold maxLen; omega
          have hby : (m + 1) * 24 ≤ 140737488355328 := by omega
          have hbase : w.heap.size + 1 ≤ w3.heap.size + 1 := by have := B3.size; omega
          have HR3 := hide hR3
          clear hown2 hR3 hszr
          go_wp2_with (at_builtin; refine wpList_append_own _ rfl (.tmp 46) (.tmp 48) 53 rfl (w.heap.size + 1) 26 i0 (.slice none 0 0) 1 24 Tryz.underlying53 hi hz0 hz1 hz2 rfl (by decide) _ m ss rfl ((unhide hown3) _) ⟨w3.heap.size, 0, none⟩ 1 1 [.slice pa pn pc] rfl rfl (unhide hone) (unhide honep) hb63 hby (by simpa using hbase) ?_)
          intro v' w4 ho4 hg4 _
          have B4 : Below w.heap.size w w4 := (B3.alloc B3.size _).grown hg4 (by simp; have := B3.size; omega) (fun q hq => by have := (unhide hbse) q hq; omega)
          have hR4 : Own w4 w.heap.size 49 [.int .i64 0, .slice none 0 0] := grown_own hg4 ((unhide HR3).alloc _) (unhide hnb)
          have hres4 := hide (show ∀ j, j < m + 1 → Res w4 (w.heap.size + 1) ((ss ++ [Value.slice pa pn pc]).getD j (.slice none 0 0)) ((Pth.pad ps (m + 1)).getD j []) by
            intro j hj
            have hl := hsl.out
            have hpl := Pth.pad_length ps m
            rw [Pth.pad_succ hm1]
            by_cases e : j = m
            · subst e
              rw [List.getD_eq_getElem?_getD, List.getElem?_append_right (by omega), hl, Nat.sub_self, List.getD_eq_getElem?_getD, List.getElem?_append_right (by omega), show j - (Pth.pad ps j).length = 0 by omega]
              exact (unhide hkeep) _ _ hg4 _ _ (unhide HRP)
            · rw [List.getD_eq_getElem?_getD, List.getElem?_append_left (by omega), ← List.getD_eq_getElem?_getD, List.getD_eq_getElem?_getD (l := Pth.pad ps m ++ _), List.getElem?_append_left (by omega), ← List.getD_eq_getElem?_getD]
              exact (unhide hkeep) _ _ hg4 _ _ ((unhide hres2) j (by omega)))
          have HO4 := hide ho4
          clear ho4 hg4 B3 hown3 hone honep hkeep hres2 HRP hnb hbse HR3
          go_wp2_with fail
          go_roundg (k + 1 - (m + 1))
          case rel => exact ⟨m + 1, _, rfl, unhide HO4, (by show _ = _; rw [List.length_append, hsl.out]; rfl), unhide hres4, by omega, by omega, B4, hR4⟩
          case measure => have := hg.out; omega
        · have hltI : ¬ (m : Int) ≤ (k : Int) := by omega
          have hpad : Pth.pad ps m = Pth.pad ps (k + 1) := by
            by_cases e : ps.length ≤ k
            · rw [show m = k + 1 by omega]
            · rw [Pth.pad_le (by omega), Pth.pad_le (by omega)]
          have hml : (Pth.pad ps (k + 1)).length = m := by rw [← hpad, Pth.pad_length]; omega
          have hss : SS wr (w.heap.size + 1) (.slice la m lc) (Pth.pad ps (k + 1)) := ⟨ss, by rw [hsl.out, hml], by rw [hml]; exact hown, fun i hi => by rw [← hpad]; exact hres.out i (by omega)⟩
          have hval := Pth.pad_val (unhide HEV) (k + 1)
          have hsg := hide (fun u hu => Pth.set_val hval k (x := u) hu)
          have hne := hide (fun i (hi : i < (Pth.pad ps (k + 1)).length) => Pth.val_ne (hval i hi))
          have hvk := hval k (by omega)
          have HML := hide hml
          have SIG := hide ((unhide SGD) _ hvk)
          clear hown hsl hres hpad hval SGD
          generalize Pth.pad ps (k + 1) = L at *
          have hmk : k < m := by omega
          have hm400 : m ≤ 400 := by omega
          obtain ⟨g, lc2, hsh, hlc, hLV⟩ : ∃ g lc2, Value.slice la m lc = .slice (some ⟨g, 0, none⟩) m lc2 ∧ m ≤ lc2 ∧ LV wr (some ⟨g, 0, none⟩) L := by
            obtain ⟨a, c, e1, e2, e3⟩ := hss.lv (unhide hne)
            obtain ⟨g, _, _, _, e4, _⟩ := e3 k (by rw [unhide HML]; exact hmk)
            subst e4
            rw [unhide HML] at e1 e2
            exact ⟨g, c, e1, e2, e3⟩
          simp only [Value.slice.injEq, true_and] at hsh
          obtain ⟨rfl, rfl⟩ := hsh
          obtain ⟨g', bk, ok, ck, hg', hgl, fk, hck, hbk, hrk⟩ := hLV k (by rw [unhide HML]; exact hmk)
          simp only [Option.some.injEq, Addr.mk.injEq, and_true] at hg'
          subst hg'
          have HC := hide ((unhide HIH) (L.getD k []) bk ok ck wr hbel hvk hrk hbk hck)
          have EI := hide (fun R h => (unhide EIN2) R h)
          generalize hR3 : Pth.setS (L.getD k []) cs x = R3 at *
          generalize L.getD k [] = u at *
          obtain ⟨rc3, rl3⟩ := R3
          have E := hide ((unhide EI) _ rfl)
          simp only at E
          have HSS := hide hss
          have kI : (0 : Int) ≤ (k : Int) := by omega
          have kI2 : (k : Int) < (m : Int) := by omega
          clear hLV hrk HIH EIN2 EI hss hvk hR3
          go_wp2_with fail
          refine (unhide HC).mono ?_
          rintro e3 w3 ⟨s3, rfl, hr3, hb3⟩
          obtain ⟨a3, n3, c3, rfl⟩ := hr3.shape
          obtain ⟨W3, hW3⟩ : ∃ W3, W3 = w3.alloc (.cells #[.int .i64 rc3, .slice a3 n3 c3] 49) := ⟨_, rfl⟩
          have O3 : Own W3 w3.heap.size 49 [.int .i64 rc3, .slice a3 n3 c3] := by rw [hW3]; exact ⟨_, heap_alloc_new _ _, rfl⟩
          have R3 : Own W3 w.heap.size 49 [.int .i64 0, .slice none 0 0] := by rw [hW3]; exact (hRr.below hb3 hRr.lt).alloc _
          have V3 : Res W3 (w.heap.size + 1) (.slice a3 n3 c3) rl3 := by rw [hW3]; exact (hr3.alloc _).mono (by omega)
          have C3 : Below w.heap.size w W3 := by rw [hW3]; exact (hbel.trans (hb3.mono hbel.size)).alloc (by have := hbel.size; have := hb3.size; omega) _
          have SS3 := hide (show SS W3 (w.heap.size + 1) (.slice (some ⟨g, 0, none⟩) m lc) L by rw [hW3]; exact ((unhide HSS).below hb3).below ((Below.refl _ _).alloc (Nat.le_refl _) _))
          have gne : g ≠ w3.heap.size := by have := hb3.size; omega
          have gne2 : g ≠ w.heap.size := by
            intro e
            obtain ⟨ss2, _, ⟨_, ⟨z1, _⟩ | ⟨g2, c2, cur, z1, z2, z3, _⟩⟩, _⟩ := unhide HSS
            · cases z1
            · simp only [Value.slice.injEq, Option.some.injEq, Addr.mk.injEq, and_true, true_and] at z1; omega
          have glt : g < W3.heap.size := by rw [hW3]; simp; have := hb3.size; omega
          clear fk hRr hr3 hb3 HC hbel HSS
          generalize hg3 : w3.heap.size = g3 at *
          have p0 := R3.cell 0
          have p1 := R3.cell 1
          have y0 := R3.frozen 0
          have y1 := R3.frozen 1
          simp only [List.getElem?_cons_zero, List.getElem?_cons_succ] at p0 p1
          have q0 := O3.cell 0
          have q1 := O3.cell 1
          simp only [List.getElem?_cons_zero, List.getElem?_cons_succ] at q0 q1
          go_upto_region 14 with fail
          rw [← hW3]
          clear hW3 hg3
          by_cases hz3 : rc3 = 0
          · subst hz3
            simp only [if_pos] at E
            have hr0 := (unhide SIG).ok rfl
            obtain ⟨ss4, j1, j2, j3⟩ := unhide SS3
            have fg : ∃ z, W3.cell? ⟨g, k, none⟩ = some z := by
              obtain ⟨gg, cc, sx, e1, e2, e3, e4⟩ := SS.at (i := k) (unhide SS3) (by rw [unhide HML]; exact hmk)
              simp only [Value.slice.injEq, Option.some.injEq, Addr.mk.injEq, and_true] at e1
              rw [← e1.1] at e3
              exact ⟨_, e3⟩
            obtain ⟨zz, fg⟩ := fg
            have fz : W3.frozen? ⟨g, k, none⟩ = false := by
              obtain ⟨_, ⟨z1, _⟩ | ⟨g2, c2, cur, z1, z2, z3, _⟩⟩ := j2
              · cases z1
              · simp only [Value.slice.injEq, Option.some.injEq, Addr.mk.injEq, and_true] at z1
                rw [← z1.1] at z3
                exact Own.frozen ⟨_, z3, rfl⟩ k
            clear j1 j2 j3 ss4
            obtain ⟨W4, hW4⟩ : ∃ W4, W4 = W3.setCell ⟨g, k, none⟩ (.slice a3 n3 c3) := ⟨_, rfl⟩
            have SS4 : SS W4 (w.heap.size + 1) (.slice (some ⟨g, 0, none⟩) L.length lc) (L.set k rl3) := by
              rw [hW4]
              exact SS.put (by rw [unhide HML]; exact unhide SS3) (by rw [unhide HML]; exact hmk) (unhide hne) V3 (Pth.val_ne hr0)
            have R4 : Own W4 w.heap.size 49 [.int .i64 0, .slice none 0 0] := by rw [hW4]; exact R3.setOther _ _ (Ne.symm gne2)
            have C4 : Below w.heap.size w W4 := by
              rw [hW4]
              exact C3.setCell (by show w.heap.size ≤ g; obtain ⟨gg, cc, sx, e1, e2, e3, e4⟩ := SS.at (i := k) (unhide SS3) (by rw [unhide HML]; exact hmk); obtain ⟨ss2, _, ⟨_, ⟨z1, _⟩ | ⟨g2, c2, cur, z1, z2, z3, _⟩⟩, _⟩ := unhide SS3; (· cases z1); (· simp only [Value.slice.injEq, Option.some.injEq, Addr.mk.injEq, and_true, true_and] at z1; omega)) _
            have hv4 := (unhide hsg) rl3 hr0
            have hLl : (L.set k rl3).length = m := by rw [List.length_set, unhide HML]
            obtain ⟨la4, lc4, hsh4, hlc4, hLV4⟩ := SS4.lv (fun i hi => Pth.val_ne (hv4 i hi))
            rw [hLl] at hsh4 hlc4
            rw [unhide HML] at hsh4
            simp only [Value.slice.injEq, true_and] at hsh4
            obtain ⟨rfl, rfl⟩ := hsh4
            have HLA := hide (l1ArrayV_any (some ⟨g, 0, none⟩) lc (L.set k rl3) W4 hLV4 (by rw [hLl]; exact hlc4) (by rw [hLl]; omega) hv4)
            rw [hLl] at HLA
            have hal := arrK_length (L.set k rl3) (L.set k rl3).length
            have hts := tot_small (L.set k rl3) (L.set k rl3).length (Nat.le_refl _) (fun j hj => (Pth.lens (hv4 j hj)).2)
            have hvl : (arrV (L.set k rl3)).length ≤ 1048576 := by unfold arrV; omega
            have hvn : arrV (L.set k rl3) ≠ [] := by unfold arrV arrK; simp
            have hvo := hide (show ∀ c ∈ arrV (L.set k rl3), c.ok from arrK_ok (L.set k rl3) (by omega) (fun j hj => Pth.oks (hv4 j hj)) _ (Nat.le_refl _))
            generalize L.set k rl3 = L4 at *
            clear SS3 SS4 R3 C3 V3 O3 hv4 hal hts hLV4 hsg hne SIG
            generalize hlv : arrV L4 = A4 at *
            clear hlv
            go_upto_region 17 with fail
            rw [← hW4]
            clear hW4 p0 p1 y0 y1 q0 q1 fg fz
            go_wp2_with fail
            refine (unhide HLA).mono ?_
            rintro e5 w5 ⟨s5, rfl, hr5, hb5⟩
            have HT := hide (specTold_any s5 _ A4 w5 hr5 (by have := hb5.size; omega) hvn hvl (unhide hvo))
            obtain ⟨a5, n5, c5, rfl⟩ := hr5.shape
            have R5 := R4.below hb5 R4.lt
            have C5 := C4.trans (hb5.mono C4.size)
            have hsz4 := R4.lt
            generalize told A4 = R6 at *
            obtain ⟨rc6, rl6⟩ := R6
            clear hr5 hb5 HLA
            go_wp2_with fail
            refine (unhide HT).mono ?_
            rintro e6 w6 ⟨s6, rfl, hr6, hb6⟩
            obtain ⟨a6, n6, c6, rfl⟩ := hr6.shape
            have R6 := R5.below hb6 R5.lt
            have F := hide (Pth.ret (hr6.mono (by omega)) (C5.trans (hb6.mono C5.size)))
            clear hr6 hb6 HT R5 C5 R4 C4
            have p0 := R6.cell 0
            have p1 := R6.cell 1
            have y0 := R6.frozen 0
            have y1 := R6.frozen 1
            simp only [List.getElem?_cons_zero, List.getElem?_cons_succ] at p0 p1
            go_wp2_with fail
            refine bodyPost_ret (v := .agg #[.int .i64 rc6, .slice a6 n6 c6]) (by simp [results, Tryz.results37, go_sem, p0, p1]) rfl (ans_of (unhide E) ((unhide F) _ _).1 ((unhide F) _ _).2)
          · have F := hide (Pth.ret V3 C3)
            rw [if_neg hz3] at E
            have hz' : (rc3 == 0) = false := by simp [hz3]
            clear V3 SIG O3 R3 hz3 SS3 hsg hne
            go_wp2_with fail
            refine bodyPost_ret (v := .agg #[.int .i64 rc3, .slice a3 n3 c3]) (by simp [results, Tryz.results37, go_sem, p0, p1]) rfl (ans_of (unhide E) ((unhide F) _ _).1 ((unhide F) _ _).2)
    · go_enter Tryz.func37, Tryz.ntmps37
      go_upto_region 1 with fail
      rw [← hW0]
      clear hW0
      go_upto_region 4 with fail
      rw [← hW1, Z0.out]
      clear hW1
      have eps := EZ.out rfl
      subst eps
      have B2 : Below w.heap.size w W1 := B1
      have hR2 := R1
      have HR2 := hide hR2
      have hs1 : ([] : List Value).length = ([] : List (List M.Cl)).length := rfl
      have hs2 := N1.out
      have HS3 := hide (show ∀ i, i < ([] : List (List M.Cl)).length → Res W1 (w.heap.size + 1) (([] : List Value).getD i (.slice none 0 0)) (([] : List (List M.Cl)).getD i []) from fun i hi => absurd hi (by simp))
      clear HPO R1 B1 EZ N1 f0
      have p0 := hR2.cell 0
      have p1 := hR2.cell 1
      have y0 := hR2.frozen 0
      have y1 := hR2.frozen 1
      simp only [List.getElem?_cons_zero, List.getElem?_cons_succ] at p0 p1
      go_wp2_with fail
      refine (l13Index_any n ([] : List (List M.Cl)).length W1 n0 n1 hel1).mono ?_
      rintro e1 w1 ⟨rfl, hw1⟩
      rw [hw1]
      clear hw1 w1
      generalize hq : Pth.idx n ([] : List (List M.Cl)).length = q at *
      have hqb : -1000000000000000 ≤ q ∧ q ≤ 1000000000000000 := by rw [← hq]; unfold Pth.idx; split <;> omega
      clear hq
      by_cases hlow : q < 0
      · have E := hide ((unhide ELW) q rfl hlow)
        clear EIN EMY ELW HIH SGD
        go_wp2_with fail
        refine (l3Bad_any _ _).mono ?_
        rintro ec wc ⟨sc, rfl, hrc, hbc⟩
        have hRc := (unhide HR2).below hbc (unhide HR2).lt
        have F := hide (Pth.ret (hrc.mono (unhide HR2).lt) (B2.trans (hbc.mono B2.size)))
        obtain ⟨ac, mc, cc, rfl⟩ := hrc.shape
        clear p0 p1 y0 y1 hrc hbc
        have p0 := hRc.cell 0
        have p1 := hRc.cell 1
        have y0 := hRc.frozen 0
        have y1 := hRc.frozen 1
        simp only [List.getElem?_cons_zero, List.getElem?_cons_succ] at p0 p1
        go_wp2_with fail
        refine bodyPost_ret (v := .agg #[.int .i64 3, .slice ac mc cc]) (by simp [results, Tryz.results37, go_sem, p0, p1]) rfl (ans_of (unhide E) ((unhide F) _ _).1 ((unhide F) _ _).2)
      by_cases hbig : 200 ≤ q
      · have E := hide ((unhide EMY) q rfl (by omega) hbig)
        clear EIN EMY ELW HIH SGD
        go_wp2_with fail
        refine (l3Bad_any _ _).mono ?_
        rintro ec wc ⟨sc, rfl, hrc, hbc⟩
        have hRc := (unhide HR2).below hbc (unhide HR2).lt
        have F := hide (Pth.ret (hrc.mono (unhide HR2).lt) (B2.trans (hbc.mono B2.size)))
        obtain ⟨ac, mc, cc, rfl⟩ := hrc.shape
        clear p0 p1 y0 y1 hrc hbc
        have p0 := hRc.cell 0
        have p1 := hRc.cell 1
        have y0 := hRc.frozen 0
        have y1 := hRc.frozen 1
        simp only [List.getElem?_cons_zero, List.getElem?_cons_succ] at p0 p1
        go_wp2_with fail
        refine bodyPost_ret (v := .agg #[.int .i64 2, .slice ac mc cc]) (by simp [results, Tryz.results37, go_sem, p0, p1]) rfl (ans_of (unhide E) ((unhide F) _ _).1 ((unhide F) _ _).2)
      obtain ⟨k, hqk⟩ : ∃ k : Nat, q = (k : Int) := ⟨q.toNat, by omega⟩
      subst hqk
      have hk200 : k < 200 := by omega
      have EIN2 := hide (fun R hR => (unhide EIN) k rfl hk200 R hR)
      clear EIN EMY ELW hlow hbig
      have hbig' : ¬ (200 : Int) ≤ (k : Int) := by omega
      have hlow' : ¬ (k : Int) < 0 := by omega
      obtain ⟨i0, hi, hz0, hz1, hz2⟩ := info_parts Tryz.info26
      clear p0 p1 y0 y1
      go_wp2_with fail
      go_loopg [9] (k + 1 - ([] : List (List M.Cl)).length) (fun g s9 wr => ∃ (m : Nat) (ss : List Value), Hid (g = k + 1 - m) ∧ wr.ownsRow (w.heap.size + 1) 26 1 s9 m ss ∧ Hid (ss.length = m) ∧ Hid (∀ j, j < m → Res wr (w.heap.size + 1) (ss.getD j (.slice none 0 0)) ((Pth.pad [] m).getD j [])) ∧ ([] : List (List M.Cl)).length ≤ m ∧ m ≤ max ([] : List (List M.Cl)).length (k + 1) ∧ Below w.heap.size w wr ∧ Own wr w.heap.size 49 [.int .i64 0, .slice none 0 0])
      case atStart => exact ⟨([] : List (List M.Cl)).length, [], rfl, hs2, hs1, (by show ∀ j, _; rw [Pth.pad_le (Nat.le_refl _)]; exact unhide HS3), Nat.le_refl _, by omega, B2, hR2⟩
      case round =>
        clear hs2 HS3 B2 hR2
        obtain ⟨m, ss, hg, hown, hsl, hres, hm1, hm2, hbel, hRr⟩ := hrel
        have hsh : ∃ a c, u9 = Value.slice a m c := by
          rcases hown.2 with ⟨h, h2⟩ | ⟨g, c, _, h, _⟩
          · exact ⟨none, 0, by rw [h, h2]⟩
          · exact ⟨_, _, h⟩
        obtain ⟨la, lc, rfl⟩ := hsh
        have hszr := hRr.lt
        by_cases hlt : m ≤ k
        · have hltI : (m : Int) ≤ (k : Int) := by omega
          go_wp2_with fail
          refine (l3Null_any _).mono ?_
          rintro e3 w3 ⟨sp, rfl, hrp, hb3⟩
          have B3 : Below w.heap.size w w3 := hbel.trans (hb3.mono hbel.size)
          have hown2 := ownsRow_below (B := 0) hown hb3
          have hR3 := hRr.below hb3 hRr.lt
          have hres2 := hide (fun j (hj : j < m) => (hres.out j hj).below hb3)
          have hrp2 : Res w3 (w.heap.size + 1) sp [M.zero] := hrp.mono (by omega)
          clear hown hRr hres hb3 hbel hrp
          obtain ⟨pa, pn, pc, rfl⟩ := hrp2.shape
          have HRP := hide hrp2
          clear hrp2
          have hnb := hide (other_block hown2 hR3 (by decide))
          have hkeep := hide (fun (w' : World) o (hg' : (w3.alloc o).grownBy w' _) (s : Value) (l : List M.Cl) (h : Res w3 (w.heap.size + 1) s l) => grown_res (hown2.alloc o) hg' (h.alloc o) (by decide))
          have hown3 := hide (fun o => hown2.alloc o)
          have hbse := hide (ownsRow_base hown2)
          have hone := hide (one_val w3 (.slice pa pn pc) 26)
          have honep := hide (show ∀ u ∈ ([.slice pa pn pc] : List Value), u.oneCell' = true by intro u hu; simp only [List.mem_cons, List.not_mem_nil, or_false] at hu; subst hu; rfl)
          have hb63 : m + 1 ≤ maxLen := by unfold maxLen; omega
          have hby : (m + 1) * 24 ≤ 140737488355328 := by omega
          have hbase : w.heap.size + 1 ≤ w3.heap.size + 1 := by have := B3.size; omega
          have HR3 := hide hR3
          clear hown2 hR3 hszr
          go_wp2_with (at_builtin; refine wpList_append_own _ rfl (.tmp 46) (.tmp 48) 53 rfl (w.heap.size + 1) 26 i0 (.slice none 0 0) 1 24 Tryz.underlying53 hi hz0 hz1 hz2 rfl (by decide) _ m ss rfl ((unhide hown3) _) ⟨w3.heap.size, 0, none⟩ 1 1 [.slice pa pn pc] rfl rfl (unhide hone) (unhide honep) hb63 hby (by simpa using hbase) ?_)
          intro v' w4 ho4 hg4 _
          have B4 : Below w.heap.size w w4 := (B3.alloc B3.size _).grown hg4 (by simp; have := B3.size; omega) (fun q hq => by have := (unhide hbse) q hq; omega)
          have hR4 : Own w4 w.heap.size 49 [.int .i64 0, .slice none 0 0] := grown_own hg4 ((unhide HR3).alloc _) (unhide hnb)
          have hres4 := hide (show ∀ j, j < m + 1 → Res w4 (w.heap.size + 1) ((ss ++ [Value.slice pa pn pc]).getD j (.slice none 0 0)) ((Pth.pad [] (m + 1)).getD j []) by
            intro j hj
            have hl := hsl.out
            have hpl := Pth.pad_length ([] : List (List M.Cl)) m
            rw [Pth.pad_succ hm1]
            by_cases e : j = m
            · subst e
              rw [List.getD_eq_getElem?_getD, List.getElem?_append_right (by omega), hl, Nat.sub_self, List.getD_eq_getElem?_getD, List.getElem?_append_right (by omega), show j - (Pth.pad [] j).length = 0 by omega]
              exact (unhide hkeep) _ _ hg4 _ _ (unhide HRP)
            · rw [List.getD_eq_getElem?_getD, List.getElem?_append_left (by omega), ← List.getD_eq_getElem?_getD, List.getD_eq_getElem?_getD (l := Pth.pad [] m ++ _), List.getElem?_append_left (by omega), ← List.getD_eq_getElem?_getD]
              exact (unhide hkeep) _ _ hg4 _ _ ((unhide hres2) j (by omega)))
          have HO4 := hide ho4
          clear ho4 hg4 B3 hown3 hone honep hkeep hres2 HRP hnb hbse HR3
          go_wp2_with fail
          go_roundg (k + 1 - (m + 1))
          case rel => exact ⟨m + 1, _, rfl, unhide HO4, (by show _ = _; rw [List.length_append, hsl.out]; rfl), unhide hres4, by omega, by omega, B4, hR4⟩
          case measure => have := hg.out; omega
        · have hltI : ¬ (m : Int) ≤ (k : Int) := by omega
          have hpad : Pth.pad [] m = Pth.pad [] (k + 1) := by
            by_cases e : ([] : List (List M.Cl)).length ≤ k
            · rw [show m = k + 1 by omega]
            · rw [Pth.pad_le (by omega), Pth.pad_le (by omega)]
          have hml : (Pth.pad [] (k + 1)).length = m := by rw [← hpad, Pth.pad_length]; omega
          have hss : SS wr (w.heap.size + 1) (.slice la m lc) (Pth.pad [] (k + 1)) := ⟨ss, by rw [hsl.out, hml], by rw [hml]; exact hown, fun i hi => by rw [← hpad]; exact hres.out i (by omega)⟩
          have hval := Pth.pad_val (unhide HEV) (k + 1)
          have hsg := hide (fun u hu => Pth.set_val hval k (x := u) hu)
          have hne := hide (fun i (hi : i < (Pth.pad [] (k + 1)).length) => Pth.val_ne (hval i hi))
          have hvk := hval k (by omega)
          have HML := hide hml
          have SIG := hide ((unhide SGD) _ hvk)
          clear hown hsl hres hpad hval SGD
          generalize Pth.pad [] (k + 1) = L at *
          have hmk : k < m := by omega
          have hm400 : m ≤ 400 := by omega
          obtain ⟨g, lc2, hsh, hlc, hLV⟩ : ∃ g lc2, Value.slice la m lc = .slice (some ⟨g, 0, none⟩) m lc2 ∧ m ≤ lc2 ∧ LV wr (some ⟨g, 0, none⟩) L := by
            obtain ⟨a, c, e1, e2, e3⟩ := hss.lv (unhide hne)
            obtain ⟨g, _, _, _, e4, _⟩ := e3 k (by rw [unhide HML]; exact hmk)
            subst e4
            rw [unhide HML] at e1 e2
            exact ⟨g, c, e1, e2, e3⟩
          simp only [Value.slice.injEq, true_and] at hsh
          obtain ⟨rfl, rfl⟩ := hsh
          obtain ⟨g', bk, ok, ck, hg', hgl, fk, hck, hbk, hrk⟩ := hLV k (by rw [unhide HML]; exact hmk)
          simp only [Option.some.injEq, Addr.mk.injEq, and_true] at hg'
          subst hg'
          have HC := hide ((unhide HIH) (L.getD k []) bk ok ck wr hbel hvk hrk hbk hck)
          have EI := hide (fun R h => (unhide EIN2) R h)
          generalize hR3 : Pth.setS (L.getD k []) cs x = R3 at *
          generalize L.getD k [] = u at *
          obtain ⟨rc3, rl3⟩ := R3
          have E := hide ((unhide EI) _ rfl)
          simp only at E
          have HSS := hide hss
          have kI : (0 : Int) ≤ (k : Int) := by omega
          have kI2 : (k : Int) < (m : Int) := by omega
          clear hLV hrk HIH EIN2 EI hss hvk hR3
          go_wp2_with fail
          refine (unhide HC).mono ?_
          rintro e3 w3 ⟨s3, rfl, hr3, hb3⟩
          obtain ⟨a3, n3, c3, rfl⟩ := hr3.shape
          obtain ⟨W3, hW3⟩ : ∃ W3, W3 = w3.alloc (.cells #[.int .i64 rc3, .slice a3 n3 c3] 49) := ⟨_, rfl⟩
          have O3 : Own W3 w3.heap.size 49 [.int .i64 rc3, .slice a3 n3 c3] := by rw [hW3]; exact ⟨_, heap_alloc_new _ _, rfl⟩
          have R3 : Own W3 w.heap.size 49 [.int .i64 0, .slice none 0 0] := by rw [hW3]; exact (hRr.below hb3 hRr.lt).alloc _
          have V3 : Res W3 (w.heap.size + 1) (.slice a3 n3 c3) rl3 := by rw [hW3]; exact (hr3.alloc _).mono (by omega)
          have C3 : Below w.heap.size w W3 := by rw [hW3]; exact (hbel.trans (hb3.mono hbel.size)).alloc (by have := hbel.size; have := hb3.size; omega) _
          have SS3 := hide (show SS W3 (w.heap.size + 1) (.slice (some ⟨g, 0, none⟩) m lc) L by rw [hW3]; exact ((unhide HSS).below hb3).below ((Below.refl _ _).alloc (Nat.le_refl _) _))
          have gne : g ≠ w3.heap.size := by have := hb3.size; omega
          have gne2 : g ≠ w.heap.size := by
            intro e
            obtain ⟨ss2, _, ⟨_, ⟨z1, _⟩ | ⟨g2, c2, cur, z1, z2, z3, _⟩⟩, _⟩ := unhide HSS
            · cases z1
            · simp only [Value.slice.injEq, Option.some.injEq, Addr.mk.injEq, and_true, true_and] at z1; omega
          have glt : g < W3.heap.size := by rw [hW3]; simp; have := hb3.size; omega
          clear fk hRr hr3 hb3 HC hbel HSS
          generalize hg3 : w3.heap.size = g3 at *
          have p0 := R3.cell 0
          have p1 := R3.cell 1
          have y0 := R3.frozen 0
          have y1 := R3.frozen 1
          simp only [List.getElem?_cons_zero, List.getElem?_cons_succ] at p0 p1
          have q0 := O3.cell 0
          have q1 := O3.cell 1
          simp only [List.getElem?_cons_zero, List.getElem?_cons_succ] at q0 q1
          go_upto_region 14 with fail
          rw [← hW3]
          clear hW3 hg3
          by_cases hz3 : rc3 = 0
          · subst hz3
            simp only [if_pos] at E
            have hr0 := (unhide SIG).ok rfl
            obtain ⟨ss4, j1, j2, j3⟩ := unhide SS3
            have fg : ∃ z, W3.cell? ⟨g, k, none⟩ = some z := by
              obtain ⟨gg, cc, sx, e1, e2, e3, e4⟩ := SS.at (i := k) (unhide SS3) (by rw [unhide HML]; exact hmk)
              simp only [Value.slice.injEq, Option.some.injEq, Addr.mk.injEq, and_true] at e1
              rw [← e1.1] at e3
              exact ⟨_, e3⟩
            obtain ⟨zz, fg⟩ := fg
            have fz : W3.frozen? ⟨g, k, none⟩ = false := by
              obtain ⟨_, ⟨z1, _⟩ | ⟨g2, c2, cur, z1, z2, z3, _⟩⟩ := j2
              · cases z1
              · simp only [Value.slice.injEq, Option.some.injEq, Addr.mk.injEq, and_true] at z1
                rw [← z1.1] at z3
                exact Own.frozen ⟨_, z3, rfl⟩ k
            clear j1 j2 j3 ss4
            obtain ⟨W4, hW4⟩ : ∃ W4, W4 = W3.setCell ⟨g, k, none⟩ (.slice a3 n3 c3) := ⟨_, rfl⟩
            have SS4 : SS W4 (w.heap.size + 1) (.slice (some ⟨g, 0, none⟩) L.length lc) (L.set k rl3) := by
              rw [hW4]
              exact SS.put (by rw [unhide HML]; exact unhide SS3) (by rw [unhide HML]; exact hmk) (unhide hne) V3 (Pth.val_ne hr0)
            have R4 : Own W4 w.heap.size 49 [.int .i64 0, .slice none 0 0] := by rw [hW4]; exact R3.setOther _ _ (Ne.symm gne2)
            have C4 : Below w.heap.size w W4 := by
              rw [hW4]
              exact C3.setCell (by show w.heap.size ≤ g; obtain ⟨gg, cc, sx, e1, e2, e3, e4⟩ := SS.at (i := k) (unhide SS3) (by rw [unhide HML]; exact hmk); obtain ⟨ss2, _, ⟨_, ⟨z1, _⟩ | ⟨g2, c2, cur, z1, z2, z3, _⟩⟩, _⟩ := unhide SS3; (· cases z1); (· simp only [Value.slice.injEq, Option.some.injEq, Addr.mk.injEq, and_true, true_and] at z1; omega)) _
            have hv4 := (unhide hsg) rl3 hr0
            have hLl : (L.set k rl3).length = m := by rw [List.length_set, unhide HML]
            obtain ⟨la4, lc4, hsh4, hlc4, hLV4⟩ := SS4.lv (fun i hi => Pth.val_ne (hv4 i hi))
            rw [hLl] at hsh4 hlc4
            rw [unhide HML] at hsh4
            simp only [Value.slice.injEq, true_and] at hsh4
            obtain ⟨rfl, rfl⟩ := hsh4
            have HLA := hide (l1ArrayV_any (some ⟨g, 0, none⟩) lc (L.set k rl3) W4 hLV4 (by rw [hLl]; exact hlc4) (by rw [hLl]; omega) hv4)
            rw [hLl] at HLA
            have hal := arrK_length (L.set k rl3) (L.set k rl3).length
            have hts := tot_small (L.set k rl3) (L.set k rl3).length (Nat.le_refl _) (fun j hj => (Pth.lens (hv4 j hj)).2)
            have hvl : (arrV (L.set k rl3)).length ≤ 1048576 := by unfold arrV; omega
            have hvn : arrV (L.set k rl3) ≠ [] := by unfold arrV arrK; simp
            have hvo := hide (show ∀ c ∈ arrV (L.set k rl3), c.ok from arrK_ok (L.set k rl3) (by omega) (fun j hj => Pth.oks (hv4 j hj)) _ (Nat.le_refl _))
            generalize L.set k rl3 = L4 at *
            clear SS3 SS4 R3 C3 V3 O3 hv4 hal hts hLV4 hsg hne SIG
            generalize hlv : arrV L4 = A4 at *
            clear hlv
            go_upto_region 17 with fail
            rw [← hW4]
            clear hW4 p0 p1 y0 y1 q0 q1 fg fz
            go_wp2_with fail
            refine (unhide HLA).mono ?_
            rintro e5 w5 ⟨s5, rfl, hr5, hb5⟩
            have HT := hide (specTold_any s5 _ A4 w5 hr5 (by have := hb5.size; omega) hvn hvl (unhide hvo))
            obtain ⟨a5, n5, c5, rfl⟩ := hr5.shape
            have R5 := R4.below hb5 R4.lt
            have C5 := C4.trans (hb5.mono C4.size)
            have hsz4 := R4.lt
            generalize told A4 = R6 at *
            obtain ⟨rc6, rl6⟩ := R6
            clear hr5 hb5 HLA
            go_wp2_with fail
            refine (unhide HT).mono ?_
            rintro e6 w6 ⟨s6, rfl, hr6, hb6⟩
            obtain ⟨a6, n6, c6, rfl⟩ := hr6.shape
            have R6 := R5.below hb6 R5.lt
            have F := hide (Pth.ret (hr6.mono (by omega)) (C5.trans (hb6.mono C5.size)))
            clear hr6 hb6 HT R5 C5 R4 C4
            have p0 := R6.cell 0
            have p1 := R6.cell 1
            have y0 := R6.frozen 0
            have y1 := R6.frozen 1
            simp only [List.getElem?_cons_zero, List.getElem?_cons_succ] at p0 p1
            go_wp2_with fail
            refine bodyPost_ret (v := .agg #[.int .i64 rc6, .slice a6 n6 c6]) (by simp [results, Tryz.results37, go_sem, p0, p1]) rfl (ans_of (unhide E) ((unhide F) _ _).1 ((unhide F) _ _).2)
          · have F := hide (Pth.ret V3 C3)
            rw [if_neg hz3] at E
            have hz' : (rc3 == 0) = false := by simp [hz3]
            clear V3 SIG O3 R3 hz3 SS3 hsg hne
            go_wp2_with fail
            refine bodyPost_ret (v := .agg #[.int .i64 rc3, .slice a3 n3 c3]) (by simp [results, Tryz.results37, go_sem, p0, p1]) rfl (ans_of (unhide E) ((unhide F) _ _).1 ((unhide F) _ _).2)
  · have h5 : (v.getD 0 M.zero).kind ≠ 5 := fun h => hk (Or.inl h)
    have h0 : (v.getD 0 M.zero).kind ≠ 0 := fun h => hk (Or.inr h)
    have E := hide (Pth.el_kind (n := n) (cs := cs) (x := x) h5 h0)
    generalize (v.getD 0 M.zero).kind = kd at *
    have e5 : (kd == 5) = false := by simp [h5]
    have e0 : (kd == 0) = false := by simp [h0]
    have d5 : (kd != 5) = true := by simp [h5]
    have d0 : (kd != 0) = true := by simp [h0]
    have HR2 := hide R0
    have B2 := B0
    clear HIH SGD hk hv hrow hrowx ih hpl g0 B1 R1 hW1 N1 R0
    go_enter Tryz.func37, Tryz.ntmps37
    go_upto_region 1 with fail
    rw [← hW0]
    clear hW0
    go_wp2_with fail
    refine (l3Bad_any _ _).mono ?_
    rintro ec wc ⟨sc, rfl, hrc, hbc⟩
    have hRc := (unhide HR2).below hbc (unhide HR2).lt
    have F := hide (Pth.ret (hrc.mono (unhide HR2).lt) (B2.trans (hbc.mono B2.size)))
    obtain ⟨ac, mc, cc, rfl⟩ := hrc.shape
    clear hrc hbc
    have p0 := hRc.cell 0
    have p1 := hRc.cell 1
    have y0 := hRc.frozen 0
    have y1 := hRc.frozen 1
    simp only [List.getElem?_cons_zero, List.getElem?_cons_succ] at p0 p1
    go_wp2_with fail
    refine bodyPost_ret (v := .agg #[.int .i64 6, .slice ac mc cc]) (by simp [results, Tryz.results37, go_sem, p0, p1]) rfl (ans_of (unhide E) ((unhide F) _ _).1 ((unhide F) _ _).2)
end Go.Proofs.YtoaibccmlmaknaaGreat

namespace Go.Proofs.YtoaibccmlmaknaaGreat
open Go.RowKit
set_option linter.unusedVariables false
set_option linter.unusedSimpArgs false

set_option maxRecDepth 100000 in
set_option maxHeartbeats 1000000 in
theorem setSteps_nil (x : List M.Cl) (hx : M.valueFault x = 0) : Pth.SetI [] x := by
  intro v b off cap b' o cap' bx ox cx w hv hrow hb hcap hrow' hb' hcap' hc' hrowx hbx hcx
  have HC := hide (fun y => clone_any x bx ox cx (w.alloc y) (hrowx.below ((Below.refl _ _).alloc (Nat.le_refl _) y) hbx) (by simp; omega) (by have := (Pth.lens hx).2; omega))
  have E := hide (show Pth.setS v [] x = (0, x) from rfl)
  clear hv hrow hrow' hrowx hx
  rw [List.length_nil]
  go_enter Tryz.func69, Tryz.ntmps69
  go_wp2_with fail
  refine ((unhide HC) _).mono ?_
  rintro e1 w1 ⟨s1, rfl, hr1, hb1⟩
  simp only [World.size_alloc] at hr1 hb1
  have R1 : Own w1 w.heap.size 49 [.int .i64 0, .slice none 0 0] := Own.below ⟨_, heap_alloc_new _ _, rfl⟩ hb1 (by omega)
  have F := hide (Pth.ret hr1 (((Below.refl _ _).alloc (Nat.le_refl _) _).trans (hb1.mono (by omega))))
  obtain ⟨a1, n1, c1, rfl⟩ := hr1.shape
  clear hr1 hb1 HC
  have p0 := R1.cell 0
  have p1 := R1.cell 1
  have y0 := R1.frozen 0
  have y1 := R1.frozen 1
  simp only [List.getElem?_cons_zero, List.getElem?_cons_succ] at p0 p1
  go_wp2_with fail
  refine bodyPost_ret (v := .agg #[.int .i64 0, .slice a1 n1 c1]) (by simp [results, Tryz.results69, go_sem, p0, p1]) rfl (ans_of (unhide E) ((unhide F) _ _).1 ((unhide F) _ _).2)

/-- A store: what is held in slots stays. -/
theorem Z.same {P : Program} {ops : Array Oper} {Q : Exit → Act → World → Prop} {md : Region.Mode} {S : World → Prop} {z i : Nat} {oi : Oper} {fuel : Nat} {listed : Array Bool} {a : Act} {w w' : World} {rs : List Nat} (hi : ops[i]? = some oi)
    (hw : Region.wanted oi (yielded ops a.tmps) = true) (hrun : ∀ K : Act → World → Prop, Shut (K a w') → Oper.wp P oi a w K Q) (hS : i ≠ z → S w')
    (h : Z.any P md ops Q S z fuel (listed.setIfInBounds i true) a w') (hs : Z.All P md ops Q S z fuel listed a w rs) : Z.All P md ops Q S z fuel listed a w (i :: rs) := Z.run_cons hi hw hrun hS h hs
/-- What is left of steps behind the first lies where the slice of it begins. -/
theorem Pth.sliced_tail {w : World} {b' o cap' : Nat} {c : M.Cl} {cs : List M.Cl} (hrow' : Row w b' o (c :: cs)) (hcap' : cs.length + 1 ≤ cap') : ∃ o', Row w b' o' cs ∧ (1 < cap' → o' = o + 5) ∧ (cap' = 1 → o' = o) := by
  have h1 := hrow'.tail
  simp only [List.drop_succ_cons, List.drop_zero] at h1
  by_cases e : cap' = 1
  · have : cs = [] := List.length_eq_zero_iff.1 (by omega)
    subst this
    exact ⟨o, Row.none _ _ _, fun h => by omega, fun _ => rfl⟩
  · exact ⟨o + 5, h1, fun _ => rfl, fun h => absurd h e⟩

set_option maxRecDepth 100000 in
set_option maxHeartbeats 1000000 in
theorem setSteps_cons (c : M.Cl) (cs x : List M.Cl) (hst : Pth.Stp c) (ih : Hid (Pth.SetI cs x)) (hx : M.valueFault x = 0) : Pth.SetI (c :: cs) x := by
  intro v b off cap b' o cap' bx ox cx w hv hrow hb hcap hrow' hb' hcap' hc' hrowx hbx hcx
  have h0 := hrow' 0 (by simp)
  simp only [Nat.zero_mul, Nat.add_zero, List.getD_cons_zero] at h0
  rw [List.length_cons] at hcap' ⊢
  obtain ⟨o', hrt, ho1, ho2⟩ := Pth.sliced_tail hrow' hcap'
  have KEEP := hide (fun W (h : Below w.heap.size w W) => show W.cell? ⟨b', o, none⟩ = some (.int .i64 c.kind) ∧ W.cell? ⟨b', o + 1, none⟩ = some (.int .i64 c.num) ∧ W.cell? ⟨b', o + 2, none⟩ = some (.string c.text) ∧ W.cell? ⟨b', o + 3, none⟩ = some (.string c.key) ∧ W.cell? ⟨b', o + 4, none⟩ = some (.int .i64 c.n) from
    ⟨(h.cell hb').trans h0.1, (h.cell hb').trans h0.2.1, (h.cell hb').trans h0.2.2.1, (h.cell hb').trans h0.2.2.2.1, (h.cell hb').trans h0.2.2.2.2⟩)
  have L1 : (0 : Int) < ((cs.length + 1 : Nat) : Int) := by omega
  have L3 : (((cs.length + 1 : Nat) : Int) == 0) = false := by simp; omega
  have L4 : Hid ((((cs.length : Int) + 1) == 0) = false) := hide (by simp; omega)
  obtain ⟨W0, hW0⟩ : ∃ W0, W0 = w.alloc (.cells #[.int .i64 0, .slice none 0 0] 49) := ⟨_, rfl⟩
  have B0 : Below w.heap.size w W0 := by rw [hW0]; exact (Below.refl _ _).alloc (Nat.le_refl _) _
  have R0 : Own W0 w.heap.size 49 [.int .i64 0, .slice none 0 0] := by rw [hW0]; exact ⟨_, heap_alloc_new _ _, rfl⟩
  have D0 : Below w.heap.size w W0.drew := B0.drew
  obtain ⟨W1, hW1⟩ : ∃ W1, W1 = (W0.alloc (.cells #[.int .i64 c.kind, .int .i64 c.num, .string c.text, .string c.key, .int .i64 c.n] 56)).drew := ⟨_, rfl⟩
  have B1 : Below w.heap.size w W1 := by rw [hW1]; exact (B0.alloc B0.size _).drew
  have R1 : Own W1 w.heap.size 49 [.int .i64 0, .slice none 0 0] := by rw [hW1]; exact (R0.alloc _).drew
  have O1 : Own W1 W0.heap.size 56 [.int .i64 c.kind, .int .i64 c.num, .string c.text, .string c.key, .int .i64 c.n] := by rw [hW1]; exact Own.drew ⟨_, heap_alloc_new _ _, rfl⟩
  have q0 := O1.cell 0
  have q1 := O1.cell 1
  have q2 := O1.cell 2
  simp only [List.getElem?_cons_zero, List.getElem?_cons_succ] at q0 q1 q2
  have HM := hide (setMember_any cs x ih hx v c.text b off cap b' o' (cap' - 1) bx ox cx W1 hv hst.tx (hrow.below B1 hb) (Nat.lt_of_lt_of_le hb B1.size) hcap (hrt.below B1 hb') (Nat.lt_of_lt_of_le hb' B1.size) (by omega) (by omega) (hrowx.below B1 hbx) (Nat.lt_of_lt_of_le hbx B1.size) hcx)
  have HE := hide (setElement_any cs x ih hx v c.num b off cap b' o' (cap' - 1) bx ox cx W1 hv hst.lo hst.hi (hrow.below B1 hb) (Nat.lt_of_lt_of_le hb B1.size) hcap (hrt.below B1 hb') (Nat.lt_of_lt_of_le hb' B1.size) (by omega) (by omega) (hrowx.below B1 hbx) (Nat.lt_of_lt_of_le hbx B1.size) hcx)
  have E4 := hide (fun h => Pth.setS_4 (v := v) (c := c) (cs := cs) (x := x) h)
  have E3 := hide (fun h => Pth.setS_3 (v := v) (c := c) (cs := cs) (x := x) h)
  have hkd := hst.kd
  have HO1 := hide ho1
  have HO2 := hide ho2
  clear hst ih hx hv hrow hrow' hrowx hrt h0 O1 R0 ho1 ho2
  generalize hg0 : W0.heap.size = g0 at *
  have R1' := hide R1
  have r0 := R1.cell 0
  have r1 := R1.cell 1
  have y0 := R1.frozen 0
  have y1 := R1.frozen 1
  simp only [List.getElem?_cons_zero, List.getElem?_cons_succ] at r0 r1
  go_enter Tryz.func69, Tryz.ntmps69
  go_upto_region 3 with fail
  rw [← hW0, L4.out]
  clear hW0
  refine Z.region 7 (fun w' => Below w.heap.size w w') (by kernel_rfl) D0 (fun hHeld => ?_)
  refine Z.take (i := 0) (d := 15) (v := .slice (some ⟨b', o, none⟩) (cs.length + 1) cap') rfl rfl (by kernel_rfl) (by kernel_rfl) (by kernel_rfl) (by kernel_rfl) (fun _ _ _ h => h) (Or.inl ⟨by rfl, ?_⟩) hHeld ?_
  · intro w' hSw; go_simp
  simp only [Act.put, List.setIfInBounds_toArray, List.set_cons_zero, List.set_cons_succ]
  refine Z.take (i := 1) (d := 16) (v := .pointer (some ⟨b', o, none⟩)) rfl rfl (by kernel_rfl) (by kernel_rfl) (by kernel_rfl) (by kernel_rfl) (fun _ _ _ h => h) (Or.inl ⟨by rfl, ?_⟩) hHeld ?_
  · intro w' hSw; go_simp
  simp only [Act.put, List.setIfInBounds_toArray, List.set_cons_zero, List.set_cons_succ]
  refine Z.take (i := 2) (d := 17) (v := .agg #[.int .i64 c.kind, .int .i64 c.num, .string c.text, .string c.key, .int .i64 c.n]) rfl rfl (by kernel_rfl) (by kernel_rfl) (by kernel_rfl) (by kernel_rfl) (fun _ _ _ h => h) (Or.inl ⟨by rfl, ?_⟩) hHeld ?_
  · intro w' hSw; obtain ⟨f0, f1, f2, f3, f4⟩ := (unhide KEEP) w' hSw; go_simp
  simp only [Act.put, List.setIfInBounds_toArray, List.set_cons_zero, List.set_cons_succ]
  refine Z.take (i := 3) (d := 18) (v := .slice (some ⟨b', o, none⟩) (cs.length + 1) cap') rfl rfl (by kernel_rfl) (by kernel_rfl) (by kernel_rfl) (by kernel_rfl) (fun _ _ _ h => h) (Or.inl ⟨by rfl, ?_⟩) hHeld ?_
  · intro w' hSw; go_simp
  simp only [Act.put, List.setIfInBounds_toArray, List.set_cons_zero, List.set_cons_succ]
  refine Z.take (i := 4) (d := 19) (v := .slice (some ⟨b', o', none⟩) cs.length (cap' - 1)) rfl rfl (by kernel_rfl) (by kernel_rfl) (by kernel_rfl) (by kernel_rfl) (fun _ _ _ h => h) (Or.inl ⟨by rfl, ?_⟩) hHeld ?_
  · intro w' hSw; skip
    by_cases e : cap' = 1
    · have e2 := (unhide HO2) e
      have e3 : cs.length = 0 := by omega
      subst e2
      subst e
      rw [e3]
      go_simp
    · have e2 := (unhide HO1) (by omega)
      have e4 : 1 < cap' := by omega
      subst e2
      go_simp
      try omega
  simp only [Act.put, List.setIfInBounds_toArray, List.set_cons_zero, List.set_cons_succ]
  refine Z.ready (rs := [5]) (by kernel_rfl) (by simp) (Z.val_cons (i := 5) (d := 7) (v := .pointer (some ⟨g0, 0, none⟩)) (w' := (W0.drew).alloc (.cells #[.int .i64 0, .int .i64 0, .string ByteArray.empty, .string ByteArray.empty, .int .i64 0] 56)) rfl (by rfl) (fun K hK => ?_) (fun _ => D0.alloc D0.size _) ?_ Z.All.nil)
  · go_simp
    exact hK.out
  simp only [Act.put, List.setIfInBounds_toArray, List.set_cons_zero, List.set_cons_succ]
  refine Z.ready (rs := [6]) (by kernel_rfl) (by simp) (Z.same (i := 6) (w' := W1) rfl (by rfl) (fun K hK => ?_) (fun _ => B1) ?_ Z.All.nil)
  · go_simp
    rw [← hW1]
    exact hK.out
  clear hW1
  refine Z.ready (rs := [7]) (by kernel_rfl) (by simp) (Z.val_cons (i := 7) (d := 8) (v := .slice (some ⟨b', o', none⟩) cs.length (cap' - 1)) (w' := W1) rfl (by rfl) (fun K hK => ?_) (fun h => absurd rfl h) ?_ Z.All.nil)
  · go_simp
    exact hK.out
  simp only [Act.put, List.setIfInBounds_toArray, List.set_cons_zero, List.set_cons_succ]
  refine Z.done (by kernel_rfl) ?_ _
  clear hg0 D0
  have SZ : w.heap.size + 1 ≤ W1.heap.size := R1.lt
  rcases hkd with hk | hk
  · have E := hide ((unhide E4) hk)
    rw [hk] at q0
    clear E3 E4 hk HE R1
    generalize Pth.memOut v c.text cs x = R2 at *
    obtain ⟨rc, rl⟩ := R2
    go_wp2_with fail
    refine (unhide HM).mono ?_
    rintro e2 w2 ⟨s2, rfl, hr2, hb2⟩
    have R2 := (unhide R1').below hb2 (unhide R1').lt
    have F := hide (Pth.ret (hr2.mono SZ) (B1.trans (hb2.mono B1.size)))
    obtain ⟨a2, n2, c2, rfl⟩ := hr2.shape
    clear r0 r1 y0 y1 q0 q1 q2 hr2 hb2 HM
    have p0 := R2.cell 0
    have p1 := R2.cell 1
    have y0 := R2.frozen 0
    have y1 := R2.frozen 1
    simp only [List.getElem?_cons_zero, List.getElem?_cons_succ] at p0 p1
    go_wp2_with fail
    refine bodyPost_ret (v := .agg #[.int .i64 rc, .slice a2 n2 c2]) (by simp [results, Tryz.results69, go_sem, p0, p1]) rfl (ans_of (unhide E) ((unhide F) _ _).1 ((unhide F) _ _).2)
  · have E := hide ((unhide E3) (by omega))
    rw [hk] at q0
    clear E3 E4 hk HM R1
    generalize Pth.elOut v c.num cs x = R2 at *
    obtain ⟨rc, rl⟩ := R2
    go_wp2_with fail
    refine (unhide HE).mono ?_
    rintro e2 w2 ⟨s2, rfl, hr2, hb2⟩
    have R2 := (unhide R1').below hb2 (unhide R1').lt
    have F := hide (Pth.ret (hr2.mono SZ) (B1.trans (hb2.mono B1.size)))
    obtain ⟨a2, n2, c2, rfl⟩ := hr2.shape
    clear r0 r1 y0 y1 q0 q1 q2 hr2 hb2 HE
    have p0 := R2.cell 0
    have p1 := R2.cell 1
    have y0 := R2.frozen 0
    have y1 := R2.frozen 1
    simp only [List.getElem?_cons_zero, List.getElem?_cons_succ] at p0 p1
    go_wp2_with fail
    refine bodyPost_ret (v := .agg #[.int .i64 rc, .slice a2 n2 c2]) (by simp [results, Tryz.results69, go_sem, p0, p1]) rfl (ans_of (unhide E) ((unhide F) _ _).1 ((unhide F) _ _).2)
theorem setSteps_any (cs x : List M.Cl) (hx : M.valueFault x = 0) (hs : ∀ c ∈ cs, Pth.Stp c) : Pth.SetI cs x := by
  induction cs with
  | nil => exact setSteps_nil x hx
  | cons c cs ih => exact setSteps_cons c cs x (hs c (by simp)) (hide (ih (fun d hd => hs d (by simp [hd])))) hx
end Go.Proofs.YtoaibccmlmaknaaGreat

namespace Go.Proofs.YtoaibccmlmaknaaGreat
open Go.RowKit
set_option linter.unusedVariables false
set_option linter.unusedSimpArgs false

set_option maxRecDepth 100000 in
set_option maxHeartbeats 1000000 in
theorem l13Set_nil (x : List M.Cl) (hx : M.valueFault x = 0) : Pth.SetM [] x := by
  intro v b off cap pa cap' bx ox cx w hv hrow hb hcap hpl hcap' hc' hrowx hbx hcx
  have E := hide (show Pth.setS v [] x = (0, x) from rfl)
  have hxl := (Pth.lens hx).2
  obtain ⟨i0, hi, hz0, hz1, hz2⟩ := info_parts Tryz.info56
  obtain ⟨W0, hW0⟩ : ∃ W0, W0 = w.alloc (.cells #[.int .i64 0, .slice none 0 0] 49) := ⟨_, rfl⟩
  have B0 : Below w.heap.size w W0 := by rw [hW0]; exact (Below.refl _ _).alloc (Nat.le_refl _) _
  have R0 : Own W0 w.heap.size 49 [.int .i64 0, .slice none 0 0] := by rw [hW0]; exact ⟨_, heap_alloc_new _ _, rfl⟩
  have SZ : Hid (W0.heap.size = w.heap.size + 1) := hide (by rw [hW0]; simp)
  have hnews := hide (fun o => row_words ((hrowx.below B0 hbx).below ((Below.refl W0.heap.size W0).alloc (Nat.le_refl _) o) (by have := SZ.out; omega)))
  have hone := hide (flat_one x)
  have HFL := hide (flat_length x)
  have hoe := hide (owns_empty5 W0 56)
  have hb63 : 0 + x.length ≤ maxLen := by unfold maxLen; omega
  have hby : (0 + x.length) * 56 ≤ 140737488355328 := by omega
  have HR0 := hide R0
  clear hv hrow hpl hrowx hx R0
  rw [List.length_nil]
  go_enter Tryz.func21, Tryz.ntmps21
  go_upto_region 1 with fail
  rw [← hW0]
  clear hW0
  go_wp2_with (at_builtin; refine wpList_append_own _ rfl (.tmp 13) (.tmp 14) 26 rfl W0.heap.size 56 i0 _ 5 56 Tryz.underlying26 hi hz0 hz1 hz2 rfl (by decide) _ 0 [] rfl (unhide hoe) ⟨bx, ox, none⟩ x.length cx (flat x) rfl (unhide HFL) ((unhide hnews) _) (unhide hone) hb63 hby (by simp) ?_)
  intro sv w1 ho hg _
  have hB : Below W0.heap.size W0 w1 := ((Below.refl _ W0).alloc (Nat.le_refl _) _).grown hg (by simp) (fun q hq => by simp only [Value.ownBlock, Option.some.injEq] at hq; omega)
  have hr1 : Res w1 W0.heap.size sv x := res_of_owns (l := x) (by simpa using ho) (by omega)
  have R1 := (unhide HR0).below hB (unhide HR0).lt
  have F := hide (Pth.ret (hr1.mono (by have := SZ.out; omega)) (B0.trans (hB.mono B0.size)))
  obtain ⟨va, vn, vc, rfl⟩ := hr1.shape
  clear ho hg hB hr1 hnews hone HFL hoe hb63 hby
  have p0 := R1.cell 0
  have p1 := R1.cell 1
  have y0 := R1.frozen 0
  have y1 := R1.frozen 1
  simp only [List.getElem?_cons_zero, List.getElem?_cons_succ] at p0 p1
  go_wp2_with fail
  refine bodyPost_ret (v := .agg #[.int .i64 0, .slice va vn vc]) (by simp [results, Tryz.results21, go_sem, p0, p1]) rfl (ans_of (unhide E) ((unhide F) _ _).1 ((unhide F) _ _).2)

/-- What is left of the parts behind the first lies where the slice of it begins. -/
theorem Pth.pl_tail {w : World} {a : Option Addr} {cap' : Nat} {c : M.Cl} {cs : List M.Cl} (h : Pth.PL w a (c :: cs)) (hcap' : cs.length + 1 ≤ cap') : ∃ g o o' b off k, a = some ⟨g, o, none⟩ ∧ g < w.heap.size ∧ w.cell? ⟨g, o, none⟩ = some (.slice (some ⟨b, off, none⟩) 1 k) ∧ 1 ≤ k ∧ b < w.heap.size ∧ Row w b off [c] ∧ Pth.PL w (some ⟨g, o', none⟩) cs ∧ (1 < cap' → o' = o + 1) ∧ (cap' = 1 → o' = o) := by
  rcases h with h | ⟨g, o, rfl, h1, h2⟩
  · cases h
  obtain ⟨b, off, k, q1, q2, q3, q4⟩ := h2 0 (by simp)
  rw [List.getD_cons_zero] at q4
  by_cases e : cap' = 1
  · have : cs = [] := List.length_eq_zero_iff.1 (by omega)
    subst this
    exact ⟨g, o, o, b, off, k, rfl, h1, q1, q2, q3, q4, .inl rfl, fun h => by omega, fun _ => rfl⟩
  · refine ⟨g, o, o + 1, b, off, k, rfl, h1, q1, q2, q3, q4, .inr ⟨g, o + 1, rfl, h1, fun i hi => ?_⟩, fun _ => rfl, fun h => absurd h e⟩
    have := h2 (i + 1) (by simp; omega)
    rw [List.getD_cons_succ, show o + (i + 1) = o + 1 + i by omega] at this
    exact this

set_option maxRecDepth 100000 in
set_option maxHeartbeats 1000000 in
theorem l13Set_cons (c : M.Cl) (cs x : List M.Cl) (hst : Pth.Stp c) (ih : Hid (Pth.SetM cs x)) (hx : M.valueFault x = 0) : Pth.SetM (c :: cs) x := by
  intro v b off cap pa cap' bx ox cx w hv hrow hb hcap hpl hcap' hc' hrowx hbx hcx
  rw [List.length_cons] at hcap' ⊢
  have hlen := (Pth.lens hv).2
  have hts := textOk_size hst.tx
  obtain ⟨pg, po, po', b1, o1, k1, rfl, hpg, hf, hk1, hb1, hr1, hpt, ho1, ho2⟩ := Pth.pl_tail hpl hcap'
  have h0 := hr1 0 (by simp)
  simp only [Nat.zero_mul, Nat.add_zero, List.getD_cons_zero] at h0
  have L1 : (0 : Int) < ((cs.length + 1 : Nat) : Int) := by omega
  have L3 : (((cs.length + 1 : Nat) : Int) == 0) = false := by simp; omega
  have L4 : Hid ((((cs.length : Int) + 1) == 0) = false) := hide (by simp; omega)
  obtain ⟨W0, hW0⟩ : ∃ W0, W0 = w.alloc (.cells #[.int .i64 0, .slice none 0 0] 49) := ⟨_, rfl⟩
  have B0 : Below w.heap.size w W0 := by rw [hW0]; exact (Below.refl _ _).alloc (Nat.le_refl _) _
  have R0 : Own W0 w.heap.size 49 [.int .i64 0, .slice none 0 0] := by rw [hW0]; exact ⟨_, heap_alloc_new _ _, rfl⟩
  have ff := (B0.cell hpg).trans hf
  obtain ⟨f0, f1, f2, f3, f4⟩ := (show W0.cell? ⟨b1, o1, none⟩ = some (.int .i64 c.kind) ∧ W0.cell? ⟨b1, o1 + 1, none⟩ = some (.int .i64 c.num) ∧ W0.cell? ⟨b1, o1 + 2, none⟩ = some (.string c.text) ∧ W0.cell? ⟨b1, o1 + 3, none⟩ = some (.string c.key) ∧ W0.cell? ⟨b1, o1 + 4, none⟩ = some (.int .i64 c.n) from
    ⟨(B0.cell hb1).trans h0.1, (B0.cell hb1).trans h0.2.1, (B0.cell hb1).trans h0.2.2.1, (B0.cell hb1).trans h0.2.2.2.1, (B0.cell hb1).trans h0.2.2.2.2⟩)
  obtain ⟨W1, hW1⟩ : ∃ W1, W1 = W0.alloc (.cells #[.int .i64 c.kind, .int .i64 c.num, .string c.text, .string c.key, .int .i64 c.n] 56) := ⟨_, rfl⟩
  have B1 : Below w.heap.size w W1 := by rw [hW1]; exact B0.alloc B0.size _
  have R1 : Own W1 w.heap.size 49 [.int .i64 0, .slice none 0 0] := by rw [hW1]; exact R0.alloc _
  have O1 : Own W1 W0.heap.size 56 [.int .i64 c.kind, .int .i64 c.num, .string c.text, .string c.key, .int .i64 c.n] := by rw [hW1]; exact ⟨_, heap_alloc_new _ _, rfl⟩
  have HE := hide (fun W (h : Below w.heap.size w W) => l13SetIndex_any cs x ih hx v c.num b off cap (some ⟨pg, po', none⟩) (cap' - 1) bx ox cx W hv hst.lo hst.hi (hrow.below h hb) (Nat.lt_of_lt_of_le hb h.size) hcap (hpt.below (B := 0) h) (by omega) (by omega) (hrowx.below h hbx) (Nat.lt_of_lt_of_le hbx h.size) hcx)
  have HIH := hide (fun u b2 c2 W (h : Below w.heap.size w W) hu r hb2 hc2 => ih.out u b2 0 c2 (some ⟨pg, po', none⟩) (cap' - 1) bx ox cx W hu r hb2 hc2 (hpt.below (B := 0) h) (by omega) (by omega) (hrowx.below h hbx) (Nat.lt_of_lt_of_le hbx h.size) hcx)
  have HGK := hide (fun W (h : Below w.heap.size w W) => l3Get_any v b off cap c.text W hv (hrow.below h hb) (Nat.lt_of_lt_of_le hb h.size) hcap (Pth.oks hv))
  have HSK := hide (fun W (h : Below w.heap.size w W) u b2 c2 (hu : M.valueFault u = 0) (r : Row W b2 0 u) (hb2 : b2 < W.heap.size) (hc2 : u.length ≤ c2) => specSetKey_any v b off cap c.text u b2 0 c2 W (hrow.below h hb) (Nat.lt_of_lt_of_le hb h.size) (by omega) hcap (Pth.oks hv) r hb2 (by have := (Pth.lens hu).2; omega) hc2 (Pth.oks hu) (by omega))
  have HGD := hide (Pth.get_gd hv c.text)
  have SGD := hide (fun u (hu : M.valueFault u = 0) => Pth.setS_gd hu hx cs)
  have E4 := hide (fun h => Pth.setS_4 (v := v) (c := c) (cs := cs) (x := x) h)
  have E3 := hide (fun h => Pth.setS_3 (v := v) (c := c) (cs := cs) (x := x) h)
  have hkd := hst.kd
  have HO1 := hide ho1
  have HO2 := hide ho2
  clear hst ih hx hv hrow hpl hrowx hpt h0 hr1 hf R0 ho1 ho2
  have q0 := O1.cell 0
  have q1 := O1.cell 1
  have q2 := O1.cell 2
  simp only [List.getElem?_cons_zero, List.getElem?_cons_succ] at q0 q1 q2
  have hO1 := hide O1
  have hR1 := hide R1
  have SZ : w.heap.size + 1 ≤ W1.heap.size := R1.lt
  clear O1
  have p0 := R1.cell 0
  have p1 := R1.cell 1
  have y0 := R1.frozen 0
  have y1 := R1.frozen 1
  simp only [List.getElem?_cons_zero, List.getElem?_cons_succ] at p0 p1
  clear R1
  rcases hkd with hk | hk
  · have E := hide ((unhide E4) hk)
    rw [hk] at q0 hW1 f0 hO1
    clear E3 E4 HE hk
    generalize hg0 : W0.heap.size = g0 at *
    go_enter Tryz.func21, Tryz.ntmps21
    go_upto_region 3 with fail
    rw [← hW0, L4.out]
    clear hW0
    go_upto_region 4 with fail
    rw [← hW1]
    clear hW1 hg0 f0 f1 f2 f3 f4 ff B0
    generalize hR : getOut v c.text = R at *
    have HRR := hide hR
    clear hR
    obtain ⟨rc, rl⟩ := R
    go_wp2_with fail
    refine ((unhide HGK) _ B1).mono ?_
    rintro e2 w2 ⟨s2, rfl, hr2, hb2⟩
    obtain ⟨a2, n2, c2, rfl⟩ := hr2.shape
    obtain ⟨W2, hW2⟩ : ∃ W2, W2 = w2.alloc (.cells #[.int .i64 rc, .slice a2 n2 c2] 49) := ⟨_, rfl⟩
    have O2 : Own W2 w2.heap.size 49 [.int .i64 rc, .slice a2 n2 c2] := by rw [hW2]; exact ⟨_, heap_alloc_new _ _, rfl⟩
    have K2 : Own W2 g0 56 [.int .i64 4, .int .i64 c.num, .string c.text, .string c.key, .int .i64 c.n] := by rw [hW2]; exact ((unhide hO1).below hb2 (unhide hO1).lt).alloc _
    have R2 : Own W2 w.heap.size 49 [.int .i64 0, .slice none 0 0] := by rw [hW2]; exact ((unhide hR1).below hb2 (unhide hR1).lt).alloc _
    have V2 : Res W2 (w.heap.size + 1) (.slice a2 n2 c2) rl := by rw [hW2]; exact (hr2.alloc _).mono SZ
    have C2 : Below w.heap.size w W2 := by rw [hW2]; exact (B1.trans (hb2.mono B1.size)).alloc (by have := B1.size; have := hb2.size; omega) _
    clear p0 p1 y0 y1 q0 q1 q2 hr2 hb2 HGK hO1 hR1 B1
    generalize hg2 : w2.heap.size = g2 at *
    have p0 := R2.cell 0
    have p1 := R2.cell 1
    have y0 := R2.frozen 0
    have y1 := R2.frozen 1
    simp only [List.getElem?_cons_zero, List.getElem?_cons_succ] at p0 p1
    have u0 := O2.cell 0
    have u1 := O2.cell 1
    simp only [List.getElem?_cons_zero, List.getElem?_cons_succ] at u0 u1
    go_upto_region 7 with fail
    rw [← hW2]
    clear hW2 hg2
    by_cases hz : rc = 0
    · subst hz
      have hrl := (unhide HGD).ok rfl
      obtain ⟨b3, c3', hsh, hc3, hl3, hlt3, hrw3⟩ := V2.rowedQ (Pth.val_ne hrl)
      simp only [Value.slice.injEq] at hsh
      obtain ⟨rfl, rfl, rfl⟩ := hsh
      have HC := hide (fun W (hW : Below W2.heap.size W2 W) => (unhide HIH) rl b3 c2 W (C2.trans (hW.mono C2.size)) hrl (hrw3.below hW hlt3) (Nat.lt_of_lt_of_le hlt3 hW.size) hc3)
      have SG := hide ((unhide SGD) rl hrl)
      have EIN := hide (fun R h2 hz => Pth.mem_in (cs := cs) (x := x) (R := R) (unhide HRR) h2 hz)
      have EOK := hide (fun l2 h2 => Pth.mem_ok (cs := cs) (x := x) (l2 := l2) (unhide HRR) h2)
      clear V2 hrw3 HIH SGD HRR HGD
      generalize hR2 : Pth.setS rl cs x = RR at *
      clear hR2
      obtain ⟨rc2, rl2⟩ := RR
      have KEEP := hide (fun W (hW : Below W2.heap.size W2 W) => (hW.cell O2.lt (p := ⟨g2, 1, none⟩)).trans u1)
      have BR := Below.refl W2.heap.size W2
      have hO2 := hide O2
      have hK2 := hide K2
      have hR2 := hide R2
      have SZ2 : w.heap.size + 1 ≤ W2.heap.size := R2.lt
      clear O2 K2 R2
      go_upto_region 9 with fail
      clear u0 u1
      refine Z.region 7 (fun w' => Below W2.heap.size W2 w') (by kernel_rfl) BR.drew (fun hHeld => ?_)
      refine Z.take (i := 0) (d := 40) (v := .pointer (some ⟨g2, 1, none⟩)) rfl rfl (by kernel_rfl) (by kernel_rfl) (by kernel_rfl) (by kernel_rfl) (fun _ _ _ h => h) (Or.inl ⟨by rfl, ?_⟩) hHeld ?_
      · intro w' hSw; go_simp
      simp only [Act.put, List.setIfInBounds_toArray, List.set_cons_zero, List.set_cons_succ]
      refine Z.take (i := 1) (d := 41) (v := .slice (some ⟨b3, 0, none⟩) rl.length c2) rfl rfl (by kernel_rfl) (by kernel_rfl) (by kernel_rfl) (by kernel_rfl) (fun _ _ _ h => h) (Or.inl ⟨by rfl, ?_⟩) hHeld ?_
      · intro w' hSw; have g1 := (unhide KEEP) _ hSw; go_simp
      simp only [Act.put, List.setIfInBounds_toArray, List.set_cons_zero, List.set_cons_succ]
      refine Z.take (i := 2) (d := 42) (v := .slice (some ⟨pg, po, none⟩) (cs.length + 1) cap') rfl rfl (by kernel_rfl) (by kernel_rfl) (by kernel_rfl) (by kernel_rfl) (fun _ _ _ h => h) (Or.inl ⟨by rfl, ?_⟩) hHeld ?_
      · intro w' hSw; go_simp
      simp only [Act.put, List.setIfInBounds_toArray, List.set_cons_zero, List.set_cons_succ]
      refine Z.take (i := 3) (d := 43) (v := .slice (some ⟨pg, po', none⟩) cs.length (cap' - 1)) rfl rfl (by kernel_rfl) (by kernel_rfl) (by kernel_rfl) (by kernel_rfl) (fun _ _ _ h => h) (Or.inl ⟨by rfl, ?_⟩) hHeld ?_
      · intro w' hSw; skip
        by_cases e : cap' = 1
        · have e2 := (unhide HO2) e
          have e3 : cs.length = 0 := by omega
          subst e2
          subst e
          rw [e3]
          go_simp
        · have e2 := (unhide HO1) (by omega)
          have e4 : 1 < cap' := by omega
          subst e2
          go_simp
          try omega
      simp only [Act.put, List.setIfInBounds_toArray, List.set_cons_zero, List.set_cons_succ]
      refine Z.take (i := 4) (d := 44) (v := .slice (some ⟨bx, ox, none⟩) x.length cx) rfl rfl (by kernel_rfl) (by kernel_rfl) (by kernel_rfl) (by kernel_rfl) (fun _ _ _ h => h) (Or.inl ⟨by rfl, ?_⟩) hHeld ?_
      · intro w' hSw; go_simp
      simp only [Act.put, List.setIfInBounds_toArray, List.set_cons_zero, List.set_cons_succ]
      refine Z.ready (rs := [5, 6]) (by kernel_rfl) (by simp) (Z.call_cons (i := 5) rfl (by rfl) (fun K hK => ?_) (Z.val_cons (i := 6) (d := 9) (v := .pointer (some ⟨W2.heap.size, 0, none⟩)) (w' := (W2.drew).alloc (.cells #[.int .i64 0, .slice none 0 0] 49)) rfl (by rfl) (fun K hK => ?_) (fun _ => BR.drew.alloc (Nat.le_refl _) _) ?_ Z.All.nil))
      · go_simp
        refine ((unhide HC) _ BR.drew).mono ?_
        rintro e3 w3 ⟨s3, rfl, hr3, hb3⟩
        have hb3' : Below W2.heap.size W2 w3 := BR.drew.trans (hb3.mono (Nat.le_refl _))
        obtain ⟨a3, n3, c3, rfl⟩ := hr3.shape
        have hr3' : Res w3 W2.heap.size (.slice a3 n3 c3) rl2 := hr3
        go_simp
        refine hK.out _ _ (fun _ => hb3') ?_
        clear hK K
        try simp only [Act.put, List.setIfInBounds_toArray, List.set_cons_zero, List.set_cons_succ]
        obtain ⟨W3, hW3⟩ : ∃ W3, W3 = w3.alloc (.cells #[.int .i64 rc2, .slice a3 n3 c3] 49) := ⟨_, rfl⟩
        have O3 : Own W3 w3.heap.size 49 [.int .i64 rc2, .slice a3 n3 c3] := by rw [hW3]; exact ⟨_, heap_alloc_new _ _, rfl⟩
        have K3 : Own W3 g0 56 [.int .i64 4, .int .i64 c.num, .string c.text, .string c.key, .int .i64 c.n] := by rw [hW3]; exact ((unhide hK2).below hb3' (unhide hK2).lt).alloc _
        have R3 : Own W3 w.heap.size 49 [.int .i64 0, .slice none 0 0] := by rw [hW3]; exact ((unhide hR2).below hb3' (unhide hR2).lt).alloc _
        have V3 : Res W3 (w.heap.size + 1) (.slice a3 n3 c3) rl2 := by rw [hW3]; exact (hr3'.alloc _).mono SZ2
        have C3 : Below w.heap.size w W3 := by rw [hW3]; exact (C2.trans (hb3'.mono C2.size)).alloc (by have := C2.size; have := hb3'.size; omega) _
        refine Z.ready (rs := [6]) (by kernel_rfl) (by simp) (Z.val_cons (i := 6) (d := 9) (v := .pointer (some ⟨w3.heap.size, 0, none⟩)) (w' := w3.alloc (.cells #[.int .i64 0, .slice none 0 0] 49)) rfl (by rfl) (fun K hK => ?_) (fun _ => hb3'.alloc (by have := hb3'.size; omega) _) ?_ Z.All.nil)
        · go_simp
          exact hK.out
        simp only [Act.put, List.setIfInBounds_toArray, List.set_cons_zero, List.set_cons_succ]
        refine Z.ready (rs := [7]) (by kernel_rfl) (by simp) (Z.same (i := 7) (w' := W3) rfl (by rfl) (fun K hK => ?_) (fun h => absurd rfl h) ?_ Z.All.nil)
        · go_simp
          rw [← hW3]
          exact hK.out
        refine Z.done (by kernel_rfl) ?_ _
        clear hW3 hr3 hr3' hb3 hb3' HC KEEP hO2 hK2 hR2 BR hHeld
        generalize w3.heap.size = g3 at *
        clear p0 p1 y0 y1
        have p0 := R3.cell 0
        have p1 := R3.cell 1
        have y0 := R3.frozen 0
        have y1 := R3.frozen 1
        simp only [List.getElem?_cons_zero, List.getElem?_cons_succ] at p0 p1
        have u0 := O3.cell 0
        have u1 := O3.cell 1
        have t2 := K3.cell 2
        simp only [List.getElem?_cons_zero, List.getElem?_cons_succ] at u0 u1 t2
        by_cases hz2 : rc2 = 0
        · subst hz2
          have hr0 := (unhide SG).ok rfl
          obtain ⟨b4, c4', hsh, hc4, hl4, hlt4, hrw4⟩ := V3.rowedQ (Pth.val_ne hr0)
          simp only [Value.slice.injEq] at hsh
          obtain ⟨rfl, rfl, rfl⟩ := hsh
          have HC := hide ((unhide HSK) W3 C3 rl2 b4 c3 hr0 hrw4 hlt4 hc4)
          have EE := hide ((unhide E).trans ((unhide EOK) rl2 rfl))
          have hR3 := hide R3
          have SZ3 : w.heap.size + 1 ≤ W3.heap.size := R3.lt
          clear V3 hrw4 SG EIN EOK HSK O3 R3 K3
          generalize setOut v c.text rl2 = R4 at *
          obtain ⟨rc4, rl4⟩ := R4
          go_wp2_with fail
          refine (unhide HC).mono ?_
          rintro e4 w4 ⟨s4, rfl, hr4, hb4⟩
          have R4 := (unhide hR3).below hb4 (unhide hR3).lt
          have F := hide (Pth.ret (hr4.mono SZ3) (C3.trans (hb4.mono C3.size)))
          obtain ⟨a4, n4, c4, rfl⟩ := hr4.shape
          clear p0 p1 y0 y1 u0 u1 t2 hr4 hb4 HC
          have p0 := R4.cell 0
          have p1 := R4.cell 1
          have y0 := R4.frozen 0
          have y1 := R4.frozen 1
          simp only [List.getElem?_cons_zero, List.getElem?_cons_succ] at p0 p1
          go_wp2_with fail
          refine bodyPost_ret (v := .agg #[.int .i64 rc4, .slice a4 n4 c4]) (by simp [results, Tryz.results21, go_sem, p0, p1]) rfl (ans_of (unhide EE) ((unhide F) _ _).1 ((unhide F) _ _).2)
        · have EE := hide ((unhide E).trans ((unhide EIN) _ rfl hz2))
          have F := hide (Pth.ret V3 C3)
          have hz' : (rc2 == 0) = false := by simp [hz2]
          clear V3 SG EIN EOK HSK O3 R3 K3 hz2
          go_wp2_with fail
          refine bodyPost_ret (v := .agg #[.int .i64 rc2, .slice a3 n3 c3]) (by simp [results, Tryz.results21, go_sem, p0, p1]) rfl (ans_of (unhide EE) ((unhide F) _ _).1 ((unhide F) _ _).2)
      · go_simp
        exact hK.out
      · simp only [Act.put, List.setIfInBounds_toArray, List.set_cons_zero, List.set_cons_succ]
        obtain ⟨Wz, hWz⟩ : ∃ Wz, Wz = (W2.drew).alloc (.cells #[.int .i64 0, .slice none 0 0] 49) := ⟨_, rfl⟩
        have BZ : Below W2.heap.size W2 Wz := by rw [hWz]; exact BR.drew.alloc (Nat.le_refl _) _
        have OZ : Own Wz W2.heap.size 49 [.int .i64 0, .slice none 0 0] := by rw [hWz]; exact ⟨_, heap_alloc_new _ _, rfl⟩
        rw [← hWz]
        clear hWz
        refine Z.ready (rs := [5]) (by kernel_rfl) (by simp) (Z.call_cons (i := 5) rfl (by rfl) (fun K hK => ?_) Z.All.nil)
        go_simp
        refine ((unhide HC) _ BZ).mono ?_
        rintro e3 w3 ⟨s3, rfl, hr3, hb3⟩
        have hb3' : Below W2.heap.size W2 w3 := BZ.trans (hb3.mono BZ.size)
        obtain ⟨a3, n3, c3, rfl⟩ := hr3.shape
        go_simp
        refine hK.out _ _ (fun _ => hb3') ?_
        clear hK K
        try simp only [Act.put, List.setIfInBounds_toArray, List.set_cons_zero, List.set_cons_succ]
        have OZ3 := OZ.below hb3 OZ.lt
        generalize hg3 : W2.heap.size = g3 at *
        have z0 := OZ3.cell 0
        have z1 := OZ3.cell 1
        have s0 := OZ3.frozen 0
        have s1 := OZ3.frozen 1
        simp only [List.getElem?_cons_zero, List.getElem?_cons_succ] at z0 z1
        obtain ⟨W3, hW3⟩ : ∃ W3, W3 = (w3.setCell ⟨g3, 0, none⟩ (.int .i64 rc2)).setCell ⟨g3, 1, none⟩ (.slice a3 n3 c3) := ⟨_, rfl⟩
        have O3 : Own W3 g3 49 [.int .i64 rc2, .slice a3 n3 c3] := by rw [hW3]; simpa using (OZ3.set 0 (.int .i64 rc2)).set 1 (.slice a3 n3 c3)
        have K3 : Own W3 g0 56 [.int .i64 4, .int .i64 c.num, .string c.text, .string c.key, .int .i64 c.n] := by
          have hl := (unhide hK2).lt
          rw [hg3] at hl
          rw [hW3]; exact (((unhide hK2).below hb3' hl).setOther _ _ (by show g0 ≠ g3; omega)).setOther _ _ (by show g0 ≠ g3; omega)
        have R3 : Own W3 w.heap.size 49 [.int .i64 0, .slice none 0 0] := by
          have hl := (unhide hR2).lt
          rw [hg3] at hl
          rw [hW3]; exact (((unhide hR2).below hb3' hl).setOther _ _ (by show w.heap.size ≠ g3; omega)).setOther _ _ (by show w.heap.size ≠ g3; omega)
        have hzl := OZ.lt
        have V3 : Res W3 (w.heap.size + 1) (.slice a3 n3 c3) rl2 := by
          have hne : ∀ b, (Value.slice a3 n3 c3).ownBlock = some b → b ≠ g3 := fun b hq => by have := hr3.base b hq; omega
          rw [hW3]; exact ((hr3.mono (by omega)).setOther _ _ hne).setOther _ _ hne
        have C3 : Below w.heap.size w W3 := by
          have hcs := C2.size
          rw [hg3] at hcs
          rw [hW3]; exact ((C2.trans (hb3'.mono hcs)).setCell (by show w.heap.size ≤ g3; omega) _).setCell (by show w.heap.size ≤ g3; omega) _
        refine Z.ready (rs := [7]) (by kernel_rfl) (by simp) (Z.same (i := 7) (w' := W3) rfl (by rfl) (fun K hK => ?_) (fun h => absurd rfl h) ?_ Z.All.nil)
        · go_simp
          rw [← hW3]
          exact hK.out
        refine Z.done (by kernel_rfl) ?_ _
        clear hW3 hr3 hb3 hb3' HC KEEP hO2 hK2 hR2 BR hHeld OZ OZ3 z0 z1 s0 s1 BZ hzl
        clear hg3
        clear p0 p1 y0 y1
        have p0 := R3.cell 0
        have p1 := R3.cell 1
        have y0 := R3.frozen 0
        have y1 := R3.frozen 1
        simp only [List.getElem?_cons_zero, List.getElem?_cons_succ] at p0 p1
        have u0 := O3.cell 0
        have u1 := O3.cell 1
        have t2 := K3.cell 2
        simp only [List.getElem?_cons_zero, List.getElem?_cons_succ] at u0 u1 t2
        by_cases hz2 : rc2 = 0
        · subst hz2
          have hr0 := (unhide SG).ok rfl
          obtain ⟨b4, c4', hsh, hc4, hl4, hlt4, hrw4⟩ := V3.rowedQ (Pth.val_ne hr0)
          simp only [Value.slice.injEq] at hsh
          obtain ⟨rfl, rfl, rfl⟩ := hsh
          have HC := hide ((unhide HSK) W3 C3 rl2 b4 c3 hr0 hrw4 hlt4 hc4)
          have EE := hide ((unhide E).trans ((unhide EOK) rl2 rfl))
          have hR3 := hide R3
          have SZ3 : w.heap.size + 1 ≤ W3.heap.size := R3.lt
          clear V3 hrw4 SG EIN EOK HSK O3 R3 K3
          generalize setOut v c.text rl2 = R4 at *
          obtain ⟨rc4, rl4⟩ := R4
          go_wp2_with fail
          refine (unhide HC).mono ?_
          rintro e4 w4 ⟨s4, rfl, hr4, hb4⟩
          have R4 := (unhide hR3).below hb4 (unhide hR3).lt
          have F := hide (Pth.ret (hr4.mono SZ3) (C3.trans (hb4.mono C3.size)))
          obtain ⟨a4, n4, c4, rfl⟩ := hr4.shape
          clear p0 p1 y0 y1 u0 u1 t2 hr4 hb4 HC
          have p0 := R4.cell 0
          have p1 := R4.cell 1
          have y0 := R4.frozen 0
          have y1 := R4.frozen 1
          simp only [List.getElem?_cons_zero, List.getElem?_cons_succ] at p0 p1
          go_wp2_with fail
          refine bodyPost_ret (v := .agg #[.int .i64 rc4, .slice a4 n4 c4]) (by simp [results, Tryz.results21, go_sem, p0, p1]) rfl (ans_of (unhide EE) ((unhide F) _ _).1 ((unhide F) _ _).2)
        · have EE := hide ((unhide E).trans ((unhide EIN) _ rfl hz2))
          have F := hide (Pth.ret V3 C3)
          have hz' : (rc2 == 0) = false := by simp [hz2]
          clear V3 SG EIN EOK HSK O3 R3 K3 hz2
          go_wp2_with fail
          refine bodyPost_ret (v := .agg #[.int .i64 rc2, .slice a3 n3 c3]) (by simp [results, Tryz.results21, go_sem, p0, p1]) rfl (ans_of (unhide EE) ((unhide F) _ _).1 ((unhide F) _ _).2)
    · have EE := hide ((unhide E).trans (Pth.mem_no (cs := cs) (x := x) (unhide HRR) hz))
      have F := hide (Pth.ret V2 C2)
      have hz' : (rc == 0) = false := by simp [hz]
      clear V2 HIH SGD HRR HGD O2 R2 K2 hz
      go_wp2_with fail
      refine bodyPost_ret (v := .agg #[.int .i64 rc, .slice a2 n2 c2]) (by simp [results, Tryz.results21, go_sem, p0, p1]) rfl (ans_of (unhide EE) ((unhide F) _ _).1 ((unhide F) _ _).2)
  · have E := hide ((unhide E3) (by omega))
    rw [hk] at q0 hW1 f0
    clear E3 E4 HGK HSK HIH HGD SGD hk hO1
    generalize hg0 : W0.heap.size = g0 at *
    go_enter Tryz.func21, Tryz.ntmps21
    go_upto_region 3 with fail
    rw [← hW0, L4.out]
    clear hW0
    go_upto_region 4 with fail
    rw [← hW1]
    generalize Pth.elOut v c.num cs x = RR at *
    obtain ⟨rc, rl⟩ := RR
    have KEEP := hide (fun W (hW : Below W1.heap.size W1 W) => (hW.cell (show g0 < W1.heap.size by rw [hW1]; simp; omega) (p := ⟨g0, 1, none⟩)).trans q1)
    clear hW1 hg0 f0 f1 f2 f3 f4 ff B0
    have BR := Below.refl W1.heap.size W1
    go_upto_region 5 with fail
    refine Z.region 7 (fun w' => Below W1.heap.size W1 w') (by kernel_rfl) BR.drew (fun hHeld => ?_)
    refine Z.take (i := 0) (d := 25) (v := .slice (some ⟨b, off, none⟩) v.length cap) rfl rfl (by kernel_rfl) (by kernel_rfl) (by kernel_rfl) (by kernel_rfl) (fun _ _ _ h => h) (Or.inl ⟨by rfl, ?_⟩) hHeld ?_
    · intro w' hSw; go_simp
    simp only [Act.put, List.setIfInBounds_toArray, List.set_cons_zero, List.set_cons_succ]
    refine Z.take (i := 1) (d := 26) (v := .pointer (some ⟨g0, 1, none⟩)) rfl rfl (by kernel_rfl) (by kernel_rfl) (by kernel_rfl) (by kernel_rfl) (fun _ _ _ h => h) (Or.inl ⟨by rfl, ?_⟩) hHeld ?_
    · intro w' hSw; go_simp
    simp only [Act.put, List.setIfInBounds_toArray, List.set_cons_zero, List.set_cons_succ]
    refine Z.take (i := 2) (d := 27) (v := .int .i64 c.num) rfl rfl (by kernel_rfl) (by kernel_rfl) (by kernel_rfl) (by kernel_rfl) (fun _ _ _ h => h) (Or.inl ⟨by rfl, ?_⟩) hHeld ?_
    · intro w' hSw; have g1 := (unhide KEEP) _ hSw; go_simp
    simp only [Act.put, List.setIfInBounds_toArray, List.set_cons_zero, List.set_cons_succ]
    refine Z.take (i := 3) (d := 28) (v := .slice (some ⟨pg, po, none⟩) (cs.length + 1) cap') rfl rfl (by kernel_rfl) (by kernel_rfl) (by kernel_rfl) (by kernel_rfl) (fun _ _ _ h => h) (Or.inl ⟨by rfl, ?_⟩) hHeld ?_
    · intro w' hSw; go_simp
    simp only [Act.put, List.setIfInBounds_toArray, List.set_cons_zero, List.set_cons_succ]
    refine Z.take (i := 4) (d := 29) (v := .slice (some ⟨pg, po', none⟩) cs.length (cap' - 1)) rfl rfl (by kernel_rfl) (by kernel_rfl) (by kernel_rfl) (by kernel_rfl) (fun _ _ _ h => h) (Or.inl ⟨by rfl, ?_⟩) hHeld ?_
    · intro w' hSw; skip
      by_cases e : cap' = 1
      · have e2 := (unhide HO2) e
        have e3 : cs.length = 0 := by omega
        subst e2
        subst e
        rw [e3]
        go_simp
      · have e2 := (unhide HO1) (by omega)
        have e4 : 1 < cap' := by omega
        subst e2
        go_simp
        try omega
    simp only [Act.put, List.setIfInBounds_toArray, List.set_cons_zero, List.set_cons_succ]
    refine Z.take (i := 5) (d := 30) (v := .slice (some ⟨bx, ox, none⟩) x.length cx) rfl rfl (by kernel_rfl) (by kernel_rfl) (by kernel_rfl) (by kernel_rfl) (fun _ _ _ h => h) (Or.inl ⟨by rfl, ?_⟩) hHeld ?_
    · intro w' hSw; go_simp
    simp only [Act.put, List.setIfInBounds_toArray, List.set_cons_zero, List.set_cons_succ]
    refine Z.only (i := 6) (d := 31) rfl rfl (by kernel_rfl) (by rfl) (fun K hK => ?_)
    go_simp
    refine ((unhide HE) _ (B1.trans (BR.drew.mono B1.size))).mono ?_
    rintro e2 w2 ⟨s2, rfl, hr2, hb2⟩
    have hb2' : Below W1.heap.size W1 w2 := BR.drew.trans (hb2.mono (Nat.le_refl _))
    have hr2' : Res w2 W1.heap.size s2 rl := hr2
    go_simp
    refine hK.out (.agg #[.int .i64 rc, s2]) _ hb2' ?_
    clear hK K
    simp only [Act.put, List.setIfInBounds_toArray, List.set_cons_zero, List.set_cons_succ]
    have R2 := (unhide hR1).below hb2' (unhide hR1).lt
    have F := hide (Pth.ret (hr2'.mono SZ) (B1.trans (hb2'.mono B1.size)))
    obtain ⟨a2, n2, c2, rfl⟩ := hr2'.shape
    clear p0 p1 y0 y1 q0 q1 q2 hr2 hb2 hr2' hb2' HE
    have p0 := R2.cell 0
    have p1 := R2.cell 1
    have y0 := R2.frozen 0
    have y1 := R2.frozen 1
    simp only [List.getElem?_cons_zero, List.getElem?_cons_succ] at p0 p1
    refine Z.last_at (w' := (w2.setCell ⟨w.heap.size, 0, none⟩ (.int .i64 rc)).setCell ⟨w.heap.size, 1, none⟩ (.slice a2 n2 c2)) rfl (by kernel_rfl) (by rfl) (fun K hK => ?_) ?_
    · go_simp
      exact hK.out
    refine Z.done (by kernel_rfl) ?_ _
    have R3 := (R2.set 0 (.int .i64 rc)).set 1 (.slice a2 n2 c2)
    have FF := (unhide F) (.int .i64 rc) (.slice a2 n2 c2)
    clear p0 p1 y0 y1 R2 F
    generalize (w2.setCell ⟨w.heap.size, 0, none⟩ (.int .i64 rc)).setCell ⟨w.heap.size, 1, none⟩ (.slice a2 n2 c2) = W3 at *
    have p0 := R3.cell 0
    have p1 := R3.cell 1
    simp only [List.set_cons_zero, List.set_cons_succ, List.getElem?_cons_zero, List.getElem?_cons_succ] at p0 p1
    go_wp2_with fail
    refine bodyPost_ret (v := .agg #[.int .i64 rc, .slice a2 n2 c2]) (by simp [results, Tryz.results21, go_sem, p0, p1]) rfl (ans_of (unhide E) FF.1 FF.2)
theorem l13Set_any (cs x : List M.Cl) (hx : M.valueFault x = 0) (hs : ∀ c ∈ cs, Pth.Stp c) : Pth.SetM cs x := by
  induction cs with
  | nil => exact l13Set_nil x hx
  | cons c cs ih => exact l13Set_cons c cs x (hs c (by simp)) (hide (ih (fun d hd => hs d (by simp [hd])))) hx
end Go.Proofs.YtoaibccmlmaknaaGreat

namespace Go.Proofs.YtoaibccmlmaknaaGreat
open Go.RowKit
set_option linter.unusedVariables false
set_option linter.unusedSimpArgs false

theorem Pth.pl_of {w : World} {a : Option Addr} {ps : List (List M.Cl)} {cs : List M.Cl} (hpl : ps.length = cs.length) (hps : ∀ j, j < cs.length → ps.getD j [] = [cs.getD j M.zero]) (h : LV w a ps) : Pth.PL w a cs := by
  cases cs with
  | nil => exact .inl rfl
  | cons c cs =>
    obtain ⟨g, _, _, _, rfl, hg, _⟩ := h 0 (by rw [hpl]; simp)
    refine .inr ⟨g, 0, rfl, hg, fun i hi => ?_⟩
    obtain ⟨g', b, off, k, e, h1, h2, h3, h4, h5⟩ := h i (by rw [hpl]; exact hi)
    rw [hps i hi] at h2 h3 h5
    simp only [Option.some.injEq, Addr.mk.injEq, and_true] at e
    subst e
    rw [Nat.zero_add]
    exact ⟨b, off, k, h2, h3, h4, h5⟩

set_option maxRecDepth 100000 in
set_option maxHeartbeats 1000000 in
theorem implSetPath_any (v : List M.Cl) (b off cap : Nat) (p : List M.Cl) (b' off' cap' : Nat) (x : List M.Cl) (bx ox cx : Nat) (w : World) (hrow : Row w b off v) (hb : b < w.heap.size) (hn : v.length ≤ 1048576) (hcap : v.length ≤ cap) (hok : ∀ c ∈ v, c.ok) (hrow' : Row w b' off' p) (hb' : b' < w.heap.size) (hn' : p.length ≤ 1048576) (hcap' : p.length ≤ cap') (hc : cap' ≤ 9223372036854775807) (hok' : ∀ c ∈ p, c.ok) (hrowx : Row w bx ox x) (hbx : bx < w.heap.size) (hnx : x.length ≤ 1048576) (hcx : x.length ≤ cx) (hokx : ∀ c ∈ x, c.ok) :
    Calls Tryz.prog 49 #[.slice (some ⟨b, off, none⟩) v.length cap, .slice (some ⟨b', off', none⟩) p.length cap', .slice (some ⟨bx, ox, none⟩) x.length cx] w (Ans w (Pth.setOutP v p x)) := by
  have B0 : ∀ y, Below w.heap.size w (w.alloc y) := fun y => (Below.refl _ _).alloc (Nat.le_refl _) y
  have HA := hide (fun y => pathedFault_any v b off cap p b' off' cap' (w.alloc y) (hrow.below (B0 y) hb) (by simp; omega) hn hcap hok (hrow'.below (B0 y) hb') (by simp; omega) hn' hcap' hc hok')
  have HX := hide (fun W (h : Below w.heap.size w W) => implFault_any x bx ox cx W (hrowx.below h hbx) (Nat.lt_of_lt_of_le hbx h.size) hnx hcx hokx)
  have HB0 := hide B0
  have OK' := hide hok'
  have RX := hide hrowx
  clear B0 hok hok' hokx hrowx
  go_enter Tryz.func49, Tryz.ntmps49
  go_wp2_with fail
  refine ((unhide HA) _).mono ?_
  rintro e1 w1 ⟨rfl, hb1⟩
  have hR : Own w1 w.heap.size 49 [.int .i64 0, .slice none 0 0] := Own.below ⟨_, heap_alloc_new _ _, rfl⟩ hb1 (by simp)
  have B1 : Below w.heap.size w w1 := ((unhide HB0) _).trans (hb1.mono (by simp))
  clear hb1 HA
  generalize hq : Pth.asked v p = q
  by_cases hz : q = 0
  · subst hz
    have EX := hide (fun h => Pth.setP_x (x := x) hq h)
    have EO := hide (fun h => Pth.setP_ok (x := x) hq h)
    obtain ⟨hv, hp⟩ := Pth.asked_no hq
    have hst := Pth.steps hp
    have hpv := (Pth.fault_no hp).1
    have hpl := Pth.lens hpv
    clear hq
    go_wp2_with fail
    refine ((unhide HX) _ B1).mono ?_
    rintro e2 w2 ⟨rfl, hb2⟩
    have B2 : Below w.heap.size w w2 := B1.trans (hb2.mono B1.size)
    have hR2 := hR.below hb2 hR.lt
    have hrow1 := hrow.below B2 hb
    have hb1' : b < w2.heap.size := Nat.lt_of_lt_of_le hb B2.size
    have hrow2 := hrow'.below B2 hb'
    have hb2' : b' < w2.heap.size := Nat.lt_of_lt_of_le hb' B2.size
    clear hb2 HX B1 hR hrow hrow'
    generalize hqx : M.valueFault x = qx at *
    by_cases hzx : qx = 0
    · subst hzx
      have fin := hide ((unhide EO) rfl)
      have HD := hide (List.length_drop (i := 1) (l := p))
      have HSO := hide (stepsOf_any p b' off' cap' w2 hpl.1 hc hcap' hrow2)
      have HG := hide (fun o (r : Row w2 b' o (p.drop 1)) => setSteps_any (p.drop 1) x hqx hst.2.2 v b off cap b' o (cap' - 1) bx ox cx w2 hv hrow1 hb1' hcap r hb2' (by rw [unhide HD]; omega) (by omega) ((unhide RX).below B2 hbx) (Nat.lt_of_lt_of_le hbx B2.size) hcx)
      clear hv hp hst hpv hpl hrow1 hrow2 HD EX EO hqx
      generalize hR2 : Pth.setS v (p.drop 1) x = R at *
      obtain ⟨rc, rl⟩ := R
      clear hR2
      generalize p.drop 1 = cs at *
      go_wp2_with fail
      refine (unhide HSO).mono ?_
      rintro e3 w3 ⟨o, rfl, hw3, hr3⟩
      rw [hw3]
      have HGO := hide ((unhide HG) o hr3)
      clear hw3 w3 hr3 HG HSO
      have hR3 := hR2
      have B3 := B2
      go_wp2_with fail
      refine (unhide HGO).mono ?_
      rintro ec wc ⟨sc, rfl, hrc, hbc⟩
      have hRc := hR3.below hbc hR3.lt
      have r0 := hRc.cell 0
      have r1 := hRc.cell 1
      have z0 := hRc.frozen 0
      have z1 := hRc.frozen 1
      simp only [List.getElem?_cons_zero, List.getElem?_cons_succ] at r0 r1
      have HE := hide (Ans.store hrc B3 hR3.lt hbc)
      obtain ⟨ac, mc, cc, rfl⟩ := hrc.shape
      clear hrc hbc
      go_wp2_with fail
      refine bodyPost_ret (v := .agg #[.int .i64 rc, .slice ac mc cc]) (by simp [results, Tryz.results49, go_sem, r0, r1]) rfl (ans_of (unhide fin) ((unhide HE) _ _).1 ((unhide HE) _ _).2)
    · have fin := hide ((unhide EX) hzx)
      have hz' : (qx == 0) = false := by simp [hzx]
      clear EX EO hv hp hst hpv hpl hrow1 hrow2 hqx
      have r0 := hR2.cell 0
      have r1 := hR2.cell 1
      have z0 := hR2.frozen 0
      have z1 := hR2.frozen 1
      simp only [List.getElem?_cons_zero, List.getElem?_cons_succ] at r0 r1
      go_wp2_with fail
      refine bodyPost_ret (v := .agg #[.int .i64 qx, .slice none 0 0]) (by simp [results, Tryz.results49, go_sem, r0, r1]) rfl (ans_of (unhide fin) (resNil _ _) (store_below B2 _ _))
  · have fin := hide ((Pth.setP_bad (x := x) (by rw [hq]; exact hz)).trans (by rw [hq]))
    have hz' : (q == 0) = false := by simp [hz]
    clear hq HX hrow hrow'
    have r0 := hR.cell 0
    have r1 := hR.cell 1
    have z0 := hR.frozen 0
    have z1 := hR.frozen 1
    simp only [List.getElem?_cons_zero, List.getElem?_cons_succ] at r0 r1
    go_wp2_with fail
    refine bodyPost_ret (v := .agg #[.int .i64 q, .slice none 0 0]) (by simp [results, Tryz.results49, go_sem, r0, r1]) rfl (ans_of (unhide fin) (resNil _ _) (store_below B1 _ _))

end Go.Proofs.YtoaibccmlmaknaaGreat
