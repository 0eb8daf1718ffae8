/-
  impl.layBehind: what an instruction leaves is laid wherever it goes on.
-/
import Derived.Test.YtfmljlhcaimafaaDoorInP
import Derived.Test.YtfmljlhcaimafaaDoorInK
namespace Go.Proofs.YtfmljlhcaimafaaDoor
open Go.RowKit
set_option linter.unusedVariables false
set_option linter.unusedSimpArgs false


namespace Ic
theorem places_len (c : Ic) (i : Nat) : (places c i).length ≤ 2 := by
  unfold places
  rw [List.length_append]
  split <;> split <;> simp
/-- What layBehind answers. -/
def LbSaid (w : World) (mb i N : Nat) (l : List Ic) (out : List Int) (e : Ending) (w' : World) : Prop := ∃ r : Bool, e = .returned (.bool r) ∧ Km w.heap.size mb w w' ∧ (r = true → ∃ o, step l i out = some o ∧ Mp w' mb (i + 1) (N + 2) o) ∧ (r = false → step l i out = none)
/-- What the loop over the places holds. -/
structure Lb (w wr : World) (mb i n N : Nat) (o : List Int) (v : Value) (ps : List Int) : Prop where
  mp : Mp wr mb (i + 1) N o
  fr : Fr n ((i : Int) + 2) o
  km : Km w.heap.size mb w wr
  row : wr.ownsRow (w.heap.size + 1) 2 1 v ps.length (ps.map (Value.int .i64))
  mbl : mb < w.heap.size
theorem Lb.at {w wr : World} {mb i n N : Nat} {o : List Int} {a : Option Addr} {c : Nat} {ps : List Int} (h : Lb w wr mb i n N o (.slice a ps.length c) ps) {j : Nat} (hj : j < ps.length) : ∃ g : Nat, a = some ⟨g, 0, none⟩ ∧ ps.length ≤ c ∧ wr.cell? ⟨g, j, none⟩ = some (.int .i64 (ps.getD j 0)) := by
  obtain ⟨h0, ⟨h1, h2⟩ | ⟨g, c', cur, h2, hg, hh, hc, hc2, hc3, hc4⟩⟩ := h.row
  · omega
  · injection h2 with e1 _ e3
    have O : Own wr g 2 cur.toList := ⟨cur, hh, rfl⟩
    refine ⟨g, e1, by omega, ?_⟩
    have e := O.cell j
    rw [e, show cur.toList[j]? = (cur.toList.take (ps.length * 1))[j]? from (List.getElem?_take_of_lt (by omega)).symm, hc4, List.getElem?_map, List.getElem?_eq_getElem hj, List.getD_eq_getElem?_getD, List.getElem?_eq_getElem hj]
    rfl
theorem Lb.shape {w wr : World} {mb i n N : Nat} {o : List Int} {v : Value} {ps : List Int} (h : Lb w wr mb i n N o v ps) : ∃ (a : Option Addr) (c : Nat), v = .slice a ps.length c := by
  obtain ⟨h0, h1 | ⟨g, c, cur, h2, hg, hh, rest⟩⟩ := h.row
  · exact ⟨none, 0, by rw [h1.1, h1.2]⟩
  · exact ⟨_, _, h2⟩
/-- A height laid. -/
theorem Lb.lay {w wr w2 : World} {mb i n N : Nat} {o : List Int} {v : Value} {ps : List Int} (h : Lb w wr mb i n N o v ps) (q : Nat) (x : Int) (hm : Mp w2 mb (i + 1) (N + 1) (o.set q x)) (hk : Km wr.heap.size mb wr w2) (h0 : -1 ≤ x) (h1 : x ≤ (i : Int) + 2) : Lb w w2 mb i n (N + 1) (o.set q x) v ps := by
  refine ⟨hm, h.fr.set q x h0 h1 (by omega), h.km.trans (hk.mono h.km.size), ?_, h.mbl⟩
  obtain ⟨r0, r1 | ⟨g, c, cur, r2, hg, hh, rest⟩⟩ := h.row
  · exact ⟨r0, .inl r1⟩
  · exact ⟨r0, .inr ⟨g, c, cur, r2, hg, (hk.block g (Array.getElem?_eq_some_iff.1 hh).1 (by have := h.mbl; omega)).trans hh, rest⟩⟩
end Ic
set_option maxRecDepth 100000 in
set_option maxHeartbeats 8000000 in
theorem layBehind_any (mb b : Nat) (l : List Ic) (i N : Nat) (rg : Int) (out : List Int) (w : World) (hrow : Ic.Row w b l) (hb : b < w.heap.size) (hi : i < l.length) (hn : l.length ≤ 6000) (hone : Ic.oneF (l.getD i Ic.zero) i l.length rg = 0) (hS : Shp w) (hM : Mp w mb (i + 1) N out) (hfr : Ic.Fr l.length ((i : Int) + 1) out) (hx : 0 ≤ out.getD i (-1)) (hN : N ≤ 100000) :
    Calls Tryd.prog 54 #[.map (some mb), .slice (some ⟨b, 0, none⟩) l.length l.length, .int .i64 i, .int .i64 (out.getD i (-1))] w (Ic.LbSaid w mb i N l out) := by
  obtain ⟨f0, f1, g, f2, hg, hr⟩ := hrow i hi
  have hiI : (i : Int) < (l.length : Int) := by omega
  have hi0 : (0 : Int) ≤ (i : Int) := by omega
  have hop := (Ic.one_parts hone).1
  have HPB := hide (Ic.places_bd hone)
  have HSF := hide (fun h h1 => Ic.step_few (l := l) (i := i) (out := out) h h1)
  have HSG := hide (fun h h1 => Ic.step_go (l := l) (i := i) (out := out) h h1)
  have hxb := hfr.2 i
  obtain ⟨x, hxe⟩ : ∃ x, x = out.getD i (-1) := ⟨_, rfl⟩
  rw [← hxe] at hx HSF HSG hxb ⊢
  have HM := hide hM
  have HFR := hide hfr
  clear hrow hr hone hxe hM hfr
  have HLT2 := Ic.lays_takes (l.getD i Ic.zero).op
  have HTK := Ic.takes_bd (l.getD i Ic.zero).op
  have HLY := Ic.lays_bd (l.getD i Ic.zero).op
  have HPS0 : ∃ PL, PL = Ic.places (l.getD i Ic.zero) i ∧ PL.length ≤ 2 := ⟨_, rfl, Ic.places_len _ _⟩
  generalize l.getD i Ic.zero = c at *
  obtain ⟨op, arg, val⟩ := c
  simp only at f0 f1 f2 hop HSF HSG HLT2 HTK HLY
  obtain ⟨o, hO⟩ : ∃ o : Nat, op = (o : Int) := ⟨op.toNat, by omega⟩
  subst hO
  have ho20 : o < 20 := by omega
  have ho20I : (o : Int) < 20 := by omega
  have HPC := hide (fun W (hSW : Shp W) => placesBehind_any ⟨(o : Int), arg, val⟩ g i W hop.1 hop.2 (by omega) hSW)
  have HPC := hide (show ∀ W, Shp W → Calls Tryd.prog 74 #[.agg #[.int .i64 (o : Int), .int .i64 arg, .slice (some ⟨g, 0, none⟩) val.length val.length], .int .i64 i] W (Ic.PlSaid W (Ic.places ⟨(o : Int), arg, val⟩ i)) from unhide HPC)
  obtain ⟨s0, s1, s2, s3, s4, s5⟩ := hS.cell o ho20
  obtain ⟨PL, hPL, HLEN⟩ := HPS0
  rw [← hPL] at HSG HPB HPC
  clear hPL
  generalize Ic.argK (o : Int) = K at *
  generalize Ic.holds (o : Int) = hold at *
  generalize Ic.takes (o : Int) = tk at *
  generalize Ic.lays (o : Int) = ly at *
  generalize Ic.ends (o : Int) = en at *
  generalize Ic.word o = wd at *
  obtain ⟨w1, hw1⟩ : ∃ w1, w1 = (w.alloc (.cells #[.string wd, .int .i64 K, .bool hold, .int .i64 tk, .int .i64 ly, .bool en] 70)) := ⟨_, rfl⟩
  have B1 : Below w.heap.size w w1 := by rw [hw1]; exact (Below.refl _ _).alloc (Nat.le_refl _) _
  have hs1 : w1.heap.size = w.heap.size + 1 := by rw [hw1]; simp
  have S1 : Own w1 w.heap.size 70 [.string wd, .int .i64 K, .bool hold, .int .i64 tk, .int .i64 ly, .bool en] := by rw [hw1]; exact ⟨_, heap_alloc_new _ _, rfl⟩
  have t3 : w1.cell? ⟨w.heap.size, 3, none⟩ = some (.int .i64 tk) := S1.cell 3
  have t4 : w1.cell? ⟨w.heap.size, 4, none⟩ = some (.int .i64 ly) := S1.cell 4
  have k0 : w1.cell? ⟨b, i * 3, none⟩ = some (.int .i64 (o : Int)) := (B1.cell hb).trans f0
  have k1 : w1.cell? ⟨b, i * 3 + 1, none⟩ = some (.int .i64 arg) := (B1.cell hb).trans f1
  have k2 : w1.cell? ⟨b, i * 3 + 2, none⟩ = some (.slice (some ⟨g, 0, none⟩) val.length val.length) := (B1.cell hb).trans f2
  rw [hw1] at t3 t4 k0 k1 k2
  have HPW := hide ((unhide HPC) w1 (hS.below B1))
  have HS1 := hide hs1
  clear HPC S1 hs1
  by_cases hfew : x < tk
  · have fin := hide (show Ic.LbSaid w mb i N l out (.returned (.bool false)) w1 from ⟨_, rfl, Km.of_below B1, (fun e => by cases e), fun _ => (unhide HSF) (by omega) hfew⟩)
    go_enter Tryd.func54, Tryd.ntmps54
    go_wp2_with fail
    rw [← hw1]
    go_ret
    exact unhide fin
  have g1 : decide (x < tk) = false := decide_eq_false hfew
  have HGO := hide ((unhide HSG) (by omega) hfew)
  have wr1 : IntKind.i64.wrap (x - tk) = x - tk := IntWalk.i64_in _ ⟨by omega, by omega⟩
  obtain ⟨h, hh⟩ : ∃ h, h = x - tk + ly := ⟨_, rfl⟩
  have wr2 : IntKind.i64.wrap (x - tk + ly) = h := by rw [hh]; exact IntWalk.i64_in _ ⟨by omega, by omega⟩
  have hh0 : 0 ≤ h := by omega
  have hh1 : h ≤ (i : Int) + 2 := by omega
  rw [← hh] at HGO
  clear hh HSF HSG hfew hxb HTK HLY HLT2
  go_enter Tryd.func54, Tryd.ntmps54
  go_wp2_with fail
  rw [← hw1]
  refine (unhide HPW).mono ?_
  rintro e w2 ⟨v, rfl, hr2, hb2⟩
  have hs1 := unhide HS1
  have L0 : Ic.Lb w w2 mb i l.length N out v PL := ⟨((unhide HM).below B1).below hb2, (unhide HFR).mono (by omega), Km.of_below (B1.trans (hb2.mono B1.size)), by rw [← hs1]; exact hr2, (unhide HM).lt⟩
  obtain ⟨av, cv, rfl⟩ := L0.shape
  have HL0 := hide L0
  have HBD : Hid (∀ j, j < PL.length → ∃ q : Nat, PL.getD j 0 = (q : Int) ∧ i + 1 ≤ q ∧ q ≤ l.length) := fun j hj => by
    have hm : PL.getD j 0 ∈ PL := by rw [List.getD_eq_getElem?_getD, List.getElem?_eq_getElem hj]; exact List.getElem_mem hj
    have := (unhide HPB) _ hm
    exact ⟨(PL.getD j 0).toNat, by omega, by omega, by omega⟩
  clear HPW hr2 hb2 L0 hw1 hs1 HPB t3 t4 k0 k1 k2 B1
  go_wp2_with fail
  go_loopg [40] PL.length (fun gh s40 wq => ∃ (j : Nat) (oo : List Int), Hid (gh = PL.length - j) ∧ s40 = .int .i64 (j : Int) ∧ j ≤ PL.length ∧ Hid (Ic.putAll l.length h (PL.drop j) oo = Ic.step l i out) ∧ Hid (Ic.Lb w wq mb i l.length (N + j) oo (.slice av PL.length cv) PL))
  case atStart => exact ⟨0, out, rfl, rfl, by omega, by rw [List.drop_zero]; exact (unhide HGO).symm, unhide HL0⟩
  case round =>
    obtain ⟨j, oo, hgj, rfl, hj, hpj, HN⟩ := hrel
    clear HL0 HGO
    by_cases hjlt : j < PL.length
    · have hjI : (j : Int) < (PL.length : Int) := by omega
      have hj0 : (0 : Int) ≤ (j : Int) := by omega
      obtain ⟨gn, rfl, hcv, fp⟩ := (unhide HN).at hjlt
      obtain ⟨q, hq, hqi, hqn⟩ := (unhide HBD) j hjlt
      rw [hq] at fp
      have hdrop : PL.drop j = (q : Int) :: PL.drop (j + 1) := by
        rw [List.drop_eq_getElem_cons hjlt, ← hq, List.getD_eq_getElem?_getD, List.getElem?_eq_getElem hjlt]; rfl
      have HPJ := hide (show Ic.putAll l.length h ((q : Int) :: PL.drop (j + 1)) oo = Ic.step l i out by rw [← hdrop]; exact hpj.out)
      clear hpj hdrop hq
      obtain ⟨cc, hlk, hcc⟩ := (unhide HN).mp.look q (by omega)
      have hol := (unhide HN).fr.1
      have hyb := (unhide HN).fr.2 q
      have hqt : ((q : Int)).toNat = q := by omega
      obtain ⟨y, hy⟩ : ∃ y, y = oo.getD q (-1) := ⟨_, rfl⟩
      rw [← hy] at hlk hcc hyb
      have hout : l.length ≤ q → y = -1 := fun hh => by rw [hy, List.getD_eq_getElem?_getD, List.getElem?_eq_none (by omega)]; rfl
      have BAD := hide (fun hb : (l.length : Int) ≤ (q : Int) ∨ (0 ≤ y ∧ y ≠ h) => Ic.putAll_bad (r := PL.drop (j + 1)) (Ic.put_bad (n := l.length) (h := h) (out := oo) (p := (q : Int)) (by rw [hqt, ← hy]; exact hb)))
      have OKP := hide (fun hb : ¬ ((l.length : Int) ≤ (q : Int) ∨ (0 ≤ y ∧ y ≠ h)) => Ic.putAll_go (r := PL.drop (j + 1)) ((Ic.put_ok (n := l.length) (h := h) (out := oo) (p := (q : Int)) (by rw [hqt, ← hy]; exact hb)).trans (by rw [hqt])))
      clear hy
      by_cases hy0 : 0 ≤ y
      · have hc := hcc hqi hy0
        subst hc
        rw [decide_eq_true ⟨hqi, hy0⟩] at hlk
        have hqlt : q < l.length := by
          by_cases h9 : l.length ≤ q
          · have := hout h9; omega
          · omega
        have gq : ((q : Int) == (l.length : Int)) = false := beq_eq_false_iff_ne.2 (by omega)
        by_cases hyh : cc = h
        · have g2 : (cc != h) = false := by simp [hyh]
          obtain ⟨w3, hup, hm3, hk3⟩ := (unhide HN).mp.put q h hqi (by omega) (by omega) (by omega) hh0 (by omega)
          have L3 := hide ((unhide HN).lay q h hm3 hk3 (by omega) hh1)
          have HP3 := hide (((unhide OKP) (by rintro (h1 | h1); omega; exact h1.2 hyh)).symm.trans (unhide HPJ))
          clear hyh HN BAD OKP HPJ hm3 hk3 hcc hout
          go_wp2_with fail
          go_roundg (PL.length - (j + 1))
          case rel => exact ⟨j + 1, _, rfl, by go_num, by omega, unhide HP3, unhide L3⟩
          case measure => have := hgj.out; omega
        · have g2 : (cc != h) = true := by simpa using hyh
          have fin := hide (show Ic.LbSaid w mb i N l out (.returned (.bool false)) wr from ⟨_, rfl, (unhide HN).km, (fun e => by cases e), fun _ => (unhide HPJ).symm.trans ((unhide BAD) (.inr ⟨hy0, hyh⟩))⟩)
          clear hyh HN BAD OKP HPJ hcc hout
          go_wp2_with fail
          go_ret
          exact unhide fin
      · rw [decide_eq_false (show ¬ (i + 1 ≤ q ∧ 0 ≤ y) by omega)] at hlk
        by_cases hqe : q = l.length
        · have gq : ((q : Int) == (l.length : Int)) = true := by simp [hqe]
          have fin := hide (show Ic.LbSaid w mb i N l out (.returned (.bool false)) wr from ⟨_, rfl, (unhide HN).km, (fun e => by cases e), fun _ => (unhide HPJ).symm.trans ((unhide BAD) (.inl (by omega)))⟩)
          clear HN BAD OKP HPJ hcc hout hqe
          go_wp2_with fail
          go_ret
          exact unhide fin
        · have gq : ((q : Int) == (l.length : Int)) = false := beq_eq_false_iff_ne.2 (by omega)
          obtain ⟨w3, hup, hm3, hk3⟩ := (unhide HN).mp.put q h hqi (by omega) (by omega) (by omega) hh0 (by omega)
          have L3 := hide ((unhide HN).lay q h hm3 hk3 (by omega) hh1)
          have HP3 := hide (((unhide OKP) (by rintro (h1 | h1); omega; exact hy0 h1.1)).symm.trans (unhide HPJ))
          clear HN BAD OKP HPJ hm3 hk3 hcc hout hqe
          go_wp2_with fail
          go_roundg (PL.length - (j + 1))
          case rel => exact ⟨j + 1, _, rfl, by go_num, by omega, unhide HP3, unhide L3⟩
          case measure => have := hgj.out; omega
    · have hjI : ¬ (j : Int) < (PL.length : Int) := by omega
      have fin := hide (show Ic.LbSaid w mb i N l out (.returned (.bool true)) wr from by
        have e : PL.drop j = [] := List.drop_eq_nil_of_le (by omega)
        have e2 := hpj.out
        rw [e] at e2
        exact ⟨_, rfl, (unhide HN).km, (fun _ => ⟨oo, e2.symm, (unhide HN).mp.more (by omega)⟩), fun e => by cases e⟩)
      clear hjlt HN hpj
      go_wp2_with fail
      go_ret
      exact unhide fin

end Go.Proofs.YtfmljlhcaimafaaDoor
