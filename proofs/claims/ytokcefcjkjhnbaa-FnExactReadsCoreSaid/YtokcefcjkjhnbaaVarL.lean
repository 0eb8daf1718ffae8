/-
  laws.markNodeS, and laws.eq.., mark.., held.. of a NamesResult.
-/
import Derived.Test.YtokcefcjkjhnbaaNdL
import Derived.Test.YtokcefcjkjhnbaaLvT
import Derived.Test.YtokcefcjkjhnbaaMarkC
import Derived.Test.YtokcefcjkjhnbaaRes
import Derived.Test.YtokcefcjkjhnbaaRdM
import Derived.Deep.RegionWith
namespace Go.Proofs.Ytokcefcjkjhnbaa
open Go.RowKit
set_option linter.unusedVariables false
set_option linter.unusedSimpArgs false


set_option maxRecDepth 100000 in
set_option maxHeartbeats 2000000 in
theorem Nd.markS_any (b cap : Nat) (l : List Nd) (k : Int) (w : World) (ho : Nd.OwnRow w b 71 l) (hn : l.length ≤ 1048576) (hcap : l.length ≤ cap) (k0 : 0 ≤ k) (k1 : k ≤ 100000000000) :
    Calls Try.prog 15 #[.slice (some ⟨b, 0, none⟩) l.length cap, .int .i64 k] w fun e w' => e = .returned (.int .i64 (k + 6 * l.length)) ∧ But w.heap.size b w w' := by
  have hblt := ho.lt
  go_enter Try.func15, Try.ntmps15
  go_wp2_with fail
  go_loopg [1, 5] l.length (fun g s1 s5 wr => ∃ (i : Nat) (q : Int) (xs : List Value), Hid (g = l.length - i) ∧ s5 = .int .i64 i ∧ s1 = .int .i64 q ∧ i ≤ l.length ∧ 0 ≤ q ∧ q ≤ 200000000000 ∧ Hid (q = k + 6 * i) ∧ Own wr b 71 xs ∧ Hid (xs.length = l.length * 6) ∧ But w.heap.size b w wr)
  case atStart =>
    obtain ⟨xs, o1, o2⟩ := ho
    exact ⟨0, k, xs, rfl, rfl, rfl, by omega, k0, by omega, by simp [Hid], o1, o2.1, But.refl _ _ _⟩
  case round =>
    clear ho
    obtain ⟨i, q, xs, hg, rfl, rfl, hi, q0, q1, hq, hown, hlen, hbut⟩ := hrel
    by_cases hlt : i < l.length
    · have hl6 := hlen.out
      obtain ⟨v0, g0⟩ := some_of_lt (xs := xs) (j := i * 6) (by omega)
      obtain ⟨v1, g1⟩ := some_of_lt (xs := xs) (j := i * 6 + 1) (by omega)
      obtain ⟨v2, g2⟩ := some_of_lt (xs := xs) (j := i * 6 + 2) (by omega)
      obtain ⟨v3, g3⟩ := some_of_lt (xs := xs) (j := i * 6 + 3) (by omega)
      obtain ⟨v4, g4⟩ := some_of_lt (xs := xs) (j := i * 6 + 4) (by omega)
      obtain ⟨v5, g5⟩ := some_of_lt (xs := xs) (j := i * 6 + 5) (by omega)
      have i0 : wr.cell? ⟨b, i * 6, none⟩ = some v0 := (hown.cell _).trans (g0)
      have z0 : wr.frozen? ⟨b, i * 6, none⟩ = false := hown.frozen _
      have i1 : ∀ y0, (wr.setCell ⟨b, i * 6, none⟩ y0).cell? ⟨b, i * 6 + 1, none⟩ = some v1 := fun y0 => ((hown.set (i * 6) y0).cell _).trans (by rw [List.getElem?_set_ne (by omega)]; exact g1)
      have z1 : ∀ y0, (wr.setCell ⟨b, i * 6, none⟩ y0).frozen? ⟨b, i * 6 + 1, none⟩ = false := fun y0 => (hown.set (i * 6) y0).frozen _
      have i2 : ∀ y0 y1, ((wr.setCell ⟨b, i * 6, none⟩ y0).setCell ⟨b, i * 6 + 1, none⟩ y1).cell? ⟨b, i * 6 + 2, none⟩ = some v2 := fun y0 y1 => (((hown.set (i * 6) y0).set (i * 6 + 1) y1).cell _).trans (by rw [List.getElem?_set_ne (by omega), List.getElem?_set_ne (by omega)]; exact g2)
      have z2 : ∀ y0 y1, ((wr.setCell ⟨b, i * 6, none⟩ y0).setCell ⟨b, i * 6 + 1, none⟩ y1).frozen? ⟨b, i * 6 + 2, none⟩ = false := fun y0 y1 => ((hown.set (i * 6) y0).set (i * 6 + 1) y1).frozen _
      have i3 : ∀ y0 y1 y2, (((wr.setCell ⟨b, i * 6, none⟩ y0).setCell ⟨b, i * 6 + 1, none⟩ y1).setCell ⟨b, i * 6 + 2, none⟩ y2).cell? ⟨b, i * 6 + 3, none⟩ = some v3 := fun y0 y1 y2 => ((((hown.set (i * 6) y0).set (i * 6 + 1) y1).set (i * 6 + 2) y2).cell _).trans (by rw [List.getElem?_set_ne (by omega), List.getElem?_set_ne (by omega), List.getElem?_set_ne (by omega)]; exact g3)
      have z3 : ∀ y0 y1 y2, (((wr.setCell ⟨b, i * 6, none⟩ y0).setCell ⟨b, i * 6 + 1, none⟩ y1).setCell ⟨b, i * 6 + 2, none⟩ y2).frozen? ⟨b, i * 6 + 3, none⟩ = false := fun y0 y1 y2 => (((hown.set (i * 6) y0).set (i * 6 + 1) y1).set (i * 6 + 2) y2).frozen _
      have i4 : ∀ y0 y1 y2 y3, ((((wr.setCell ⟨b, i * 6, none⟩ y0).setCell ⟨b, i * 6 + 1, none⟩ y1).setCell ⟨b, i * 6 + 2, none⟩ y2).setCell ⟨b, i * 6 + 3, none⟩ y3).cell? ⟨b, i * 6 + 4, none⟩ = some v4 := fun y0 y1 y2 y3 => (((((hown.set (i * 6) y0).set (i * 6 + 1) y1).set (i * 6 + 2) y2).set (i * 6 + 3) y3).cell _).trans (by rw [List.getElem?_set_ne (by omega), List.getElem?_set_ne (by omega), List.getElem?_set_ne (by omega), List.getElem?_set_ne (by omega)]; exact g4)
      have z4 : ∀ y0 y1 y2 y3, ((((wr.setCell ⟨b, i * 6, none⟩ y0).setCell ⟨b, i * 6 + 1, none⟩ y1).setCell ⟨b, i * 6 + 2, none⟩ y2).setCell ⟨b, i * 6 + 3, none⟩ y3).frozen? ⟨b, i * 6 + 4, none⟩ = false := fun y0 y1 y2 y3 => ((((hown.set (i * 6) y0).set (i * 6 + 1) y1).set (i * 6 + 2) y2).set (i * 6 + 3) y3).frozen _
      have G5 := hide g5
      clear g0 g1 g2 g3 g4 g5 hl6
      have hq6 : q + 6 ≤ 200000000000 := by have := hq.out; omega
      go_wp2_with fail
      refine (markText_any _ _ (by omega)).mono ?_
      rintro e w1 ⟨rfl, hb1⟩
      have o1 := (((((hown.set (i * 6) (.int .i64 q)).set (i * 6 + 1) (.int .i64 (q + 1))).set (i * 6 + 2) (.int .i64 (q + 1 + 1))).set (i * 6 + 3) (.int .i64 (q + 1 + 1 + 1))).set (i * 6 + 4) (.int .i64 (q + 1 + 1 + 1 + 1))).below hb1 (by have := hown.lt; simpa [World.setCell] using this)
      have u1 : But w.heap.size b w w1 := ((((((hbut.trans (But.set _ b (i * 6) wr _)).trans (But.set _ b (i * 6 + 1) _ _)).trans (But.set _ b (i * 6 + 2) _ _)).trans (But.set _ b (i * 6 + 3) _ _)).trans (But.set _ b (i * 6 + 4) _ _))).trans (But.ofBelow (hb1.mono (by have := hbut.size; simpa [World.setCell] using this)))
      have j5 : w1.cell? ⟨b, i * 6 + 5, none⟩ = some v5 := (o1.cell _).trans (by rw [List.getElem?_set_ne (by omega), List.getElem?_set_ne (by omega), List.getElem?_set_ne (by omega), List.getElem?_set_ne (by omega), List.getElem?_set_ne (by omega)]; exact unhide G5)
      have y5 := o1.frozen (i * 6 + 5)
      clear i0 i1 i2 i3 i4 z0 z1 z2 z3 z4 hb1
      generalize mt (q + 1 + 1 + 1 + 1 + 1) = t5 at *
      go_wp2_with fail
      go_roundg (l.length - (i + 1))
      case rel =>
        refine ⟨i + 1, _, _, rfl, by go_num, rfl, by omega, by omega, ?_, ?_, o1.set (i * 6 + 5) _, ?_, u1.trans (But.set _ b (i * 6 + 5) _ _)⟩
        · omega
        · show _ = _; have := hq.out; omega
        · show _ = _; simp only [List.length_set]; exact hlen.out
      case measure => have := hg.out; omega
    · have hie : i = l.length := by omega
      have hq' := hq.out
      rw [hie] at hq'
      have HQ := hide hq'
      clear hie hq'
      go_wp2_with fail
      go_ret
      exact ⟨ret_int (unhide HQ), hbut⟩

/-- Texts that are marked. -/
def mks (n : Nat) (q : Int) : List ByteArray := (List.range n).map fun (i : Nat) => mt (q + i)
theorem mks_length (n : Nat) (q : Int) : (mks n q).length = n := by simp [mks]
theorem mks_getD (n : Nat) (q : Int) (i : Nat) (hi : i < n) : (mks n q).getD i ByteArray.empty = mt (q + i) := by simp [mks, List.getD_eq_getElem?_getD, hi]
theorem KS.shape {w : World} {B : Nat} {v : Value} {ks : List ByteArray} (h : KS w B v ks) : ∃ a n c, v = .slice a n c := by
  obtain ⟨a, c, e, _⟩ := h.tv
  exact ⟨a, _, c, e⟩
theorem KS.lt {w : World} {B : Nat} {v : Value} {ks : List ByteArray} (h : KS w B v ks) : ∀ b, v.ownBlock = some b → B ≤ b ∧ b < w.heap.size := World.ownsRow.lt h
theorem KS.allocv {w : World} {B : Nat} {v : Value} {ks : List ByteArray} (h : KS w B v ks) (o : Obj) : KS (w.alloc o) B v ks := h.below ((Below.refl _ _).alloc (Nat.le_refl _) o)
theorem KS.but {w w' : World} {B C b : Nat} {v : Value} {ks : List ByteArray} (h : KS w B v ks) (hb : But C b w w') (hC : w.heap.size ≤ C) (hne : v.ownBlock ≠ some b) : KS w' B v ks := by
  obtain ⟨h1, ⟨h2, h3⟩ | ⟨g, cap, cur, h2, hg, hh, hr⟩⟩ := h
  · exact ⟨h1, .inl ⟨h2, h3⟩⟩
  · refine ⟨h1, .inr ⟨g, cap, cur, h2, hg, (hb.block g ?_ ?_).trans hh, hr⟩⟩
    · have := (Array.getElem?_eq_some_iff.1 hh).1; omega
    · intro e; apply hne; rw [h2, e]; rfl
theorem KS.butv {w w' : World} {B : Nat} {v s : Value} {ks : List ByteArray} (h : KS w B v ks) (hb : ButV s w w') (hne : ∀ b, s.ownBlock = some b → v.ownBlock ≠ some b) : KS w' B v ks := by
  obtain ⟨h1, ⟨h2, h3⟩ | ⟨g, cap, cur, h2, hg, hh, hr⟩⟩ := h
  · exact ⟨h1, .inl ⟨h2, h3⟩⟩
  · refine ⟨h1, .inr ⟨g, cap, cur, h2, hg, (hb.block g ((Array.getElem?_eq_some_iff.1 hh).1) ?_).trans hh, hr⟩⟩
    intro e
    exact hne g e (by rw [h2]; rfl)

set_option maxHeartbeats 1000000 in
theorem eqStringS_ks (s s' : Value) (B B' : Nat) (ss : List ByteArray) (w : World) (h0 : KS w B s ss) (h0' : KS w B' s' ss) (hn : ss.length ≤ 4096) :
    Calls Try.prog 46 #[s, s'] w fun e w' => e = .returned (.bool true) ∧ Below w.heap.size w w' := by
  obtain ⟨a, c, rfl, hc, h⟩ := h0.tv
  obtain ⟨a', c', rfl, hc', h'⟩ := h0'.tv
  clear h0 h0'
  have H := hide h
  have H' := hide h'
  clear h h'
  go_enter Try.func46, Try.ntmps46
  go_wp2_with fail
  go_loopg [5] ss.length (fun gh i wr => ∃ k : Nat, Hid (gh = ss.length - k) ∧ k ≤ ss.length ∧ i = .int .i64 k ∧ Below w.heap.size w wr)
  case atStart => exact ⟨0, rfl, by omega, rfl, Below.refl _ _⟩
  case round =>
    obtain ⟨k, hg, hk, rfl, hbel⟩ := hrel
    by_cases hlt : k < ss.length
    · obtain ⟨g, rfl, hgl, c0⟩ := (unhide H) k hlt
      obtain ⟨g', rfl, hgl', c0'⟩ := (unhide H') k hlt
      have f0 := fun q => show (wr.drewN q).cell? ⟨g, k, none⟩ = some (.string (ss.getD k ByteArray.empty)) from (hbel.cell hgl).trans c0
      have f1 := fun q => show (wr.drewN q).cell? ⟨g', k, none⟩ = some (.string (ss.getD k ByteArray.empty)) from (hbel.cell hgl').trans c0'
      have hltz : (k : Int) < (ss.length : Int) := by omega
      clear c0 c0'
      generalize ss.getD k ByteArray.empty = s at *
      have hee : (s.toList == s.toList) = true := by simp
      go_wp2_with fail
      go_quiet (fail)
      clear f0 f1
      have hb2 : Below w.heap.size w (wr.drewN nq) := ⟨hbel.os, hbel.tape, hbel.output, hbel.size, hbel.block⟩
      go_wp2_with fail
      go_roundg (ss.length - (k + 1))
      case rel => exact ⟨k + 1, rfl, by omega, by go_num, hb2⟩
      case measure => have := hg.out; omega
    · go_wp2_with fail
      go_ret
      exact ⟨rfl, hbel⟩

set_option maxHeartbeats 1000000 in
theorem markStringS_ks (s : Value) (B : Nat) (ss : List ByteArray) (q : Int) (w : World) (h : KS w B s ss) (hn : ss.length ≤ 4096) (q0 : 0 ≤ q) (q1 : q ≤ 1000000) :
    Calls Try.prog 49 #[s, .int .i64 q] w fun e w' => e = .returned (.int .i64 (q + ss.length)) ∧ KS w' B s (mks ss.length q) ∧ ButV s w w' := by
  obtain ⟨hsl, ⟨rfl, h3⟩ | ⟨g, cap, cur, rfl, hgb, hh, hnc, hcm, hcs, ht⟩⟩ := h
  · have h0 : ss = [] := List.length_eq_zero_iff.1 h3
    subst h0
    go_enter Try.func49, Try.ntmps49
    go_wp2_with fail
    refine wp_loop_rounds 1 ?_
    rw [rounds_succ]
    go_wp2_with fail
    go_ret
    exact ⟨ret_int (by simp), World.ownsRow_nil _ _ _ _, rfl, rfl, rfl, Nat.le_refl _, fun _ _ _ => rfl⟩
  have hys : Own w g 9 cur.toList := ⟨cur, hh, rfl⟩
  have hgl := hys.lt
  have hcl : cur.toList.length = cap := by simp [hcs]
  clear hsl ht hh
  go_enter Try.func49, Try.ntmps49
  go_wp2_with fail
  go_loopg [1, 5] ss.length (fun gh s1 s5 wr => ∃ (k : Nat) (r : Int) (xs : List Value), Hid (gh = ss.length - k) ∧ s5 = .int .i64 k ∧ s1 = .int .i64 r ∧ k ≤ ss.length ∧ 0 ≤ r ∧ r ≤ 3000000 ∧ Hid (r = q + k) ∧ Own wr g 9 xs ∧ Hid (xs.length = cap) ∧ Hid (∀ i, i < k → xs[i]? = some (.string (mt (q + i)))) ∧ But w.heap.size g w wr)
  case atStart => exact ⟨0, q, _, rfl, rfl, rfl, by omega, q0, by omega, by show _ = _; omega, hys, hcl, fun i hi => absurd hi (by omega), But.refl _ _ _⟩
  case round =>
    obtain ⟨k, r, xs, hg, rfl, rfl, hk, hr0, hr1, hr, hO, hx, hall, hbut⟩ := hrel
    by_cases hlt : k < ss.length
    · have hltz : (k : Int) < (ss.length : Int) := by omega
      have HM := markText_any r
      have hr2 : r + 1 ≤ 3000000 := by have := hr.out; omega
      go_wp2_with fail
      refine (HM _ (by omega)).mono ?_
      rintro e w1 ⟨rfl, hb1⟩
      have hglr : g < wr.heap.size := Nat.lt_of_lt_of_le hgl hbut.size
      have hO1 := hO.below hb1 hglr
      have hbut1 : But w.heap.size g w w1 := hbut.trans (But.ofBelow (hb1.mono hbut.size))
      obtain ⟨v0, g0⟩ := some_of_lt (xs := xs) (j := k) (by rw [hx.out]; omega)
      have i0 := (hO1.cell k).trans g0
      have z0 := hO1.frozen k
      have hx2 := hide (show ∀ u, (xs.set k u).length = cap from fun u => by rw [List.length_set]; exact hx.out)
      have hall2 := hide (show ∀ i, i < k + 1 → (xs.set k (.string (mt r)))[i]? = some (.string (mt (q + i))) from fun i hi => by
        by_cases e : i = k
        · subst e
          rw [List.getElem?_set_self (by rw [hx.out]; omega), hr.out]
        · rw [List.getElem?_set_ne (by omega)]; exact hall.out i (by omega))
      have HO1 := hide (fun u => hO1.set k u)
      have hrr := hide (show r + 1 = q + ((k + 1 : Nat) : Int) by have := hr.out; omega)
      generalize mt r = m at *
      clear hb1 hO g0 HM hbut hO1
      go_wp2_with fail
      go_roundg (ss.length - (k + 1))
      case rel => exact ⟨k + 1, _, _, rfl, by go_num, rfl, by omega, by omega, by omega, unhide hrr, (unhide HO1) _, (unhide hx2) _, unhide hall2, hbut1.trans (But.set _ g k _ _)⟩
      case measure => have := hg.out; omega
    · have hke : k = ss.length := by omega
      have fin := hide (show r = q + ss.length by rw [← hke]; exact hr.out)
      have HK := hide (show KS wr B (.slice (some ⟨g, 0, none⟩) ss.length cap) (mks ss.length q) by
        obtain ⟨c2, hc2, hc3⟩ := hO
        have hx3 := hx.out
        have hl3 : c2.size = cap := by rw [← hx3, ← hc3]; simp
        unfold KS
        rw [mks_length]
        refine ⟨by simp [mks_length], .inr ⟨g, cap, c2, rfl, hgb, hc2, hnc, hcm, by omega, ?_⟩⟩
        rw [hc3]
        apply List.ext_getElem?
        intro j
        rw [List.getElem?_take, List.getElem?_map]
        by_cases hj : j < ss.length
        · rw [if_pos (by omega), hall.out j (by omega)]
          simp [mks, hj]
        · rw [if_neg (by omega), List.getElem?_eq_none (by rw [mks_length]; omega)]
          rfl)
      have HB := hide (show ButV (.slice (some ⟨g, 0, none⟩) ss.length cap) w wr from ⟨hbut.os, hbut.tape, hbut.output, hbut.size, fun b hb hne => hbut.block b hb (fun e => hne (by rw [e]; rfl))⟩)
      clear hke hO hbut hall
      go_wp2_with fail
      go_ret
      exact ⟨ret_int (unhide fin), unhide HK, unhide HB⟩

set_option maxHeartbeats 1000000 in
theorem heldStringS_ks (s : Value) (B n : Nat) (q : Int) (w : World) (h0 : KS w B s (mks n q)) (hn : n ≤ 4096) (q0 : 0 ≤ q) (q1 : q ≤ 1000000) :
    Calls Try.prog 50 #[s, .int .i64 q] w fun e w' => e = .returned (.int .i64 (q + n)) ∧ Below w.heap.size w w' := by
  obtain ⟨a, c, rfl, hc, h⟩ := h0.tv
  clear h0
  rw [mks_length] at hc ⊢
  have H := hide h
  clear h
  go_enter Try.func50, Try.ntmps50
  go_wp2_with fail
  go_loopg [1, 5] n (fun gh s1 s5 wr => ∃ (k : Nat) (r : Int), Hid (gh = n - k) ∧ s5 = .int .i64 k ∧ s1 = .int .i64 r ∧ k ≤ n ∧ 0 ≤ r ∧ r ≤ 3000000 ∧ Hid (r = q + k) ∧ Below w.heap.size w wr)
  case atStart => exact ⟨0, q, rfl, rfl, rfl, by omega, q0, by omega, by show _ = _; omega, Below.refl _ _⟩
  case round =>
    obtain ⟨k, r, hg, rfl, rfl, hk, hr0, hr1, hr, hbel⟩ := hrel
    by_cases hlt : k < n
    · obtain ⟨g, rfl, hgl, c0⟩ := (unhide H) k (by rw [mks_length]; exact hlt)
      rw [mks_getD n q k hlt, ← hr.out] at c0
      have hltz : (k : Int) < (n : Int) := by omega
      have hr2 : r + 1 ≤ 3000000 := by have := hr.out; omega
      have hrr := hide (show r + 1 = q + ((k + 1 : Nat) : Int) by have := hr.out; omega)
      have HM := hide (fun w' => markText_any r w' (by omega))
      have f0 := fun q => show (wr.drewN q).cell? ⟨g, k, none⟩ = some (.string (mt r)) from (hbel.cell hgl).trans c0
      have f1 := show wr.drew.cell? ⟨g, k, none⟩ = some (.string (mt r)) from (hbel.cell hgl).trans c0
      have f2 : wr.cell? ⟨g, k, none⟩ = some (.string (mt r)) := (hbel.cell hgl).trans c0
      have hglr : g < wr.heap.size := Nat.lt_of_lt_of_le hgl hbel.size
      clear c0
      generalize mt r = m at *
      have hee : (m.toList == m.toList) = true := by simp
      have hee2 : (m.toList != m.toList) = false := by simp
      have BD : Below w.heap.size w wr.drew := hbel.drew
      go_wp2_with fail
      go_region_with (go_at_call 48; refine ((unhide HM) _).mono ?_; rintro e w1 ⟨rfl, hb1⟩; have c1 : w1.cell? ⟨g, k, none⟩ = some (.string m) := (hb1.cell (by exact hglr)).trans f1; have B1 : Below w.heap.size w w1 := BD.trans (hb1.mono (by exact hbel.size)))
      all_goals
        go_wp2_with fail
        go_roundg (n - (k + 1))
        case rel => exact ⟨k + 1, _, rfl, by go_num, rfl, by omega, by omega, by omega, unhide hrr, B1⟩
        case measure => have := hg.out; omega
    · have hke : k = n := by omega
      have fin := hide (show r = q + n by rw [← hke]; exact hr.out)
      clear hke
      go_wp2_with fail
      go_ret
      exact ⟨ret_int (unhide fin), hbel⟩

set_option maxHeartbeats 1000000 in
theorem eqNamesResult_any (code : Int) (s s' : Value) (B B' : Nat) (l : List ByteArray) (w : World) (h : KS w B s l) (h' : KS w B' s' l) (hn : l.length ≤ 4096) :
    Calls Try.prog 13 #[.agg #[.int .i64 code, s], .agg #[.int .i64 code, s']] w fun e w' => e = .returned (.bool true) ∧ Below w.heap.size w w' := by
  have HB : ∀ o o', Below w.heap.size w ((w.alloc o).alloc o') := fun o o' => ((Below.refl _ _).alloc (Nat.le_refl _) _).alloc (by simp) _
  have H := hide (fun o o' => eqStringS_ks s s' B B' l ((w.alloc o).alloc o') ((h.allocv o).allocv o') ((h'.allocv o).allocv o') hn)
  obtain ⟨a, n, cap, rfl⟩ := h.shape
  obtain ⟨a', n', cap', rfl⟩ := h'.shape
  clear h h'
  have HB' := hide HB
  clear HB
  go_enter Try.func13, Try.ntmps13
  go_wp2_with fail
  refine ((unhide H) _ _).mono ?_
  rintro e w1 ⟨rfl, hb1⟩
  go_wp2_with fail
  go_ret
  exact ⟨rfl, ((unhide HB') _ _).trans (hb1.mono (by simp <;> omega))⟩

theorem ButV.alloc {s : Value} {w w' : World} {o : Obj} (h : ButV s (w.alloc o) w') : ButV s w w' :=
  ⟨h.os, h.tape, h.output, by have := h.size; simp at this; omega, fun k hk hh => (h.block k (by simp; omega) hh).trans (Below.heap_alloc _ _ _ hk)⟩
set_option maxHeartbeats 1000000 in
theorem markNamesResult_any (code : Int) (s : Value) (B : Nat) (l : List ByteArray) (k : Int) (w : World) (h : KS w B s l) (hn : l.length ≤ 4096) (k0 : 0 ≤ k) (k1 : k ≤ 1000000) :
    Calls Try.prog 16 #[.agg #[.int .i64 code, s], .int .i64 k] w fun e w' => e = .returned (.int .i64 (k + l.length)) ∧ KS w' B s (mks l.length k) ∧ ButV s w w' := by
  have H := hide (fun o => markStringS_ks s B l k (w.alloc o) (h.allocv o) hn k0 k1)
  obtain ⟨a, n, cap, rfl⟩ := h.shape
  clear h
  go_enter Try.func16, Try.ntmps16
  go_wp2_with fail
  refine ((unhide H) _).mono ?_
  rintro e w1 ⟨rfl, hr, hb⟩
  go_wp2_with fail
  go_ret
  exact ⟨rfl, hr, hb.alloc⟩

set_option maxHeartbeats 1000000 in
theorem heldNamesResult_any (code : Int) (s : Value) (B n : Nat) (k : Int) (w : World) (h : KS w B s (mks n k)) (hn : n ≤ 4096) (k0 : 0 ≤ k) (k1 : k ≤ 1000000) :
    Calls Try.prog 17 #[.agg #[.int .i64 code, s], .int .i64 k] w fun e w' => e = .returned (.int .i64 (k + n)) ∧ Below w.heap.size w w' := by
  have HB := hide (fun o => (Below.refl w.heap.size w).alloc (Nat.le_refl _) o)
  have H := hide (fun o => heldStringS_ks s B n k (w.alloc o) (h.allocv o) hn k0 k1)
  obtain ⟨a, n', cap, rfl⟩ := h.shape
  clear h
  have hneg : decide (k + (n : Int) < 0) = false := decide_eq_false (by omega)
  go_enter Try.func17, Try.ntmps17
  go_wp2_with fail
  refine ((unhide H) _).mono ?_
  rintro e w1 ⟨rfl, hb⟩
  go_wp2_with fail
  go_ret
  exact ⟨rfl, ((unhide HB) _).trans (hb.mono (by simp))⟩

end Go.Proofs.Ytokcefcjkjhnbaa
