/-
  A row of instructions made of an argument: how great it is, its rows, and what marks leave of it.
  A row of instructions made of an argument, with the bound E of its blocks, and what marks leave of it: all blocks from E on.
-/
import Derived.Test.YtgjbibkppofjfaaDoorInL
import Derived.Test.YtgjbibkppofjfaaDoorMarkC
namespace Go.Proofs.YtgjbibkppofjfaaDoor
open Go.RowKit
set_option linter.unusedVariables false
set_option linter.unusedSimpArgs false


namespace Ic
/-- How many cells the first k instructions have. -/
def tot (l : List Ic) : Nat → Nat
  | 0 => 0
  | k + 1 => tot l k + (l.getD k zero).val.length
theorem tot_mono (l : List Ic) : ∀ k n, k ≤ n → tot l k ≤ tot l n := by
  intro k n h
  induction n with
  | zero => rw [show k = 0 by omega]; exact Nat.le_refl _
  | succ n ih =>
    by_cases e : k = n + 1
    · rw [e]; exact Nat.le_refl _
    · have := ih (by omega); rw [tot]; omega
theorem tot_one (l : List Ic) (i : Nat) (hi : i < l.length) : (l.getD i zero).val.length ≤ tot l l.length := by
  have := tot_mono l (i + 1) l.length (by omega)
  rw [tot] at this
  omega
set_option maxHeartbeats 1000000 in
theorem sz2_any (c : Ic) (va : Option Addr) (vc : Nat) (left : Int) (w : World) (hc : Cells w va vc c.val) (h0 : 0 ≤ left) (h1 : left ≤ 1048576) :
    Calls Tryd.prog 13 #[.agg #[.int .i64 c.op, .int .i64 c.arg, .slice va c.val.length vc], .int .i64 left] w fun e w' => ∃ r : Int, e = .returned (.int .i64 r) ∧ (r = -1 ∨ (0 ≤ r ∧ r + c.val.length ≤ left)) ∧ Below w.heap.size w w' := by
  have HB := hide (fun o => (Below.refl w.heap.size w).alloc (Nat.le_refl _) o)
  have H := hide (fun o => _root_.Go.Proofs.YtgjbibkppofjfaaDoor.sz_arg va vc c.val left (w.alloc o) (hc.below ((unhide HB) o)) h0 h1)
  clear hc
  go_enter Tryd.func13, Tryd.ntmps13
  go_wp2_with fail
  refine ((unhide H) _).mono ?_
  rintro e w1 ⟨r, rfl, hr, hb1⟩
  have B1 : Below w.heap.size w w1 := ((unhide HB) _).trans (hb1.mono (by simp))
  clear H hb1
  by_cases hneg : r < 0
  · have g1 : decide (r < 0) = true := decide_eq_true hneg
    go_wp2_with fail
    go_ret
    exact ⟨_, rfl, .inl rfl, B1⟩
  · have g1 : decide (r < 0) = false := decide_eq_false hneg
    have hr2 : 0 ≤ r ∧ r + c.val.length ≤ left := by
      rcases hr with hr | ⟨h2, h3⟩
      · exact absurd hr hneg
      · omega
    clear hr hneg
    go_wp2_with fail
    go_ret
    exact ⟨_, rfl, .inr hr2, B1⟩

set_option maxHeartbeats 2000000 in
theorem sz2S_any (b off cap : Nat) (l : List Ic) (left : Int) (w : World) (hrow : ∀ W, Below w.heap.size w W → ∀ i, i < l.length → ArgAt W b (off + i * 3) (l.getD i zero)) (hcap : cap ≤ 9223372036854775807) (hl : l.length ≤ cap) (h0 : 0 ≤ left) (h1 : left ≤ 1048576) :
    Calls Tryd.prog 4 #[.slice (some ⟨b, off, none⟩) l.length cap, .int .i64 left] w fun e w' => ∃ r : Int, e = .returned (.int .i64 r) ∧ (r < 0 ∨ (0 ≤ r ∧ l.length ≤ 1048576 ∧ tot l l.length ≤ 1048576)) ∧ Below w.heap.size w w' := by
  have HR := hide hrow
  clear hrow
  by_cases hbig : left - (l.length : Int) < 0
  · have g1 : decide (left - (l.length : Int) < 0) = true := decide_eq_true hbig
    go_enter Tryd.func4, Tryd.ntmps4
    go_wp2_with fail
    go_ret
    exact ⟨_, rfl, .inl (by decide), Below.refl _ _⟩
  have g1 : decide (left - (l.length : Int) < 0) = false := decide_eq_false hbig
  have hl2 : l.length ≤ 1048576 := by omega
  go_enter Tryd.func4, Tryd.ntmps4
  go_wp2_with fail
  go_loopg [1, 5] l.length (fun gh s1 s5 wr => ∃ (k : Nat) (q : Int), Hid (gh = l.length - k) ∧ s5 = .int .i64 k ∧ s1 = .int .i64 q ∧ k ≤ l.length ∧ 0 ≤ q ∧ q ≤ 1048576 ∧ Hid (q + (tot l k : Int) ≤ 1048576) ∧ Below w.heap.size w wr)
  case atStart => exact ⟨0, _, rfl, rfl, rfl, by omega, by omega, by omega, (by show _ + ((0 : Nat) : Int) ≤ _; omega), Below.refl _ _⟩
  case round =>
    obtain ⟨k, q, hg, rfl, rfl, hk, hq0, hq1, hall, hbel⟩ := hrel
    by_cases hlt : k < l.length
    · have hltI : (k : Int) < (l.length : Int) := by omega
      obtain ⟨f0, f1, va, vc, f2, hc⟩ := (unhide HR) wr hbel k hlt
      have HQ := hide (sz2_any (l.getD k zero) va vc q wr hc hq0 hq1)
      have htk := hide (show tot l (k + 1) = tot l k + (l.getD k zero).val.length from rfl)
      have HALL := hide hall.out
      clear hc hlt
      generalize l.getD k zero = n at *
      go_wp2_with fail
      refine (unhide HQ).mono ?_
      rintro e w1 ⟨r, rfl, hr, hb1⟩
      have B1 : Below w.heap.size w w1 := hbel.trans (hb1.mono hbel.size)
      clear HQ hb1 f0 f1 f2
      rcases hr with hr | ⟨hr0, hr1⟩
      · subst hr
        go_wp2_with fail
        go_ret
        exact ⟨_, rfl, .inl (by decide), B1⟩
      · have g2 : decide (r < 0) = false := decide_eq_false (by omega)
        have hn2 := hide (show r + (tot l (k + 1) : Int) ≤ 1048576 by rw [unhide htk]; have := unhide HALL; push_cast; omega)
        go_wp2_with fail
        go_roundg (l.length - (k + 1))
        case rel => exact ⟨k + 1, r, rfl, by go_num, rfl, by omega, hr0, by omega, unhide hn2, B1⟩
        case measure => have := hg.out; omega
    · have hke : k = l.length := by omega
      have fin := hide (show tot l l.length ≤ 1048576 by have := hall.out; rw [hke] at this; omega)
      clear hke
      go_wp2_with fail
      go_ret
      exact ⟨_, rfl, .inr ⟨hq0, hl2, unhide fin⟩, hbel⟩
theorem sz2_arg (a : Option Addr) (cap : Nat) (l : List Ic) (left : Int) (w : World) (h : Arg w a cap l) (h0 : 0 ≤ left) (h1 : left ≤ 1048576) :
    Calls Tryd.prog 4 #[.slice a l.length cap, .int .i64 left] w fun e w' => ∃ r : Int, e = .returned (.int .i64 r) ∧ (r < 0 ∨ (0 ≤ r ∧ l.length ≤ 1048576 ∧ tot l l.length ≤ 1048576)) ∧ Below w.heap.size w w' := by
  have hA := h
  obtain ⟨c1, c2, c3, rfl | ⟨b, off, rfl, hb, hr⟩⟩ := h
  · refine (szS_none a cap left w h0 h1).mono ?_
    rintro e w' ⟨rfl, hb⟩
    exact ⟨_, rfl, .inr ⟨h0, by simp, by show (0 : Nat) ≤ _; omega⟩, hb⟩
  · refine sz2S_any b off cap l left w (fun W hW i hi => ?_) c1 c2 h0 h1
    obtain ⟨_, _, _, h4 | ⟨b', off', e, _, hr'⟩⟩ := hA.below hW
    · subst h4; simp at hi
    · cases e; exact hr' i hi


/-- A row of instructions, each with a row of cells of its own. -/
def LaidRow (w : World) (B : Nat) (l : List Ic) : Prop := ∃ xs, Own w B 41 xs ∧ xs.length = l.length * 3 ∧ Laid w B xs l l.length
theorem LaidRow.row {w : World} {B : Nat} {l : List Ic} (h : LaidRow w B l) : Row w B l := by obtain ⟨xs, h1, _, h3⟩ := h; exact h3.row h1
theorem LaidRow.lt {w : World} {B : Nat} {l : List Ic} (h : LaidRow w B l) : B < w.heap.size := by obtain ⟨xs, h1, _⟩ := h; exact h1.lt
theorem LaidRow.below {w w' : World} {B : Nat} {l : List Ic} (h : LaidRow w B l) (hb : Below w.heap.size w w') : LaidRow w' B l := by
  obtain ⟨xs, h1, h2, h3⟩ := h
  exact ⟨xs, h1.below hb h1.lt, h2, h3.below hb⟩
set_option maxRecDepth 100000 in
set_option maxHeartbeats 2000000 in
theorem toS2_any (b off cap : Nat) (l : List Ic) (w : World) (hrow : ∀ W, Below w.heap.size w W → ∀ i, i < l.length → ArgAt W b (off + i * 3) (l.getD i zero)) (hcap : cap ≤ 9223372036854775807) (hl : l.length ≤ cap) (hn : l.length ≤ 1048576) (hv : ∀ i, i < l.length → (l.getD i zero).val.length ≤ 1048576) :
    Calls Tryd.prog 6 #[.slice (some ⟨b, off, none⟩) l.length cap] w fun e w' => e = .returned (.slice (some ⟨w.heap.size, 0, none⟩) l.length l.length) ∧ LaidRow w' w.heap.size l ∧ w.heap.size < w'.heap.size ∧ Below w.heap.size w w' := by
  have HR := hide hrow
  have HV := hide hv
  clear hrow hv
  have hmk := make_run l.length hn
  go_enter Tryd.func6, Tryd.ntmps6
  go_wp2_with fail
  go_loopg [4] l.length (fun gh s4 wr => ∃ (k : Nat) (xs : List Value), Hid (gh = l.length - k) ∧ s4 = .int .i64 k ∧ k ≤ l.length ∧ Own wr w.heap.size 41 xs ∧ Hid (xs.length = l.length * 3) ∧ Hid (Laid wr w.heap.size xs l k) ∧ Below w.heap.size w wr)
  case atStart => exact ⟨0, (mkW l.length).toList, rfl, rfl, by omega, ⟨_, heap_alloc_new _ _, rfl⟩, by simp [Hid, size_mk], fun i hi => absurd hi (by omega), (Below.refl _ _).alloc (Nat.le_refl _) _⟩
  case round =>
    clear hmk
    obtain ⟨k, xs, hg, rfl, hk, hown, hlen, hlaid, hbel⟩ := hrel
    by_cases hlt : k < l.length
    · have hltI : (k : Int) < (l.length : Int) := by omega
      obtain ⟨f0, f1, va, vc, f2, hc⟩ := (unhide HR) wr hbel k hlt
      have HQ := hide (to_any (l.getD k zero) va vc wr hc ((unhide HV) k hlt))
      obtain ⟨n, hn2⟩ : ∃ n, n = l.getD k zero := ⟨_, rfl⟩
      have HN := hide hn2
      rw [← hn2] at f0 f1 f2 HQ
      clear hn2 hc
      go_wp2_with fail
      refine (unhide HQ).mono ?_
      rintro e w1 ⟨g, rfl, hg1, ho1, hb1⟩
      have hown1 := hown.below hb1 hown.lt
      have hlaid1 := hlaid.out.below hb1
      have hwlt := hown.lt
      have hlen6 := hlen.out
      have hst := hide (hlaid1.step hlen6 hlt n (unhide HN) g (by omega) ho1)
      obtain ⟨v0, g0⟩ := some_of_lt (xs := xs) (j := k * 3) (by omega)
      have i0 := (hown1.cell (k * 3)).trans g0
      have z0 := hown1.frozen (k * 3)
      obtain ⟨v1, g1⟩ := some_of_lt (xs := xs) (j := k * 3 + 1) (by omega)
      have i1 := (hown1.cell (k * 3 + 1)).trans g1
      have z1 := hown1.frozen (k * 3 + 1)
      obtain ⟨v2, g2⟩ := some_of_lt (xs := xs) (j := k * 3 + 2) (by omega)
      have i2 := (hown1.cell (k * 3 + 2)).trans g2
      have z2 := hown1.frozen (k * 3 + 2)
      have HL6 := hide (show ((((xs.set (k * 3) (.int .i64 n.op)).set (k * 3 + 1) (.int .i64 n.arg)).set (k * 3 + 2) (.slice (some ⟨g, 0, none⟩) n.val.length n.val.length))).length = l.length * 3 by simp only [List.length_set]; exact hlen6)
      clear g0 g1 g2 f0 f1 f2 HQ hlaid1 ho1 hlen6
      go_wp2_with fail
      go_roundg (l.length - (k + 1))
      case rel => exact ⟨k + 1, _, rfl, by go_num, by omega, (((hown1.set _ _).set _ _).set _ _), unhide HL6, (((unhide hst).far _).far _).far _, ((((hbel.trans (hb1.mono hbel.size)).setCell (Nat.le_refl _) _).setCell (Nat.le_refl _) _).setCell (Nat.le_refl _) _)⟩
      case measure => have := hg.out; omega
    · have hke : k = l.length := by omega
      have fin := hide (show LaidRow wr w.heap.size l from ⟨xs, hown, hlen.out, by have := hlaid.out; rw [hke] at this; exact this⟩)
      have hlt2 := hown.lt
      clear hke
      go_wp2_with fail
      go_ret
      exact ⟨rfl, unhide fin, hlt2, hbel⟩
set_option maxHeartbeats 1000000 in
theorem toS2_none (a : Option Addr) (cap : Nat) (w : World) :
    Calls Tryd.prog 6 #[.slice a 0 cap] w fun e w' => e = .returned (.slice (some ⟨w.heap.size, 0, none⟩) 0 0) ∧ LaidRow w' w.heap.size [] ∧ w.heap.size < w'.heap.size ∧ Below w.heap.size w w' := by
  have hmk := make_run 0 (by omega)
  simp only [Int.natCast_zero] at hmk
  have HB := hide (fun o => (Below.refl w.heap.size w).alloc (Nat.le_refl _) o)
  go_enter Tryd.func6, Tryd.ntmps6
  go_wp2_with fail
  refine wp_loop_rounds 1 ?_
  rw [rounds_succ]
  go_wp2_with fail
  go_ret
  exact ⟨rfl, ⟨_, ⟨_, heap_alloc_new _ _, rfl⟩, by simp [size_mk], fun i hi => by simp at hi⟩, by simp, (unhide HB) _⟩
theorem to2_arg (a : Option Addr) (cap : Nat) (l : List Ic) (w : World) (h : Arg w a cap l) (hn : l.length ≤ 1048576) (hv : ∀ i, i < l.length → (l.getD i zero).val.length ≤ 1048576) :
    Calls Tryd.prog 6 #[.slice a l.length cap] w fun e w' => e = .returned (.slice (some ⟨w.heap.size, 0, none⟩) l.length l.length) ∧ LaidRow w' w.heap.size l ∧ w.heap.size < w'.heap.size ∧ Below w.heap.size w w' := by
  have hA := h
  obtain ⟨c1, c2, c3, rfl | ⟨b, off, rfl, hb, hr⟩⟩ := h
  · exact toS2_none a cap w
  · refine toS2_any b off cap l w (fun W hW i hi => ?_) c1 c2 hn hv
    obtain ⟨_, _, _, h4 | ⟨b', off', e, _, hr'⟩⟩ := hA.below hW
    · subst h4; simp at hi
    · cases e; exact hr' i hi


/-- Blocks of other types are kept. -/
def Kt (w w' : World) : Prop := ∀ (k : Nat) (c : Array Value) (t : TypeId), w.heap[k]? = some (Obj.cells c t (0, 0)) → t ≠ 41 → t ≠ 74 → w'.heap[k]? = w.heap[k]?
theorem Kt.refl (w : World) : Kt w w := fun _ _ _ _ _ _ => rfl
theorem Kt.trans {w w1 w2 : World} (h : Kt w w1) (k : Kt w1 w2) : Kt w w2 := fun b c t h1 h2 h3 => (k b c t ((h b c t h1 h2 h3).trans h1) h2 h3).trans (h b c t h1 h2 h3)
theorem Kt.own {w w' : World} (h : Kt w w') {b : Nat} {t : TypeId} {xs : List Value} (ho : Own w b t xs) (h1 : t ≠ 41) (h2 : t ≠ 74) : Own w' b t xs := by
  obtain ⟨c, q1, q2⟩ := ho
  exact ⟨c, (h b c t q1 h1 h2).trans q1, q2⟩
theorem Kt.set {w : World} {b : Nat} {xs : List Value} (ho : Own w b 41 xs) (j : Nat) (x : Value) : Kt w (w.setCell ⟨b, j, none⟩ x) := fun k c t h1 h2 _ => by
  refine heap_setCell_other _ ⟨b, j, none⟩ k x (fun e => ?_)
  obtain ⟨c', q1, _⟩ := ho
  have e : k = b := e
  rw [e, q1] at h1
  simp only [Option.some.injEq, Obj.cells.injEq] at h1
  exact h2 h1.2.1.symm
theorem Kt.but {w w' : World} {g : Nat} {m : List M.Cl} (ho : OwnG w g 74 m) (hb : But w.heap.size g w w') : Kt w w' := fun k c t h1 _ h3 => by
  refine hb.block k (Array.getElem?_eq_some_iff.1 h1).1 (fun e => ?_)
  obtain ⟨xs, ⟨c', q1, _⟩, _⟩ := ho
  rw [e, q1] at h1
  simp only [Option.some.injEq, Obj.cells.injEq] at h1
  exact h3 h1.2.1.symm
/-- The row while it is marked: its rows lie apart or are the same. -/
structure Mk (w wr : World) (b : Nat) (l : List Ic) (G : Nat → Nat) : Prop where
  bel : Below b w wr
  oth : Kt w wr
  row : ∃ xs, Own wr b 41 xs ∧ xs.length = l.length * 3 ∧ ∀ i, i < l.length → xs[i * 3 + 2]? = some (.slice (some ⟨G i, 0, none⟩) (l.getD i zero).val.length (l.getD i zero).val.length)
  apart : ∀ i, i < l.length → b < G i
  same : ∀ i j, i < l.length → j < l.length → G i = G j → (l.getD i zero).val.length = (l.getD j zero).val.length
  own : ∀ i, i < l.length → ∃ m : List M.Cl, m.length = (l.getD i zero).val.length ∧ OwnG wr (G i) 74 m
theorem Mk.first {w : World} {b : Nat} {l : List Ic} (h : LaidRow w b l) : ∃ G, Mk w w b l G := by
  obtain ⟨xs, h1, h2, h3⟩ := h
  obtain ⟨G, hG⟩ := Go.Deep.choose_lt h3
  refine ⟨G, ⟨Below.refl _ _, Kt.refl _, ⟨xs, h1, h2, fun i hi => (hG i hi).2.2.1⟩, fun i hi => (hG i hi).2.2.2.1, fun i j hi hj e => ?_, fun i hi => ⟨_, rfl, ((hG i hi).2.2.2.2).wide⟩⟩⟩
  obtain ⟨_, _, _, _, ⟨x1, o1, y1, _⟩⟩ := hG i hi
  obtain ⟨_, _, _, _, ⟨x2, o2, y2, _⟩⟩ := hG j hj
  obtain ⟨c1, q1, e1⟩ := o1
  obtain ⟨c2, q2, e2⟩ := o2
  rw [e, q2] at q1
  simp only [Option.some.injEq, Obj.cells.injEq] at q1
  have : x1 = x2 := by rw [← e1, ← e2, q1.1]
  rw [this] at y1
  omega
/-- One instruction's two numbers written. -/
theorem Mk.two {w wr : World} {b : Nat} {l : List Ic} {G : Nat → Nat} (h : Mk w wr b l G) (i : Nat) (x y : Value) : Mk w ((wr.setCell ⟨b, i * 3, none⟩ x).setCell ⟨b, i * 3 + 1, none⟩ y) b l G := by
  obtain ⟨xs, h1, h2, h3⟩ := h.row
  refine ⟨(h.bel.setCell (Nat.le_refl _) _).setCell (Nat.le_refl _) _, h.oth.trans ((Kt.set h1 _ _).trans (Kt.set (h1.set _ _) _ _)), ⟨(xs.set (i * 3) x).set (i * 3 + 1) y, (h1.set _ _).set _ _, by simpa using h2, fun j hj => ?_⟩, h.apart, h.same, fun j hj => ?_⟩
  · rw [List.getElem?_set_ne (by omega), List.getElem?_set_ne (by omega)]
    exact h3 j hj
  · obtain ⟨m, hm, xs', o1, o2⟩ := h.own j hj
    have hne := h.apart j hj
    exact ⟨m, hm, xs', own_far (own_far o1 (by omega) _) (by omega) _, o2⟩
/-- .. and its row. -/
theorem Mk.vals {w wr w2 : World} {b : Nat} {l : List Ic} {G : Nat → Nat} (h : Mk w wr b l G) (i : Nat) (hi : i < l.length) {m : List M.Cl} (hm : m.length = (l.getD i zero).val.length) (ho : OwnG w2 (G i) 74 m) (hb : But wr.heap.size (G i) wr w2) (hbs : b ≤ wr.heap.size) : Mk w w2 b l G := by
  have hne := h.apart i hi
  obtain ⟨xs, h1, h2, h3⟩ := h.row
  obtain ⟨m0, _, om0⟩ := h.own i hi
  refine ⟨h.bel.trans (hb.below hbs (by omega)), h.oth.trans (Kt.but om0 hb), ⟨xs, hb.own h1 h1.lt (by omega), h2, h3⟩, h.apart, h.same, fun j hj => ?_⟩
  by_cases e : G j = G i
  · exact ⟨m, by rw [hm]; exact h.same i j hi hj e.symm, by rw [e]; exact ho⟩
  · obtain ⟨m', hm', o'⟩ := h.own j hj
    exact ⟨m', hm', hb.ownG o' o'.lt e⟩
set_option maxRecDepth 100000 in
set_option maxHeartbeats 2000000 in
theorem mark_arg (b : Nat) (l : List Ic) (w : World) (h : LaidRow w b l) (hn : l.length ≤ 1048576) (ht : tot l l.length ≤ 1048576) :
    Calls Tryd.prog 10 #[.slice (some ⟨b, 0, none⟩) l.length l.length, .int .i64 1] w fun e w' => ∃ r : Int, e = .returned (.int .i64 r) ∧ 0 ≤ r ∧ Below b w w' ∧ Kt w w' := by
  obtain ⟨G, M0⟩ := Mk.first h
  have H0 := hide M0
  clear h M0
  go_enter Tryd.func10, Tryd.ntmps10
  go_wp2_with fail
  go_loopg [1, 5] l.length (fun gh s1 s5 wr => ∃ (k : Nat) (q : Int), Hid (gh = l.length - k) ∧ s5 = .int .i64 (k : Int) ∧ s1 = .int .i64 q ∧ k ≤ l.length ∧ 0 ≤ q ∧ q ≤ 1 + 2 * (k : Int) + 5 * (tot l k : Int) ∧ Hid (Mk w wr b l G))
  case atStart => exact ⟨0, 1, rfl, rfl, rfl, by omega, by omega, by show (1 : Int) ≤ 1 + 2 * ((0 : Nat) : Int) + 5 * ((0 : Nat) : Int); omega, unhide H0⟩
  case round =>
    obtain ⟨k, q, hg, rfl, rfl, hk, hq0, hq1, HM⟩ := hrel
    clear H0
    by_cases hlt : k < l.length
    · have hltI : (k : Int) < (l.length : Int) := by omega
      have hk0 : (0 : Int) ≤ (k : Int) := by omega
      have htk := tot_mono l k l.length hk
      have htk1 : tot l (k + 1) = tot l k + (l.getD k zero).val.length := rfl
      have htk2 := tot_mono l (k + 1) l.length hlt
      have HK := hide htk1
      obtain ⟨xs, h1, h2, h3⟩ := (unhide HM).row
      obtain ⟨v0, g0⟩ := some_of_lt (xs := xs) (j := k * 3) (by omega)
      obtain ⟨v1, g1⟩ := some_of_lt (xs := xs) (j := k * 3 + 1) (by omega)
      have c0 := (h1.cell (k * 3)).trans g0
      have z0 := h1.frozen (k * 3)
      have c1 : ∀ u, (wr.setCell ⟨b, k * 3, none⟩ u).cell? ⟨b, k * 3 + 1, none⟩ = some v1 := fun u => ((h1.set (k * 3) u).cell (k * 3 + 1)).trans (by rw [List.getElem?_set_ne (by omega)]; exact g1)
      have z1 : ∀ u, (wr.setCell ⟨b, k * 3, none⟩ u).frozen? ⟨b, k * 3 + 1, none⟩ = false := fun u => (h1.set (k * 3) u).frozen (k * 3 + 1)
      have c2 : ∀ u u', ((wr.setCell ⟨b, k * 3, none⟩ u).setCell ⟨b, k * 3 + 1, none⟩ u').cell? ⟨b, k * 3 + 2, none⟩ = some (.slice (some ⟨G k, 0, none⟩) (l.getD k zero).val.length (l.getD k zero).val.length) := fun u u' => (((h1.set (k * 3) u).set (k * 3 + 1) u').cell (k * 3 + 2)).trans (by rw [List.getElem?_set_ne (by omega), List.getElem?_set_ne (by omega)]; exact h3 k hlt)
      have hbs : b ≤ wr.heap.size := by have := h1.lt; omega
      have HM2 := hide (fun x y => (unhide HM).two k x y)
      have HLT := hide hlt
      obtain ⟨N, hN⟩ : ∃ N, N = (l.getD k zero).val.length := ⟨_, rfl⟩
      rw [← hN] at c2 htk1
      have HNN := hide hN
      have wq1 : IntKind.i64.wrap (q + 1) = q + 1 := IntWalk.i64_in _ ⟨by omega, by omega⟩
      have wq2 : IntKind.i64.wrap (q + 1 + 1) = q + 1 + 1 := IntWalk.i64_in _ ⟨by omega, by omega⟩
      have HCALL := hide (fun x y => show Calls Tryd.prog 24 #[.slice (some ⟨G k, 0, none⟩) N N, .int .i64 (q + 1 + 1)] ((wr.setCell ⟨b, k * 3, none⟩ x).setCell ⟨b, k * 3 + 1, none⟩ y) (fun e w' => e = .returned (.int .i64 (q + 1 + 1 + 5 * (N : Int))) ∧ Mk w w' b l G) from by
        obtain ⟨m, hm, om⟩ := ((unhide HM2) x y).own k (unhide HLT)
        have e1 : m.length = N := hm.trans hN.symm
        have := markCellS_any (G k) N m (q + 1 + 1) _ om (by omega) (by omega) (by omega) (by omega)
        rw [e1] at this
        refine this.mono ?_
        rintro e w' ⟨he, hown, hbut⟩
        exact ⟨he, ((unhide HM2) x y).vals k (unhide HLT) (by rw [marked_length]; exact hN) hown hbut (by simpa using hbs)⟩)
      clear HM h1 h2 h3 g0 g1 hN htk htk2 hlt
      go_wp2_with fail
      refine ((unhide HCALL) _ _).mono ?_
      rintro e w2 ⟨rfl, M2⟩
      have HM3 := hide M2
      clear M2 HCALL HM2 c0 z0 c1 z1 c2
      go_wp2_with fail
      go_roundg (l.length - (k + 1))
      case rel => exact ⟨k + 1, _, rfl, by go_num, rfl, by have := unhide HLT; omega, by omega, by rw [htk1]; push_cast; omega, unhide HM3⟩
      case measure => have := hg.out; have := unhide HLT; omega
    · have hltI : ¬ (k : Int) < (l.length : Int) := by omega
      go_wp2_with fail
      go_ret
      exact ⟨_, rfl, hq0, (unhide HM).bel, (unhide HM).oth⟩
end Ic

end Go.Proofs.YtgjbibkppofjfaaDoor

namespace Go.Proofs.YtgjbibkppofjfaaDoor
open Go.RowKit
set_option linter.unusedVariables false
set_option linter.unusedSimpArgs false


namespace Ic
/-- A row of instructions, each with a row of cells of its own, in blocks below E. -/
def LaidE (w : World) (B E : Nat) (l : List Ic) : Prop := ∃ xs, Own w B 41 xs ∧ xs.length = l.length * 3 ∧ ∀ i, i < l.length → ∃ g : Nat, xs[i * 3]? = some (.int .i64 (l.getD i zero).op) ∧ xs[i * 3 + 1]? = some (.int .i64 (l.getD i zero).arg) ∧ xs[i * 3 + 2]? = some (.slice (some ⟨g, 0, none⟩) (l.getD i zero).val.length (l.getD i zero).val.length) ∧ B < g ∧ g < E ∧ OwnRow w g 74 (l.getD i zero).val
theorem LaidE.of {w : World} {B : Nat} {l : List Ic} (h : LaidRow w B l) : LaidE w B w.heap.size l := by
  obtain ⟨xs, h1, h2, h3⟩ := h
  refine ⟨xs, h1, h2, fun i hi => ?_⟩
  obtain ⟨g, q0, q1, q2, q6, q7⟩ := h3 i hi
  exact ⟨g, q0, q1, q2, q6, by obtain ⟨ys, o, _⟩ := q7; exact o.lt, q7⟩
theorem LaidE.laid {w : World} {B E : Nat} {l : List Ic} (h : LaidE w B E l) : LaidRow w B l := by
  obtain ⟨xs, h1, h2, h3⟩ := h
  refine ⟨xs, h1, h2, fun i hi => ?_⟩
  obtain ⟨g, q0, q1, q2, q6, _, q7⟩ := h3 i hi
  exact ⟨g, q0, q1, q2, q6, q7⟩
theorem LaidE.row {w : World} {B E : Nat} {l : List Ic} (h : LaidE w B E l) : Row w B l := h.laid.row
theorem LaidE.lt {w : World} {B E : Nat} {l : List Ic} (h : LaidE w B E l) : B < w.heap.size := h.laid.lt
theorem LaidE.below {w w' : World} {B E : Nat} {l : List Ic} (h : LaidE w B E l) (hb : Below w.heap.size w w') : LaidE w' B E l := by
  obtain ⟨xs, h1, h2, h3⟩ := h
  refine ⟨xs, h1.below hb h1.lt, h2, fun i hi => ?_⟩
  obtain ⟨g, q0, q1, q2, q6, q8, ys, o, q7⟩ := h3 i hi
  exact ⟨g, q0, q1, q2, q6, q8, ys, o.below hb o.lt, q7⟩
/-- Blocks from E on are kept. -/
def KtE (E : Nat) (w w' : World) : Prop := ∀ k, E ≤ k → k < w.heap.size → w'.heap[k]? = w.heap[k]?
/-- The row while it is marked: its rows lie apart or are the same. -/
structure MkE (w wr : World) (b E : Nat) (l : List Ic) (G : Nat → Nat) : Prop where
  bel : Below b w wr
  oth : KtE E w wr
  bE : b < E
  row : ∃ xs, Own wr b 41 xs ∧ xs.length = l.length * 3 ∧ ∀ i, i < l.length → xs[i * 3 + 2]? = some (.slice (some ⟨G i, 0, none⟩) (l.getD i zero).val.length (l.getD i zero).val.length)
  apart : ∀ i, i < l.length → b < G i ∧ G i < E
  same : ∀ i j, i < l.length → j < l.length → G i = G j → (l.getD i zero).val.length = (l.getD j zero).val.length
  own : ∀ i, i < l.length → ∃ m : List M.Cl, m.length = (l.getD i zero).val.length ∧ OwnG wr (G i) 74 m
theorem MkE.first {w : World} {b E : Nat} {l : List Ic} (h : LaidE w b E l) (hE : b < E) : ∃ G, MkE w w b E l G := by
  obtain ⟨xs, h1, h2, h3⟩ := h
  obtain ⟨G, hG⟩ := Go.Deep.choose_lt h3
  refine ⟨G, ⟨Below.refl _ _, fun _ _ _ => rfl, hE, ⟨xs, h1, h2, fun i hi => (hG i hi).2.2.1⟩, fun i hi => ⟨(hG i hi).2.2.2.1, (hG i hi).2.2.2.2.1⟩, fun i j hi hj e => ?_, fun i hi => ⟨_, rfl, ((hG i hi).2.2.2.2.2).wide⟩⟩⟩
  obtain ⟨_, _, _, _, _, ⟨x1, o1, y1, _⟩⟩ := hG i hi
  obtain ⟨_, _, _, _, _, ⟨x2, o2, y2, _⟩⟩ := hG j hj
  obtain ⟨c1, q1, e1⟩ := o1
  obtain ⟨c2, q2, e2⟩ := o2
  rw [e, q2] at q1
  simp only [Option.some.injEq, Obj.cells.injEq] at q1
  have : x1 = x2 := by rw [← e1, ← e2, q1.1]
  rw [this] at y1
  omega
theorem MkE.one {w wr : World} {b E : Nat} {l : List Ic} {G : Nat → Nat} (h : MkE w wr b E l G) (i d : Nat) (hd : d < 2) (x : Value) : MkE w (wr.setCell ⟨b, i * 3 + d, none⟩ x) b E l G := by
  have hbE := h.bE
  obtain ⟨xs, h1, h2, h3⟩ := h.row
  refine ⟨h.bel.setCell (Nat.le_refl _) _, fun k q1 q2 => (heap_setCell_other _ ⟨b, i * 3 + d, none⟩ k x (by show k ≠ b; omega)).trans (h.oth k q1 q2), h.bE, ⟨xs.set (i * 3 + d) x, h1.set _ _, by simpa using h2, fun j hj => ?_⟩, h.apart, h.same, fun j hj => ?_⟩
  · rw [List.getElem?_set_ne (by omega)]
    exact h3 j hj
  · obtain ⟨m, hm, xs', o1, o2⟩ := h.own j hj
    have hne := (h.apart j hj).1
    exact ⟨m, hm, xs', own_far o1 (by omega) _, o2⟩
theorem MkE.two {w wr : World} {b E : Nat} {l : List Ic} {G : Nat → Nat} (h : MkE w wr b E l G) (i : Nat) (x y : Value) : MkE w ((wr.setCell ⟨b, i * 3, none⟩ x).setCell ⟨b, i * 3 + 1, none⟩ y) b E l G :=
  (h.one i 0 (by omega) x).one i 1 (by omega) y
/-- .. and its row. -/
theorem MkE.vals {w wr w2 : World} {b E : Nat} {l : List Ic} {G : Nat → Nat} (h : MkE w wr b E l G) (i : Nat) (hi : i < l.length) {m : List M.Cl} (hm : m.length = (l.getD i zero).val.length) (ho : OwnG w2 (G i) 74 m) (hb : But wr.heap.size (G i) wr w2) (hbs : b ≤ wr.heap.size) : MkE w w2 b E l G := by
  have hne := h.apart i hi
  have hsz := h.bel.size
  obtain ⟨xs, h1, h2, h3⟩ := h.row
  refine ⟨h.bel.trans (hb.below hbs (by omega)), fun k q1 q2 => (hb.block k (by omega) (by omega)).trans (h.oth k q1 q2), h.bE, ⟨xs, hb.own h1 h1.lt (by omega), h2, h3⟩, h.apart, h.same, fun j hj => ?_⟩
  by_cases e : G j = G i
  · exact ⟨m, by rw [hm]; exact h.same i j hi hj e.symm, by rw [e]; exact ho⟩
  · obtain ⟨m', hm', o'⟩ := h.own j hj
    exact ⟨m', hm', hb.ownG o' o'.lt e⟩
set_option maxRecDepth 100000 in
set_option maxHeartbeats 2000000 in
theorem mark_argE (b E : Nat) (l : List Ic) (w : World) (h : LaidE w b E l) (hE : b < E) (hn : l.length ≤ 1048576) (ht : tot l l.length ≤ 1048576) :
    Calls Tryd.prog 10 #[.slice (some ⟨b, 0, none⟩) l.length l.length, .int .i64 1] w fun e w' => ∃ r : Int, e = .returned (.int .i64 r) ∧ 0 ≤ r ∧ Below b w w' ∧ KtE E w w' := by
  obtain ⟨G, M0⟩ := MkE.first h hE
  have H0 := hide M0
  clear h M0 hE
  go_enter Tryd.func10, Tryd.ntmps10
  go_wp2_with fail
  go_loopg [1, 5] l.length (fun gh s1 s5 wr => ∃ (k : Nat) (q : Int), Hid (gh = l.length - k) ∧ s5 = .int .i64 (k : Int) ∧ s1 = .int .i64 q ∧ k ≤ l.length ∧ 0 ≤ q ∧ q ≤ 1 + 2 * (k : Int) + 5 * (tot l k : Int) ∧ Hid (MkE w wr b E l G))
  case atStart => exact ⟨0, 1, rfl, rfl, rfl, by omega, by omega, by show (1 : Int) ≤ 1 + 2 * ((0 : Nat) : Int) + 5 * ((0 : Nat) : Int); omega, unhide H0⟩
  case round =>
    obtain ⟨k, q, hg, rfl, rfl, hk, hq0, hq1, HM⟩ := hrel
    clear H0
    by_cases hlt : k < l.length
    · have hltI : (k : Int) < (l.length : Int) := by omega
      have hk0 : (0 : Int) ≤ (k : Int) := by omega
      have htk := tot_mono l k l.length hk
      have htk1 : tot l (k + 1) = tot l k + (l.getD k zero).val.length := rfl
      have htk2 := tot_mono l (k + 1) l.length hlt
      have HK := hide htk1
      obtain ⟨xs, h1, h2, h3⟩ := (unhide HM).row
      obtain ⟨v0, g0⟩ := some_of_lt (xs := xs) (j := k * 3) (by omega)
      obtain ⟨v1, g1⟩ := some_of_lt (xs := xs) (j := k * 3 + 1) (by omega)
      have c0 := (h1.cell (k * 3)).trans g0
      have z0 := h1.frozen (k * 3)
      have c1 : ∀ u, (wr.setCell ⟨b, k * 3, none⟩ u).cell? ⟨b, k * 3 + 1, none⟩ = some v1 := fun u => ((h1.set (k * 3) u).cell (k * 3 + 1)).trans (by rw [List.getElem?_set_ne (by omega)]; exact g1)
      have z1 : ∀ u, (wr.setCell ⟨b, k * 3, none⟩ u).frozen? ⟨b, k * 3 + 1, none⟩ = false := fun u => (h1.set (k * 3) u).frozen (k * 3 + 1)
      have c2 : ∀ u u', ((wr.setCell ⟨b, k * 3, none⟩ u).setCell ⟨b, k * 3 + 1, none⟩ u').cell? ⟨b, k * 3 + 2, none⟩ = some (.slice (some ⟨G k, 0, none⟩) (l.getD k zero).val.length (l.getD k zero).val.length) := fun u u' => (((h1.set (k * 3) u).set (k * 3 + 1) u').cell (k * 3 + 2)).trans (by rw [List.getElem?_set_ne (by omega), List.getElem?_set_ne (by omega)]; exact h3 k hlt)
      have hbs : b ≤ wr.heap.size := by have := h1.lt; omega
      have HM2 := hide (fun x y => (unhide HM).two k x y)
      have HLT := hide hlt
      obtain ⟨N, hN⟩ : ∃ N, N = (l.getD k zero).val.length := ⟨_, rfl⟩
      rw [← hN] at c2 htk1
      have HNN := hide hN
      have wq1 : IntKind.i64.wrap (q + 1) = q + 1 := IntWalk.i64_in _ ⟨by omega, by omega⟩
      have wq2 : IntKind.i64.wrap (q + 1 + 1) = q + 1 + 1 := IntWalk.i64_in _ ⟨by omega, by omega⟩
      have HCALL := hide (fun x y => show Calls Tryd.prog 24 #[.slice (some ⟨G k, 0, none⟩) N N, .int .i64 (q + 1 + 1)] ((wr.setCell ⟨b, k * 3, none⟩ x).setCell ⟨b, k * 3 + 1, none⟩ y) (fun e w' => e = .returned (.int .i64 (q + 1 + 1 + 5 * (N : Int))) ∧ MkE w w' b E l G) from by
        obtain ⟨m, hm, om⟩ := ((unhide HM2) x y).own k (unhide HLT)
        have e1 : m.length = N := hm.trans hN.symm
        have := markCellS_any (G k) N m (q + 1 + 1) _ om (by omega) (by omega) (by omega) (by omega)
        rw [e1] at this
        refine this.mono ?_
        rintro e w' ⟨he, hown, hbut⟩
        exact ⟨he, ((unhide HM2) x y).vals k (unhide HLT) (by rw [marked_length]; exact hN) hown hbut (by simpa using hbs)⟩)
      clear HM h1 h2 h3 g0 g1 hN htk htk2 hlt
      go_wp2_with fail
      refine ((unhide HCALL) _ _).mono ?_
      rintro e w2 ⟨rfl, M2⟩
      have HM3 := hide M2
      clear M2 HCALL HM2 c0 z0 c1 z1 c2
      go_wp2_with fail
      go_roundg (l.length - (k + 1))
      case rel => exact ⟨k + 1, _, rfl, by go_num, rfl, by have := unhide HLT; omega, by omega, by rw [htk1]; push_cast; omega, unhide HM3⟩
      case measure => have := hg.out; have := unhide HLT; omega
    · have hltI : ¬ (k : Int) < (l.length : Int) := by omega
      go_wp2_with fail
      go_ret
      exact ⟨_, rfl, hq0, (unhide HM).bel, (unhide HM).oth⟩
end Ic

end Go.Proofs.YtgjbibkppofjfaaDoor
