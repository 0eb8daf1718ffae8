/-
  A row of nodes of a core made of an argument: how great it is, its rows, and what marks leave of it.
-/
import Derived.Test.YtbaanpgbfncdnaaGreatQ08
import Derived.Test.YtbaanpgbfncdnaaGreatQ23
namespace Go.Proofs.YtbaanpgbfncdnaaGreat
open Go.RowKit
set_option linter.unusedVariables false
set_option linter.unusedSimpArgs false

namespace Co
/-- How many cells the first k instructions have. -/
def tot (l : List Co) : Nat → Nat
  | 0 => 0
  | k + 1 => tot l k + (l.getD k zero).val.length
theorem tot_mono (l : List Co) : ∀ k n, k ≤ n → tot l k ≤ tot l n := by
  intro k n h
  induction n with
  | zero => rw [show k = 0 by omega]; exact Nat.le_refl _
  | succ n ih =>
    by_cases e : k = n + 1
    · rw [e]; exact Nat.le_refl _
    · have := ih (by omega); rw [tot]; omega
theorem tot_one (l : List Co) (i : Nat) (hi : i < l.length) : (l.getD i zero).val.length ≤ tot l l.length := by
  have := tot_mono l (i + 1) l.length (by omega)
  rw [tot] at this
  omega
set_option maxHeartbeats 1000000 in
theorem sz2_any (c : Co) (va : Option Addr) (vc : Nat) (left : Int) (w : World) (hc : Cells w va vc c.val) (h0 : 0 ≤ left) (h1 : left ≤ 1048576) :
    Calls Tryz.prog 28 #[.agg #[.int .i64 c.op, .int .i64 c.a, .int .i64 c.b, .int .i64 c.c, .int .i64 c.num, .slice va c.val.length vc], .int .i64 left] w fun e w' => ∃ r : Int, e = .returned (.int .i64 r) ∧ (r = -1 ∨ (0 ≤ r ∧ r + c.val.length ≤ left)) ∧ Below w.heap.size w w' := by
  have HB := hide (fun o => (Below.refl w.heap.size w).alloc (Nat.le_refl _) o)
  have H := hide (fun o => _root_.Go.Proofs.YtbaanpgbfncdnaaGreat.sz_arg va vc c.val left (w.alloc o) (hc.below ((unhide HB) o)) h0 h1)
  clear hc
  go_enter Tryz.func28, Tryz.ntmps28
  go_wp2_with fail
  refine ((unhide H) _).mono ?_
  rintro e w1 ⟨r, rfl, hr, hb1⟩
  have B1 : Below w.heap.size w w1 := ((unhide HB) _).trans (hb1.mono (by simp))
  clear H hb1
  by_cases hneg : r < 0
  · have g1 : decide (r < 0) = true := decide_eq_true hneg
    go_wp2_with fail
    go_ret
    exact ⟨_, rfl, .inl rfl, B1⟩
  · have g1 : decide (r < 0) = false := decide_eq_false hneg
    have hr2 : 0 ≤ r ∧ r + c.val.length ≤ left := by
      rcases hr with hr | ⟨h2, h3⟩
      · exact absurd hr hneg
      · omega
    clear hr hneg
    go_wp2_with fail
    go_ret
    exact ⟨_, rfl, .inr hr2, B1⟩

set_option maxHeartbeats 2000000 in
theorem sz2S_any (b off cap : Nat) (l : List Co) (left : Int) (w : World) (hrow : ∀ W, Below w.heap.size w W → ∀ i, i < l.length → ArgAt W b (off + i * 6) (l.getD i zero)) (hcap : cap ≤ 9223372036854775807) (hl : l.length ≤ cap) (h0 : 0 ≤ left) (h1 : left ≤ 1048576) :
    Calls Tryz.prog 8 #[.slice (some ⟨b, off, none⟩) l.length cap, .int .i64 left] w fun e w' => ∃ r : Int, e = .returned (.int .i64 r) ∧ (r < 0 ∨ (0 ≤ r ∧ l.length ≤ 1048576 ∧ tot l l.length ≤ 1048576)) ∧ Below w.heap.size w w' := by
  have HR := hide hrow
  clear hrow
  by_cases hbig : left - (l.length : Int) < 0
  · have g1 : decide (left - (l.length : Int) < 0) = true := decide_eq_true hbig
    go_enter Tryz.func8, Tryz.ntmps8
    go_wp2_with fail
    go_ret
    exact ⟨_, rfl, .inl (by decide), Below.refl _ _⟩
  have g1 : decide (left - (l.length : Int) < 0) = false := decide_eq_false hbig
  have hl2 : l.length ≤ 1048576 := by omega
  go_enter Tryz.func8, Tryz.ntmps8
  go_wp2_with fail
  go_loopg [1, 5] l.length (fun gh s1 s5 wr => ∃ (k : Nat) (q : Int), Hid (gh = l.length - k) ∧ s5 = .int .i64 k ∧ s1 = .int .i64 q ∧ k ≤ l.length ∧ 0 ≤ q ∧ q ≤ 1048576 ∧ Hid (q + (tot l k : Int) ≤ 1048576) ∧ Below w.heap.size w wr)
  case atStart => exact ⟨0, _, rfl, rfl, rfl, by omega, by omega, by omega, (by show _ + ((0 : Nat) : Int) ≤ _; omega), Below.refl _ _⟩
  case round =>
    obtain ⟨k, q, hg, rfl, rfl, hk, hq0, hq1, hall, hbel⟩ := hrel
    by_cases hlt : k < l.length
    · have hltI : (k : Int) < (l.length : Int) := by omega
      obtain ⟨f0, f1, f2, f3, f4, va, vc, f5, hc⟩ := (unhide HR) wr hbel k hlt
      have HQ := hide (sz2_any (l.getD k zero) va vc q wr hc hq0 hq1)
      have htk := hide (show tot l (k + 1) = tot l k + (l.getD k zero).val.length from rfl)
      have HALL := hide hall.out
      clear hc hlt
      generalize l.getD k zero = n at *
      go_wp2_with fail
      refine (unhide HQ).mono ?_
      rintro e w1 ⟨r, rfl, hr, hb1⟩
      have B1 : Below w.heap.size w w1 := hbel.trans (hb1.mono hbel.size)
      clear HQ hb1 f0 f1 f2 f3 f4 f5
      rcases hr with hr | ⟨hr0, hr1⟩
      · subst hr
        go_wp2_with fail
        go_ret
        exact ⟨_, rfl, .inl (by decide), B1⟩
      · have g2 : decide (r < 0) = false := decide_eq_false (by omega)
        have hn2 := hide (show r + (tot l (k + 1) : Int) ≤ 1048576 by rw [unhide htk]; have := unhide HALL; push_cast; omega)
        go_wp2_with fail
        go_roundg (l.length - (k + 1))
        case rel => exact ⟨k + 1, r, rfl, by go_num, rfl, by omega, hr0, by omega, unhide hn2, B1⟩
        case measure => have := hg.out; omega
    · have hke : k = l.length := by omega
      have fin := hide (show tot l l.length ≤ 1048576 by have := hall.out; rw [hke] at this; omega)
      clear hke
      go_wp2_with fail
      go_ret
      exact ⟨_, rfl, .inr ⟨hq0, hl2, unhide fin⟩, hbel⟩
theorem sz2_arg (a : Option Addr) (cap : Nat) (l : List Co) (left : Int) (w : World) (h : Arg w a cap l) (h0 : 0 ≤ left) (h1 : left ≤ 1048576) :
    Calls Tryz.prog 8 #[.slice a l.length cap, .int .i64 left] w fun e w' => ∃ r : Int, e = .returned (.int .i64 r) ∧ (r < 0 ∨ (0 ≤ r ∧ l.length ≤ 1048576 ∧ tot l l.length ≤ 1048576)) ∧ Below w.heap.size w w' := by
  have hA := h
  obtain ⟨c1, c2, c3, rfl | ⟨b, off, rfl, hb, hr⟩⟩ := h
  · refine (szS_none a cap left w h0 h1).mono ?_
    rintro e w' ⟨rfl, hb⟩
    exact ⟨_, rfl, .inr ⟨h0, by simp, by show (0 : Nat) ≤ _; omega⟩, hb⟩
  · refine sz2S_any b off cap l left w (fun W hW i hi => ?_) c1 c2 h0 h1
    obtain ⟨_, _, _, h4 | ⟨b', off', e, _, hr'⟩⟩ := hA.below hW
    · subst h4; simp at hi
    · cases e; exact hr' i hi

/-- A row of nodes, each with a row of cells of its own, in blocks below E. -/
def LaidRow (w : World) (B E : Nat) (l : List Co) : Prop := ∃ xs, Own w B 47 xs ∧ xs.length = l.length * 6 ∧ ∀ i, i < l.length → ∃ g : Nat, xs[i * 6]? = some (.int .i64 (l.getD i zero).op) ∧ xs[i * 6 + 1]? = some (.int .i64 (l.getD i zero).a) ∧ xs[i * 6 + 2]? = some (.int .i64 (l.getD i zero).b) ∧ xs[i * 6 + 3]? = some (.int .i64 (l.getD i zero).c) ∧ xs[i * 6 + 4]? = some (.int .i64 (l.getD i zero).num) ∧ xs[i * 6 + 5]? = some (.slice (some ⟨g, 0, none⟩) (l.getD i zero).val.length (l.getD i zero).val.length) ∧ B < g ∧ g < E ∧ OwnRow w g 71 (l.getD i zero).val
theorem LaidRow.laid {w : World} {B E : Nat} {l : List Co} (h : LaidRow w B E l) : ∃ xs, Own w B 47 xs ∧ Laid w B xs l l.length := by
  obtain ⟨xs, h1, _, h3⟩ := h
  refine ⟨xs, h1, fun i hi => ?_⟩
  obtain ⟨g, q0, q1, q2, q3, q4, q5, q6, _, q7⟩ := h3 i hi
  exact ⟨g, q0, q1, q2, q3, q4, q5, q6, q7⟩
theorem LaidRow.of {w : World} {B : Nat} {xs : List Value} {l : List Co} (h1 : Own w B 47 xs) (h2 : xs.length = l.length * 6) (h3 : Laid w B xs l l.length) : LaidRow w B w.heap.size l := by
  refine ⟨xs, h1, h2, fun i hi => ?_⟩
  obtain ⟨g, q0, q1, q2, q3, q4, q5, q6, q7⟩ := h3 i hi
  exact ⟨g, q0, q1, q2, q3, q4, q5, q6, by obtain ⟨ys, o, _⟩ := q7; exact o.lt, q7⟩
theorem LaidRow.row {w : World} {B E : Nat} {l : List Co} (h : LaidRow w B E l) : Row w B l := by obtain ⟨xs, h1, h3⟩ := h.laid; exact h3.row h1
theorem LaidRow.lt {w : World} {B E : Nat} {l : List Co} (h : LaidRow w B E l) : B < w.heap.size := by obtain ⟨xs, h1, _⟩ := h; exact h1.lt
theorem LaidRow.below {w w' : World} {B E : Nat} {l : List Co} (h : LaidRow w B E l) (hb : Below w.heap.size w w') : LaidRow w' B E l := by
  obtain ⟨xs, h1, h2, h3⟩ := h
  refine ⟨xs, h1.below hb h1.lt, h2, fun i hi => ?_⟩
  obtain ⟨g, q0, q1, q2, q3, q4, q5, q6, q8, ys, o, q7⟩ := h3 i hi
  exact ⟨g, q0, q1, q2, q3, q4, q5, q6, q8, ys, o.below hb o.lt, q7⟩
set_option maxRecDepth 100000 in
set_option maxHeartbeats 2000000 in
theorem toS2_any (b off cap : Nat) (l : List Co) (w : World) (hrow : ∀ W, Below w.heap.size w W → ∀ i, i < l.length → ArgAt W b (off + i * 6) (l.getD i zero)) (hcap : cap ≤ 9223372036854775807) (hl : l.length ≤ cap) (hn : l.length ≤ 1048576) (hv : ∀ i, i < l.length → (l.getD i zero).val.length ≤ 1048576) :
    Calls Tryz.prog 10 #[.slice (some ⟨b, off, none⟩) l.length cap] w fun e w' => e = .returned (.slice (some ⟨w.heap.size, 0, none⟩) l.length l.length) ∧ LaidRow w' w.heap.size w'.heap.size l ∧ w.heap.size < w'.heap.size ∧ Below w.heap.size w w' := by
  have HR := hide hrow
  have HV := hide hv
  clear hrow hv
  have hmk := make_run l.length hn
  go_enter Tryz.func10, Tryz.ntmps10
  go_wp2_with fail
  go_loopg [4] l.length (fun gh s4 wr => ∃ (k : Nat) (xs : List Value), Hid (gh = l.length - k) ∧ s4 = .int .i64 k ∧ k ≤ l.length ∧ Own wr w.heap.size 47 xs ∧ Hid (xs.length = l.length * 6) ∧ Hid (Laid wr w.heap.size xs l k) ∧ Below w.heap.size w wr)
  case atStart => exact ⟨0, (mkW l.length).toList, rfl, rfl, by omega, ⟨_, heap_alloc_new _ _, rfl⟩, by simp [Hid, size_mk], fun i hi => absurd hi (by omega), (Below.refl _ _).alloc (Nat.le_refl _) _⟩
  case round =>
    clear hmk
    obtain ⟨k, xs, hg, rfl, hk, hown, hlen, hlaid, hbel⟩ := hrel
    by_cases hlt : k < l.length
    · have hltI : (k : Int) < (l.length : Int) := by omega
      obtain ⟨f0, f1, f2, f3, f4, va, vc, f5, hc⟩ := (unhide HR) wr hbel k hlt
      have HQ := hide (to_any (l.getD k zero) va vc wr hc ((unhide HV) k hlt))
      obtain ⟨n, hn2⟩ : ∃ n, n = l.getD k zero := ⟨_, rfl⟩
      have HN := hide hn2
      rw [← hn2] at f0 f1 f2 f3 f4 f5 HQ
      clear hn2 hc
      go_wp2_with fail
      refine (unhide HQ).mono ?_
      rintro e w1 ⟨g, rfl, hg1, ho1, hb1⟩
      have hown1 := hown.below hb1 hown.lt
      have hlaid1 := hlaid.out.below hb1
      have hwlt := hown.lt
      have hlen6 := hlen.out
      have hst := hide (hlaid1.step hlen6 hlt n (unhide HN) g (by omega) ho1)
      obtain ⟨v0, g0⟩ := some_of_lt (xs := xs) (j := k * 6) (by omega)
      have i0 := (hown1.cell (k * 6)).trans g0
      have z0 := hown1.frozen (k * 6)
      obtain ⟨v1, g1⟩ := some_of_lt (xs := xs) (j := k * 6 + 1) (by omega)
      have i1 := (hown1.cell (k * 6 + 1)).trans g1
      have z1 := hown1.frozen (k * 6 + 1)
      obtain ⟨v2, g2⟩ := some_of_lt (xs := xs) (j := k * 6 + 2) (by omega)
      have i2 := (hown1.cell (k * 6 + 2)).trans g2
      have z2 := hown1.frozen (k * 6 + 2)
      obtain ⟨v3, g3⟩ := some_of_lt (xs := xs) (j := k * 6 + 3) (by omega)
      have i3 := (hown1.cell (k * 6 + 3)).trans g3
      have z3 := hown1.frozen (k * 6 + 3)
      obtain ⟨v4, g4⟩ := some_of_lt (xs := xs) (j := k * 6 + 4) (by omega)
      have i4 := (hown1.cell (k * 6 + 4)).trans g4
      have z4 := hown1.frozen (k * 6 + 4)
      obtain ⟨v5, g5⟩ := some_of_lt (xs := xs) (j := k * 6 + 5) (by omega)
      have i5 := (hown1.cell (k * 6 + 5)).trans g5
      have z5 := hown1.frozen (k * 6 + 5)
      have HL6 := hide (show ((((((xs.set (k * 6) (.int .i64 n.op)).set (k * 6 + 1) (.int .i64 n.a)).set (k * 6 + 2) (.int .i64 n.b)).set (k * 6 + 3) (.int .i64 n.c)).set (k * 6 + 4) (.int .i64 n.num)).set (k * 6 + 5) (.slice (some ⟨g, 0, none⟩) n.val.length n.val.length)).length = l.length * 6 by simp only [List.length_set]; exact hlen6)
      clear g0 g1 g2 g3 g4 g5 f0 f1 f2 f3 f4 f5 HQ hlaid1 ho1 hlen6
      go_wp2_with fail
      go_roundg (l.length - (k + 1))
      case rel => exact ⟨k + 1, _, rfl, by go_num, by omega, ((((((hown1.set _ _).set _ _).set _ _).set _ _).set _ _).set _ _), unhide HL6, ((((((unhide hst).far _).far _).far _).far _).far _).far _, (((((((hbel.trans (hb1.mono hbel.size)).setCell (Nat.le_refl _) _).setCell (Nat.le_refl _) _).setCell (Nat.le_refl _) _).setCell (Nat.le_refl _) _).setCell (Nat.le_refl _) _).setCell (Nat.le_refl _) _)⟩
      case measure => have := hg.out; omega
    · have hke : k = l.length := by omega
      have fin := hide (LaidRow.of hown hlen.out (by have := hlaid.out; rw [hke] at this; exact this))
      have hlt2 := hown.lt
      clear hke
      go_wp2_with fail
      go_ret
      exact ⟨rfl, unhide fin, hlt2, hbel⟩
set_option maxHeartbeats 1000000 in
theorem toS2_none (a : Option Addr) (cap : Nat) (w : World) :
    Calls Tryz.prog 10 #[.slice a 0 cap] w fun e w' => e = .returned (.slice (some ⟨w.heap.size, 0, none⟩) 0 0) ∧ LaidRow w' w.heap.size w'.heap.size [] ∧ w.heap.size < w'.heap.size ∧ Below w.heap.size w w' := by
  have hmk := make_run 0 (by omega)
  simp only [Int.natCast_zero] at hmk
  have HB := hide (fun o => (Below.refl w.heap.size w).alloc (Nat.le_refl _) o)
  go_enter Tryz.func10, Tryz.ntmps10
  go_wp2_with fail
  refine wp_loop_rounds 1 ?_
  rw [rounds_succ]
  go_wp2_with fail
  go_ret
  exact ⟨rfl, ⟨_, ⟨_, heap_alloc_new _ _, rfl⟩, by simp [size_mk], fun i hi => by simp at hi⟩, by simp, (unhide HB) _⟩
theorem to2_arg (a : Option Addr) (cap : Nat) (l : List Co) (w : World) (h : Arg w a cap l) (hn : l.length ≤ 1048576) (hv : ∀ i, i < l.length → (l.getD i zero).val.length ≤ 1048576) :
    Calls Tryz.prog 10 #[.slice a l.length cap] w fun e w' => e = .returned (.slice (some ⟨w.heap.size, 0, none⟩) l.length l.length) ∧ LaidRow w' w.heap.size w'.heap.size l ∧ w.heap.size < w'.heap.size ∧ Below w.heap.size w w' := by
  have hA := h
  obtain ⟨c1, c2, c3, rfl | ⟨b, off, rfl, hb, hr⟩⟩ := h
  · exact toS2_none a cap w
  · refine toS2_any b off cap l w (fun W hW i hi => ?_) c1 c2 hn hv
    obtain ⟨_, _, _, h4 | ⟨b', off', e, _, hr'⟩⟩ := hA.below hW
    · subst h4; simp at hi
    · cases e; exact hr' i hi

/-- Blocks from E on are kept. -/
def Kt (E : Nat) (w w' : World) : Prop := ∀ k, E ≤ k → k < w.heap.size → w'.heap[k]? = w.heap[k]?
/-- The row while it is marked: its rows lie apart or are the same. -/
structure Mk (w wr : World) (b E : Nat) (l : List Co) (G : Nat → Nat) : Prop where
  bel : Below b w wr
  oth : Kt E w wr
  bE : b < E
  row : ∃ xs, Own wr b 47 xs ∧ xs.length = l.length * 6 ∧ ∀ i, i < l.length → xs[i * 6 + 5]? = some (.slice (some ⟨G i, 0, none⟩) (l.getD i zero).val.length (l.getD i zero).val.length)
  apart : ∀ i, i < l.length → b < G i ∧ G i < E
  same : ∀ i j, i < l.length → j < l.length → G i = G j → (l.getD i zero).val.length = (l.getD j zero).val.length
  own : ∀ i, i < l.length → ∃ m : List M.Cl, m.length = (l.getD i zero).val.length ∧ OwnG wr (G i) 71 m
theorem Mk.first {w : World} {b E : Nat} {l : List Co} (h : LaidRow w b E l) (hE : b < E) : ∃ G, Mk w w b E l G := by
  obtain ⟨xs, h1, h2, h3⟩ := h
  obtain ⟨G, hG⟩ := Go.Deep.choose_lt h3
  refine ⟨G, ⟨Below.refl _ _, fun _ _ _ => rfl, hE, ⟨xs, h1, h2, fun i hi => (hG i hi).2.2.2.2.2.1⟩, fun i hi => ⟨(hG i hi).2.2.2.2.2.2.1, (hG i hi).2.2.2.2.2.2.2.1⟩, fun i j hi hj e => ?_, fun i hi => ⟨_, rfl, ((hG i hi).2.2.2.2.2.2.2.2).wide⟩⟩⟩
  obtain ⟨_, _, _, _, _, _, _, _, ⟨x1, o1, y1, _⟩⟩ := hG i hi
  obtain ⟨_, _, _, _, _, _, _, _, ⟨x2, o2, y2, _⟩⟩ := hG j hj
  obtain ⟨c1, q1, e1⟩ := o1
  obtain ⟨c2, q2, e2⟩ := o2
  rw [e, q2] at q1
  simp only [Option.some.injEq, Obj.cells.injEq] at q1
  have : x1 = x2 := by rw [← e1, ← e2, q1.1]
  rw [this] at y1
  omega
/-- One number of a node written. -/
theorem Mk.one {w wr : World} {b E : Nat} {l : List Co} {G : Nat → Nat} (h : Mk w wr b E l G) (i d : Nat) (hd : d < 5) (x : Value) : Mk w (wr.setCell ⟨b, i * 6 + d, none⟩ x) b E l G := by
  have hbE := h.bE
  obtain ⟨xs, h1, h2, h3⟩ := h.row
  refine ⟨h.bel.setCell (Nat.le_refl _) _, fun k q1 q2 => (heap_setCell_other _ ⟨b, i * 6 + d, none⟩ k x (by show k ≠ b; omega)).trans (h.oth k q1 q2), h.bE, ⟨xs.set (i * 6 + d) x, h1.set _ _, by simpa using h2, fun j hj => ?_⟩, h.apart, h.same, fun j hj => ?_⟩
  · rw [List.getElem?_set_ne (by omega)]
    exact h3 j hj
  · obtain ⟨m, hm, xs', o1, o2⟩ := h.own j hj
    have hne := (h.apart j hj).1
    exact ⟨m, hm, xs', own_far o1 (by omega) _, o2⟩
theorem Mk.five {w wr : World} {b E : Nat} {l : List Co} {G : Nat → Nat} (h : Mk w wr b E l G) (i : Nat) (x0 x1 x2 x3 x4 : Value) : Mk w (((((wr.setCell ⟨b, i * 6, none⟩ x0).setCell ⟨b, i * 6 + 1, none⟩ x1).setCell ⟨b, i * 6 + 2, none⟩ x2).setCell ⟨b, i * 6 + 3, none⟩ x3).setCell ⟨b, i * 6 + 4, none⟩ x4) b E l G :=
  ((((h.one i 0 (by omega) x0).one i 1 (by omega) x1).one i 2 (by omega) x2).one i 3 (by omega) x3).one i 4 (by omega) x4
/-- .. and its row. -/
theorem Mk.vals {w wr w2 : World} {b E : Nat} {l : List Co} {G : Nat → Nat} (h : Mk w wr b E l G) (i : Nat) (hi : i < l.length) {m : List M.Cl} (hm : m.length = (l.getD i zero).val.length) (ho : OwnG w2 (G i) 71 m) (hb : But wr.heap.size (G i) wr w2) (hbs : b ≤ wr.heap.size) : Mk w w2 b E l G := by
  have hne := h.apart i hi
  have hsz := h.bel.size
  obtain ⟨xs, h1, h2, h3⟩ := h.row
  refine ⟨h.bel.trans (hb.below hbs (by omega)), fun k q1 q2 => (hb.block k (by omega) (by omega)).trans (h.oth k q1 q2), h.bE, ⟨xs, hb.own h1 h1.lt (by omega), h2, h3⟩, h.apart, h.same, fun j hj => ?_⟩
  by_cases e : G j = G i
  · exact ⟨m, by rw [hm]; exact h.same i j hi hj e.symm, by rw [e]; exact ho⟩
  · obtain ⟨m', hm', o'⟩ := h.own j hj
    exact ⟨m', hm', hb.ownG o' o'.lt e⟩
set_option maxRecDepth 100000 in
set_option maxHeartbeats 2000000 in
theorem mark_arg (b E : Nat) (l : List Co) (w : World) (h : LaidRow w b E l) (hE : b < E) (hn : l.length ≤ 1048576) (ht : tot l l.length ≤ 1048576) :
    Calls Tryz.prog 14 #[.slice (some ⟨b, 0, none⟩) l.length l.length, .int .i64 1] w fun e w' => ∃ r : Int, e = .returned (.int .i64 r) ∧ 0 ≤ r ∧ Below b w w' ∧ Kt E w w' := by
  obtain ⟨G, M0⟩ := Mk.first h hE
  have H0 := hide M0
  clear h M0 hE
  go_enter Tryz.func14, Tryz.ntmps14
  go_wp2_with fail
  go_loopg [1, 5] l.length (fun gh s1 s5 wr => ∃ (k : Nat) (q : Int), Hid (gh = l.length - k) ∧ s5 = .int .i64 (k : Int) ∧ s1 = .int .i64 q ∧ k ≤ l.length ∧ 0 ≤ q ∧ q ≤ 1 + 5 * (k : Int) + 5 * (tot l k : Int) ∧ Hid (Mk w wr b E l G))
  case atStart => exact ⟨0, 1, rfl, rfl, rfl, by omega, by omega, by show (1 : Int) ≤ 1 + 5 * ((0 : Nat) : Int) + 5 * ((0 : Nat) : Int); omega, unhide H0⟩
  case round =>
    obtain ⟨k, q, hg, rfl, rfl, hk, hq0, hq1, HM⟩ := hrel
    clear H0
    by_cases hlt : k < l.length
    · have hltI : (k : Int) < (l.length : Int) := by omega
      have hk0 : (0 : Int) ≤ (k : Int) := by omega
      have htk := tot_mono l k l.length hk
      have htk1 : tot l (k + 1) = tot l k + (l.getD k zero).val.length := rfl
      have htk2 := tot_mono l (k + 1) l.length hlt
      obtain ⟨xs, h1, h2, h3⟩ := (unhide HM).row
      obtain ⟨v0, g0⟩ := some_of_lt (xs := xs) (j := k * 6) (by omega)
      obtain ⟨v1, g1⟩ := some_of_lt (xs := xs) (j := k * 6 + 1) (by omega)
      obtain ⟨v2, g2⟩ := some_of_lt (xs := xs) (j := k * 6 + 2) (by omega)
      obtain ⟨v3, g3⟩ := some_of_lt (xs := xs) (j := k * 6 + 3) (by omega)
      obtain ⟨v4, g4⟩ := some_of_lt (xs := xs) (j := k * 6 + 4) (by omega)
      have c0 := (h1.cell (k * 6)).trans g0
      have c1 := (h1.cell (k * 6 + 1)).trans g1
      have c2 := (h1.cell (k * 6 + 2)).trans g2
      have c3 := (h1.cell (k * 6 + 3)).trans g3
      have c4 := (h1.cell (k * 6 + 4)).trans g4
      have c5 := (h1.cell (k * 6 + 5)).trans (h3 k hlt)
      have z0 := h1.frozen (k * 6)
      have z1 := h1.frozen (k * 6 + 1)
      have z2 := h1.frozen (k * 6 + 2)
      have z3 := h1.frozen (k * 6 + 3)
      have z4 := h1.frozen (k * 6 + 4)
      have hbs : b ≤ wr.heap.size := by have := h1.lt; omega
      have HM2 := hide (fun x0 x1 x2 x3 x4 => (unhide HM).five k x0 x1 x2 x3 x4)
      have HLT := hide hlt
      obtain ⟨N, hN⟩ : ∃ N, N = (l.getD k zero).val.length := ⟨_, rfl⟩
      rw [← hN] at c5 htk1
      have HNN := hide hN
      have HCALL := hide (fun x0 x1 x2 x3 x4 => show Calls Tryz.prog 32 #[.slice (some ⟨G k, 0, none⟩) N N, .int .i64 (q + 1 + 1 + 1 + 1 + 1)] (((((wr.setCell ⟨b, k * 6, none⟩ x0).setCell ⟨b, k * 6 + 1, none⟩ x1).setCell ⟨b, k * 6 + 2, none⟩ x2).setCell ⟨b, k * 6 + 3, none⟩ x3).setCell ⟨b, k * 6 + 4, none⟩ x4) (fun e w' => e = .returned (.int .i64 (q + 1 + 1 + 1 + 1 + 1 + 5 * (N : Int))) ∧ Mk w w' b E l G) from by
        obtain ⟨m, hm, om⟩ := ((unhide HM2) x0 x1 x2 x3 x4).own k (unhide HLT)
        have e1 : m.length = N := hm.trans hN.symm
        have := markCellS_any (G k) N m (q + 1 + 1 + 1 + 1 + 1) _ om (by omega) (by omega) (by omega) (by omega)
        rw [e1] at this
        refine this.mono ?_
        rintro e w' ⟨he, hown, hbut⟩
        exact ⟨he, ((unhide HM2) x0 x1 x2 x3 x4).vals k (unhide HLT) (by rw [marked_length]; exact hN) hown hbut (by simpa using hbs)⟩)
      have hqB : q ≤ 20000000 := by omega
      have wq1 : IntKind.i64.wrap (q + 1) = q + 1 := IntWalk.i64_in _ ⟨by omega, by omega⟩
      have wq2 : IntKind.i64.wrap (q + 1 + 1) = q + 1 + 1 := IntWalk.i64_in _ ⟨by omega, by omega⟩
      have wq3 : IntKind.i64.wrap (q + 1 + 1 + 1) = q + 1 + 1 + 1 := IntWalk.i64_in _ ⟨by omega, by omega⟩
      have wq4 : IntKind.i64.wrap (q + 1 + 1 + 1 + 1) = q + 1 + 1 + 1 + 1 := IntWalk.i64_in _ ⟨by omega, by omega⟩
      have wq5 : IntKind.i64.wrap (q + 1 + 1 + 1 + 1 + 1) = q + 1 + 1 + 1 + 1 + 1 := IntWalk.i64_in _ ⟨by omega, by omega⟩
      have HTK1 := hide htk1
      have HQ1 := hide hq1
      clear HM h1 h2 h3 g0 g1 g2 g3 g4 hN htk htk2 hlt htk1 hq1
      go_wp2_with fail
      refine ((unhide HCALL) _ _ _ _ _).mono ?_
      rintro e w2 ⟨rfl, M2⟩
      have HM3 := hide M2
      clear M2 HCALL HM2 c0 z0 c1 z1 c2 z2 c3 z3 c4 z4 c5
      go_wp2_with fail
      go_roundg (l.length - (k + 1))
      case rel => exact ⟨k + 1, _, rfl, by go_num, rfl, by have := unhide HLT; omega, by omega, by rw [unhide HTK1]; have := unhide HQ1; push_cast; omega, unhide HM3⟩
      case measure => have := hg.out; have := unhide HLT; omega
    · have hltI : ¬ (k : Int) < (l.length : Int) := by omega
      go_wp2_with fail
      go_ret
      exact ⟨_, rfl, hq0, (unhide HM).bel, (unhide HM).oth⟩
end Co

end Go.Proofs.YtbaanpgbfncdnaaGreat
