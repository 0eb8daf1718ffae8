/-
  A slice of nodes of a core that came in as an argument; laws.sz.., to.., eq.. over it.
  A row of nodes of a core made of an argument: how great it is, its rows, and what marks leave of it.
-/
import Derived.Test.YtkjmnkbiflkpdaaCorB
import Derived.Test.YtkjmnkbiflkpdaaArg
import Derived.Test.YtkjmnkbiflkpdaaMarkC
import Derived.ProofKit
import Derived.OpenShut
import Derived.Deep.Slices
import Derived.Deep.RegionWith
namespace Go.Proofs.Ytkjmnkbiflkpdaa
open Go.RowKit Go.ChangeShapes Go.WideShapes
set_option linter.unusedVariables false
set_option linter.unusedSimpArgs false


namespace Co
def ArgAt (w : World) (b o : Nat) (c : Co) : Prop := w.cell? ⟨b, o, none⟩ = some (.int .i64 c.op) ∧ w.cell? ⟨b, o + 1, none⟩ = some (.int .i64 c.a) ∧ w.cell? ⟨b, o + 2, none⟩ = some (.int .i64 c.b) ∧ w.cell? ⟨b, o + 3, none⟩ = some (.int .i64 c.c) ∧ w.cell? ⟨b, o + 4, none⟩ = some (.int .i64 c.num) ∧ ∃ (va : Option Addr) (vc : Nat), w.cell? ⟨b, o + 5, none⟩ = some (.slice va c.val.length vc) ∧ Cells w va vc c.val
def Arg (w : World) (a : Option Addr) (cap : Nat) (l : List Co) : Prop :=
  cap ≤ 9223372036854775807 ∧ l.length ≤ cap ∧ (∀ c ∈ l, c.ok) ∧ (l = [] ∨ ∃ b off, a = some ⟨b, off, none⟩ ∧ b < w.heap.size ∧ ∀ i, i < l.length → ArgAt w b (off + i * 6) (l.getD i zero))
theorem own_far {w : World} {b c j : Nat} {t : TypeId} {xs : List Value} (h : Own w b t xs) (hne : b ≠ c) (x : Value) : Own (w.setCell ⟨c, j, none⟩ x) b t xs := by
  obtain ⟨r, h1, h2⟩ := h
  exact ⟨r, (heap_setCell_other _ ⟨c, j, none⟩ b x hne).trans h1, h2⟩
theorem Arg.below {w w' : World} {a : Option Addr} {cap : Nat} {l : List Co} (h : Arg w a cap l) (hb : Below w.heap.size w w') : Arg w' a cap l := by
  obtain ⟨h1, h2, h3, h4⟩ := h
  refine ⟨h1, h2, h3, ?_⟩
  rcases h4 with h4 | ⟨b, off, e, hlt, hr⟩
  · exact .inl h4
  · refine .inr ⟨b, off, e, Nat.lt_of_lt_of_le hlt hb.size, fun i hi => ?_⟩
    obtain ⟨f0, f1, f2, f3, f4, va, vc, f5, hc⟩ := hr i hi
    exact ⟨(hb.cell hlt).trans f0, (hb.cell hlt).trans f1, (hb.cell hlt).trans f2, (hb.cell hlt).trans f3, (hb.cell hlt).trans f4, va, vc, (hb.cell hlt).trans f5, hc.below hb⟩

set_option maxHeartbeats 1000000 in
theorem sz_any (c : Co) (va : Option Addr) (vc : Nat) (left : Int) (w : World) (hc : Cells w va vc c.val) (h0 : 0 ≤ left) (h1 : left ≤ 1048576) :
    Calls Try.prog 20 #[.agg #[.int .i64 c.op, .int .i64 c.a, .int .i64 c.b, .int .i64 c.c, .int .i64 c.num, .slice va c.val.length vc], .int .i64 left] w fun e w' => ∃ r : Int, e = .returned (.int .i64 r) ∧ (r = -1 ∨ (0 ≤ r ∧ r ≤ left ∧ c.val.length ≤ 1048576)) ∧ Below w.heap.size w w' := by
  have HB := hide (fun o => (Below.refl w.heap.size w).alloc (Nat.le_refl _) o)
  have H := hide (fun o => sz_arg va vc c.val left (w.alloc o) (hc.below ((unhide HB) o)) h0 h1)
  clear hc
  go_enter Try.func20, Try.ntmps20
  go_wp2_with fail
  refine ((unhide H) _).mono ?_
  rintro e w1 ⟨r, rfl, hr, hb1⟩
  have B1 : Below w.heap.size w w1 := ((unhide HB) _).trans (hb1.mono (by simp))
  clear H hb1
  by_cases hneg : r < 0
  · have g1 : decide (r < 0) = true := decide_eq_true hneg
    go_wp2_with fail
    go_ret
    exact ⟨_, rfl, .inl rfl, B1⟩
  · have g1 : decide (r < 0) = false := decide_eq_false hneg
    have hr2 : 0 ≤ r ∧ r ≤ left ∧ c.val.length ≤ 1048576 := by
      rcases hr with hr | ⟨h2, h3⟩
      · exact absurd hr hneg
      · omega
    clear hr hneg
    go_wp2_with fail
    go_ret
    exact ⟨_, rfl, .inr hr2, B1⟩

set_option maxHeartbeats 2000000 in
theorem szS_any (b off cap : Nat) (l : List Co) (left : Int) (w : World) (hrow : ∀ W, Below w.heap.size w W → ∀ i, i < l.length → ArgAt W b (off + i * 6) (l.getD i zero)) (hcap : cap ≤ 9223372036854775807) (hl : l.length ≤ cap) (h0 : 0 ≤ left) (h1 : left ≤ 1048576) :
    Calls Try.prog 6 #[.slice (some ⟨b, off, none⟩) l.length cap, .int .i64 left] w fun e w' => ∃ r : Int, e = .returned (.int .i64 r) ∧ (r < 0 ∨ (0 ≤ r ∧ l.length ≤ 1048576 ∧ ∀ i, i < l.length → (l.getD i zero).val.length ≤ 1048576)) ∧ Below w.heap.size w w' := by
  have HR := hide hrow
  clear hrow
  by_cases hbig : left - (l.length : Int) < 0
  · have g1 : decide (left - (l.length : Int) < 0) = true := decide_eq_true hbig
    go_enter Try.func6, Try.ntmps6
    go_wp2_with fail
    go_ret
    exact ⟨_, rfl, .inl (by decide), Below.refl _ _⟩
  have g1 : decide (left - (l.length : Int) < 0) = false := decide_eq_false hbig
  have hl2 : l.length ≤ 1048576 := by omega
  go_enter Try.func6, Try.ntmps6
  go_wp2_with fail
  go_loopg [1, 5] l.length (fun gh s1 s5 wr => ∃ (k : Nat) (q : Int), Hid (gh = l.length - k) ∧ s5 = .int .i64 k ∧ s1 = .int .i64 q ∧ k ≤ l.length ∧ 0 ≤ q ∧ q ≤ 1048576 ∧ Hid (∀ i, i < k → (l.getD i zero).val.length ≤ 1048576) ∧ Below w.heap.size w wr)
  case atStart => exact ⟨0, _, rfl, rfl, rfl, by omega, by omega, by omega, fun i hi => absurd hi (by omega), Below.refl _ _⟩
  case round =>
    obtain ⟨k, q, hg, rfl, rfl, hk, hq0, hq1, hall, hbel⟩ := hrel
    by_cases hlt : k < l.length
    · have hltI : (k : Int) < (l.length : Int) := by omega
      obtain ⟨f0, f1, f2, f3, f4, va, vc, f5, hc⟩ := (unhide HR) wr hbel k hlt
      have HQ := hide (sz_any (l.getD k zero) va vc q wr hc hq0 hq1)
      have hnext : Hid ((l.getD k zero).val.length ≤ 1048576 → ∀ i, i < k + 1 → (l.getD i zero).val.length ≤ 1048576) := fun h i hi => by
        by_cases e : i = k
        · subst e; exact h
        · exact hall.out i (by omega)
      clear hc hlt
      generalize l.getD k zero = n at *
      go_wp2_with fail
      refine (unhide HQ).mono ?_
      rintro e w1 ⟨r, rfl, hr, hb1⟩
      have B1 : Below w.heap.size w w1 := hbel.trans (hb1.mono hbel.size)
      clear HQ hb1 f0 f1 f2 f3 f4 f5
      rcases hr with hr | ⟨hr0, hr1, hr2⟩
      · subst hr
        go_wp2_with fail
        go_ret
        exact ⟨_, rfl, .inl (by decide), B1⟩
      · have g2 : decide (r < 0) = false := decide_eq_false (by omega)
        have hn2 := hide (hnext.out hr2)
        clear hnext hr2
        go_wp2_with fail
        go_roundg (l.length - (k + 1))
        case rel => exact ⟨k + 1, r, rfl, by go_num, rfl, by omega, hr0, by omega, unhide hn2, B1⟩
        case measure => have := hg.out; omega
    · have hke : k = l.length := by omega
      have fin := hide (show ∀ i, i < l.length → (l.getD i zero).val.length ≤ 1048576 by rw [← hke]; exact hall.out)
      clear hke
      go_wp2_with fail
      go_ret
      exact ⟨_, rfl, .inr ⟨hq0, hl2, unhide fin⟩, hbel⟩
set_option maxHeartbeats 1000000 in
theorem szS_none (a : Option Addr) (cap : Nat) (left : Int) (w : World) (h0 : 0 ≤ left) (h1 : left ≤ 1048576) :
    Calls Try.prog 6 #[.slice a 0 cap, .int .i64 left] w fun e w' => e = .returned (.int .i64 left) ∧ Below w.heap.size w w' := by
  have g1 : decide (left < 0) = false := decide_eq_false (by omega)
  go_enter Try.func6, Try.ntmps6
  go_wp2_with fail
  refine wp_loop_rounds 1 ?_
  rw [rounds_succ]
  go_wp2_with fail
  go_ret
  exact ⟨by simp, Below.refl _ _⟩
theorem sz_arg (a : Option Addr) (cap : Nat) (l : List Co) (left : Int) (w : World) (h : Arg w a cap l) (h0 : 0 ≤ left) (h1 : left ≤ 1048576) :
    Calls Try.prog 6 #[.slice a l.length cap, .int .i64 left] w fun e w' => ∃ r : Int, e = .returned (.int .i64 r) ∧ (r < 0 ∨ (0 ≤ r ∧ l.length ≤ 1048576 ∧ ∀ i, i < l.length → (l.getD i zero).val.length ≤ 1048576)) ∧ Below w.heap.size w w' := by
  have hA := h
  obtain ⟨c1, c2, c3, rfl | ⟨b, off, rfl, hb, hr⟩⟩ := h
  · refine (szS_none a cap left w h0 h1).mono ?_
    rintro e w' ⟨rfl, hb⟩
    exact ⟨_, rfl, .inr ⟨h0, by simp, fun i hi => by simp at hi⟩, hb⟩
  · refine szS_any b off cap l left w (fun W hW i hi => ?_) c1 c2 h0 h1
    obtain ⟨_, _, _, h4 | ⟨b', off', e, _, hr'⟩⟩ := hA.below hW
    · subst h4; simp at hi
    · cases e; exact hr' i hi

set_option maxRecDepth 100000 in
set_option maxHeartbeats 1000000 in
theorem to_any (c : Co) (va : Option Addr) (vc : Nat) (w : World) (hc : Cells w va vc c.val) (hn : c.val.length ≤ 1048576) :
    Calls Try.prog 23 #[.agg #[.int .i64 c.op, .int .i64 c.a, .int .i64 c.b, .int .i64 c.c, .int .i64 c.num, .slice va c.val.length vc]] w fun e w' => ∃ g : Nat, e = .returned (.agg #[.int .i64 c.op, .int .i64 c.a, .int .i64 c.b, .int .i64 c.c, .int .i64 c.num, .slice (some ⟨g, 0, none⟩) c.val.length c.val.length]) ∧ w.heap.size ≤ g ∧ OwnRow w' g 82 c.val ∧ Below w.heap.size w w' := by
  obtain ⟨w3, hw3⟩ : ∃ w3, w3 = ((w.alloc (.cells #[.int .i64 c.op, .int .i64 c.a, .int .i64 c.b, .int .i64 c.c, .int .i64 c.num, .slice va c.val.length vc] 43)).alloc (.cells #[.int .i64 0, .int .i64 0, .int .i64 0, .int .i64 0, .int .i64 0, .slice none 0 0] 48)).alloc (.cells #[.int .i64 c.op, .int .i64 c.a, .int .i64 c.b, .int .i64 c.c, .int .i64 c.num, .slice none 0 0] 48) := ⟨_, rfl⟩
  have B3 : Below w.heap.size w w3 := by rw [hw3]; exact (((Below.refl _ _).alloc (Nat.le_refl _) _).alloc (by simp) _).alloc (by simp <;> omega) _
  have hs3 : w3.heap.size = w.heap.size + 3 := by rw [hw3]; simp
  have O2 : Own w3 (w.heap.size + 1) 48 [.int .i64 0, .int .i64 0, .int .i64 0, .int .i64 0, .int .i64 0, .slice none 0 0] := by
    rw [hw3]
    refine Own.alloc ⟨_, ?_, rfl⟩ _
    simpa using heap_alloc_new (w.alloc (.cells #[.int .i64 c.op, .int .i64 c.a, .int .i64 c.b, .int .i64 c.c, .int .i64 c.num, .slice va c.val.length vc] 43)) (.cells #[.int .i64 0, .int .i64 0, .int .i64 0, .int .i64 0, .int .i64 0, .slice none 0 0] 48)
  have O3 : Own w3 (w.heap.size + 2) 48 [.int .i64 c.op, .int .i64 c.a, .int .i64 c.b, .int .i64 c.c, .int .i64 c.num, .slice none 0 0] := by
    rw [hw3]
    refine ⟨_, ?_, rfl⟩
    simpa using heap_alloc_new ((w.alloc (.cells #[.int .i64 c.op, .int .i64 c.a, .int .i64 c.b, .int .i64 c.c, .int .i64 c.num, .slice va c.val.length vc] 43)).alloc (.cells #[.int .i64 0, .int .i64 0, .int .i64 0, .int .i64 0, .int .i64 0, .slice none 0 0] 48)) (.cells #[.int .i64 c.op, .int .i64 c.a, .int .i64 c.b, .int .i64 c.c, .int .i64 c.num, .slice none 0 0] 48)
  have HT := hide (_root_.Go.Proofs.Ytkjmnkbiflkpdaa.to_arg va vc c.val w3 (hc.below B3) hn)
  clear hc
  go_enter Try.func23, Try.ntmps23
  go_wp2_with fail
  rw [← hw3]
  clear hw3
  refine (unhide HT).mono ?_
  rintro e w4 ⟨rfl, ho4, hb4⟩
  have P2 := O2.below hb4 O2.lt
  have P3 := O3.below hb4 O3.lt
  have B4 : Below w.heap.size w w4 := B3.trans (hb4.mono B3.size)
  have hs4 := hb4.size
  have hro := ho4.row
  have hlt4 := ho4.lt
  have Q3 := hide (P3.set 5 (.slice (some ⟨w3.heap.size, 0, none⟩) c.val.length c.val.length))
  clear HT hb4 O2 O3 B3
  have a0 := P2.cell 0
  have y0 := P2.frozen 0
  have b0 := P3.cell 0
  have z0 := P3.frozen 0
  have a1 := P2.cell 1
  have y1 := P2.frozen 1
  have b1 := P3.cell 1
  have z1 := P3.frozen 1
  have a2 := P2.cell 2
  have y2 := P2.frozen 2
  have b2 := P3.cell 2
  have z2 := P3.frozen 2
  have a3 := P2.cell 3
  have y3 := P2.frozen 3
  have b3 := P3.cell 3
  have z3 := P3.frozen 3
  have a4 := P2.cell 4
  have y4 := P2.frozen 4
  have b4 := P3.cell 4
  have z4 := P3.frozen 4
  have a5 := P2.cell 5
  have y5 := P2.frozen 5
  have b5 := P3.cell 5
  have z5 := P3.frozen 5
  simp only [List.getElem?_cons_zero, List.getElem?_cons_succ] at a0 a1 a2 a3 a4 a5 b0 b1 b2 b3 b4 b5
  rw [hs3] at *
  have RX := hide (show Own (((((((w4.setCell ⟨w.heap.size + 1 + 1, 5, none⟩ (.slice (some ⟨w.heap.size + 3, 0, none⟩) c.val.length c.val.length)).setCell ⟨w.heap.size + 1, 0, none⟩ (.int .i64 c.op)).setCell ⟨w.heap.size + 1, 1, none⟩ (.int .i64 c.a)).setCell ⟨w.heap.size + 1, 2, none⟩ (.int .i64 c.b)).setCell ⟨w.heap.size + 1, 3, none⟩ (.int .i64 c.c)).setCell ⟨w.heap.size + 1, 4, none⟩ (.int .i64 c.num)).setCell ⟨w.heap.size + 1, 5, none⟩ (.slice (some ⟨w.heap.size + 3, 0, none⟩) c.val.length c.val.length)) (w.heap.size + 1) 48 _ from (((((((own_far P2 (by omega) _).set 0 (.int .i64 c.op)).set 1 (.int .i64 c.a)).set 2 (.int .i64 c.b)).set 3 (.int .i64 c.c)).set 4 (.int .i64 c.num)).set 5 (.slice (some ⟨w.heap.size + 3, 0, none⟩) c.val.length c.val.length)))
  have HRW := hide (show OwnRow (((((((w4.setCell ⟨w.heap.size + 1 + 1, 5, none⟩ (.slice (some ⟨w.heap.size + 3, 0, none⟩) c.val.length c.val.length)).setCell ⟨w.heap.size + 1, 0, none⟩ (.int .i64 c.op)).setCell ⟨w.heap.size + 1, 1, none⟩ (.int .i64 c.a)).setCell ⟨w.heap.size + 1, 2, none⟩ (.int .i64 c.b)).setCell ⟨w.heap.size + 1, 3, none⟩ (.int .i64 c.c)).setCell ⟨w.heap.size + 1, 4, none⟩ (.int .i64 c.num)).setCell ⟨w.heap.size + 1, 5, none⟩ (.slice (some ⟨w.heap.size + 3, 0, none⟩) c.val.length c.val.length)) (w.heap.size + 3) 82 c.val by
    obtain ⟨xs, ho, hw⟩ := ho4
    exact ⟨xs, (own_far (own_far (own_far (own_far (own_far (own_far (own_far ho (by omega) _) (by omega) _) (by omega) _) (by omega) _) (by omega) _) (by omega) _) (by omega) _), hw⟩)
  have HBL := hide (show Below w.heap.size w (((((((w4.setCell ⟨w.heap.size + 1 + 1, 5, none⟩ (.slice (some ⟨w.heap.size + 3, 0, none⟩) c.val.length c.val.length)).setCell ⟨w.heap.size + 1, 0, none⟩ (.int .i64 c.op)).setCell ⟨w.heap.size + 1, 1, none⟩ (.int .i64 c.a)).setCell ⟨w.heap.size + 1, 2, none⟩ (.int .i64 c.b)).setCell ⟨w.heap.size + 1, 3, none⟩ (.int .i64 c.c)).setCell ⟨w.heap.size + 1, 4, none⟩ (.int .i64 c.num)).setCell ⟨w.heap.size + 1, 5, none⟩ (.slice (some ⟨w.heap.size + 3, 0, none⟩) c.val.length c.val.length)) from (((((((B4.setCell (show w.heap.size ≤ w.heap.size + 1 + 1 by omega) _).setCell (show w.heap.size ≤ w.heap.size + 1 by omega) _).setCell (show w.heap.size ≤ w.heap.size + 1 by omega) _).setCell (show w.heap.size ≤ w.heap.size + 1 by omega) _).setCell (show w.heap.size ≤ w.heap.size + 1 by omega) _).setCell (show w.heap.size ≤ w.heap.size + 1 by omega) _).setCell (show w.heap.size ≤ w.heap.size + 1 by omega) _))
  clear P2 P3 ho4 hro Q3
  go_wp2_with fail
  have q0 := (unhide RX).cell 0
  have q1 := (unhide RX).cell 1
  have q2 := (unhide RX).cell 2
  have q3 := (unhide RX).cell 3
  have q4 := (unhide RX).cell 4
  have q5 := (unhide RX).cell 5
  simp only [List.set_cons_zero, List.set_cons_succ, List.getElem?_cons_zero, List.getElem?_cons_succ] at q0 q1 q2 q3 q4 q5
  clear a0 a1 a2 a3 a4 a5 b0 b1 b2 b3 b4 b5 y0 y1 y2 y3 y4 y5 z0 z1 z2 z3 z4 z5 RX
  generalize (((((((w4.setCell ⟨w.heap.size + 1 + 1, 5, none⟩ (.slice (some ⟨w.heap.size + 3, 0, none⟩) c.val.length c.val.length)).setCell ⟨w.heap.size + 1, 0, none⟩ (.int .i64 c.op)).setCell ⟨w.heap.size + 1, 1, none⟩ (.int .i64 c.a)).setCell ⟨w.heap.size + 1, 2, none⟩ (.int .i64 c.b)).setCell ⟨w.heap.size + 1, 3, none⟩ (.int .i64 c.c)).setCell ⟨w.heap.size + 1, 4, none⟩ (.int .i64 c.num)).setCell ⟨w.heap.size + 1, 5, none⟩ (.slice (some ⟨w.heap.size + 3, 0, none⟩) c.val.length c.val.length)) = W at *
  refine bodyPost_ret (v := .agg #[.int .i64 c.op, .int .i64 c.a, .int .i64 c.b, .int .i64 c.c, .int .i64 c.num, .slice (some ⟨w.heap.size + 3, 0, none⟩) c.val.length c.val.length]) (by simp [results, Try.results23, go_sem, q0, q1, q2, q3, q4, q5]; try rfl) rfl ⟨w.heap.size + 3, rfl, by omega, unhide HRW, unhide HBL⟩

theorem OwnRow.far {w : World} {b c j : Nat} {t : TypeId} {l : List M.Cl} (h : OwnRow w b t l) (hne : b ≠ c) (x : Value) : OwnRow (w.setCell ⟨c, j, none⟩ x) b t l := by
  obtain ⟨xs, h1, h2⟩ := h
  exact ⟨xs, own_far h1 hne x, h2⟩
/-- The first k nodes lie in the words xs, each with a row of its own behind the block B. -/
def Laid (w : World) (B : Nat) (xs : List Value) (l : List Co) (k : Nat) : Prop := ∀ i, i < k → ∃ g : Nat, xs[i * 6]? = some (.int .i64 (l.getD i zero).op) ∧ xs[i * 6 + 1]? = some (.int .i64 (l.getD i zero).a) ∧ xs[i * 6 + 2]? = some (.int .i64 (l.getD i zero).b) ∧ xs[i * 6 + 3]? = some (.int .i64 (l.getD i zero).c) ∧ xs[i * 6 + 4]? = some (.int .i64 (l.getD i zero).num) ∧ xs[i * 6 + 5]? = some (.slice (some ⟨g, 0, none⟩) (l.getD i zero).val.length (l.getD i zero).val.length) ∧ B < g ∧ OwnRow w g 82 (l.getD i zero).val
theorem Laid.below {w w' : World} {B : Nat} {xs : List Value} {l : List Co} {k : Nat} (h : Laid w B xs l k) (hb : Below w.heap.size w w') : Laid w' B xs l k := fun i hi => by
  obtain ⟨g, h0, h1, h2, h3, h4, h5, hg, ho⟩ := h i hi
  exact ⟨g, h0, h1, h2, h3, h4, h5, hg, ho.below hb ho.lt⟩
theorem Laid.far {w : World} {B j : Nat} {xs : List Value} {l : List Co} {k : Nat} (h : Laid w B xs l k) (x : Value) : Laid (w.setCell ⟨B, j, none⟩ x) B xs l k := fun i hi => by
  obtain ⟨g, h0, h1, h2, h3, h4, h5, hg, ho⟩ := h i hi
  exact ⟨g, h0, h1, h2, h3, h4, h5, hg, OwnRow.far ho (by omega) x⟩
theorem Laid.step {w : World} {B : Nat} {xs : List Value} {l : List Co} {k : Nat} (h : Laid w B xs l k) (hl : xs.length = l.length * 6) (hk : k < l.length) (n : Co) (hn : n = l.getD k zero) (g : Nat) (hg : B < g) (ho : OwnRow w g 82 n.val) : Laid w B ((((((xs.set (k * 6) (.int .i64 n.op)).set (k * 6 + 1) (.int .i64 n.a)).set (k * 6 + 2) (.int .i64 n.b)).set (k * 6 + 3) (.int .i64 n.c)).set (k * 6 + 4) (.int .i64 n.num)).set (k * 6 + 5) (.slice (some ⟨g, 0, none⟩) n.val.length n.val.length)) l (k + 1) := by
  intro i hi
  by_cases e : i = k
  · subst e
    refine ⟨g, ?_, ?_, ?_, ?_, ?_, ?_, hg, by rw [← hn]; exact ho⟩
    all_goals rw [← hn]
    all_goals simp only [List.getElem?_set, List.length_set]
    all_goals simp
    all_goals omega
  · obtain ⟨g', h0, h1, h2, h3, h4, h5, hg', ho'⟩ := h i (by omega)
    refine ⟨g', ?_, ?_, ?_, ?_, ?_, ?_, hg', ho'⟩
    · rw [List.getElem?_set_ne (by omega), List.getElem?_set_ne (by omega), List.getElem?_set_ne (by omega), List.getElem?_set_ne (by omega), List.getElem?_set_ne (by omega), List.getElem?_set_ne (by omega)]; exact h0
    · rw [List.getElem?_set_ne (by omega), List.getElem?_set_ne (by omega), List.getElem?_set_ne (by omega), List.getElem?_set_ne (by omega), List.getElem?_set_ne (by omega), List.getElem?_set_ne (by omega)]; exact h1
    · rw [List.getElem?_set_ne (by omega), List.getElem?_set_ne (by omega), List.getElem?_set_ne (by omega), List.getElem?_set_ne (by omega), List.getElem?_set_ne (by omega), List.getElem?_set_ne (by omega)]; exact h2
    · rw [List.getElem?_set_ne (by omega), List.getElem?_set_ne (by omega), List.getElem?_set_ne (by omega), List.getElem?_set_ne (by omega), List.getElem?_set_ne (by omega), List.getElem?_set_ne (by omega)]; exact h3
    · rw [List.getElem?_set_ne (by omega), List.getElem?_set_ne (by omega), List.getElem?_set_ne (by omega), List.getElem?_set_ne (by omega), List.getElem?_set_ne (by omega), List.getElem?_set_ne (by omega)]; exact h4
    · rw [List.getElem?_set_ne (by omega), List.getElem?_set_ne (by omega), List.getElem?_set_ne (by omega), List.getElem?_set_ne (by omega), List.getElem?_set_ne (by omega), List.getElem?_set_ne (by omega)]; exact h5
theorem Laid.row {w : World} {B : Nat} {xs : List Value} {l : List Co} (h : Laid w B xs l l.length) (ho : Own w B 48 xs) : Row w B l := fun i hi => by
  obtain ⟨g, h0, h1, h2, h3, h4, h5, hg, hr⟩ := h i hi
  exact ⟨(ho.cell _).trans h0, (ho.cell _).trans h1, (ho.cell _).trans h2, (ho.cell _).trans h3, (ho.cell _).trans h4, g, (ho.cell _).trans h5, hr.lt, hr.row⟩
theorem info : (Try.prog.info? 48).map (fun i => (i.zero, i.size, i.bytes)) = some (some (.agg #[.int .i64 0, .int .i64 0, .int .i64 0, .int .i64 0, .int .i64 0, .slice none 0 0]), 6, 64) := by kernel_rfl
def mkW (m : Nat) : Array Value := madeCells #[.int .i64 0, .int .i64 0, .int .i64 0, .int .i64 0, .int .i64 0, .slice none 0 0] (m * 6)
theorem size_mk (m : Nat) : (mkW m).size = m * 6 := by simp [mkW, size_madeCells]
theorem make_run (n : Nat) (hn : n ≤ 1048576) (w : World) :
    (Instr.makeSlice 27 (.int .i64 (n : Int)) (.int .i64 (n : Int))).run Try.prog w = .ok (.slice (some ⟨w.heap.size, 0, none⟩) n n) (w.alloc (.cells (mkW n) 48)) := by
  obtain ⟨i, hi, hz⟩ := Option.map_eq_some_iff.1 info
  simp only [Prod.mk.injEq] at hz
  obtain ⟨h1, h2, h3⟩ := hz
  have := run_make (P := Try.prog) w 27 48 i _ Try.underlying27 hi h1 .i64 .i64 (n : Int) (n : Int) (by omega) (by omega) (by rw [h3]; omega) (by omega)
  rw [this, h2]
  simp only [Int.toNat_natCast]
  rfl

set_option maxRecDepth 100000 in
set_option maxHeartbeats 2000000 in
theorem toS_any (b off cap : Nat) (l : List Co) (w : World) (hrow : ∀ W, Below w.heap.size w W → ∀ i, i < l.length → ArgAt W b (off + i * 6) (l.getD i zero)) (hcap : cap ≤ 9223372036854775807) (hl : l.length ≤ cap) (hn : l.length ≤ 1048576) (hv : ∀ i, i < l.length → (l.getD i zero).val.length ≤ 1048576) :
    Calls Try.prog 8 #[.slice (some ⟨b, off, none⟩) l.length cap] w fun e w' => e = .returned (.slice (some ⟨w.heap.size, 0, none⟩) l.length l.length) ∧ Row w' w.heap.size l ∧ w.heap.size < w'.heap.size ∧ Below w.heap.size w w' := by
  have HR := hide hrow
  have HV := hide hv
  clear hrow hv
  have hmk := make_run l.length hn
  go_enter Try.func8, Try.ntmps8
  go_wp2_with fail
  go_loopg [4] l.length (fun gh s4 wr => ∃ (k : Nat) (xs : List Value), Hid (gh = l.length - k) ∧ s4 = .int .i64 k ∧ k ≤ l.length ∧ Own wr w.heap.size 48 xs ∧ Hid (xs.length = l.length * 6) ∧ Hid (Laid wr w.heap.size xs l k) ∧ Below w.heap.size w wr)
  case atStart => exact ⟨0, (mkW l.length).toList, rfl, rfl, by omega, ⟨_, heap_alloc_new _ _, rfl⟩, by simp [Hid, size_mk], fun i hi => absurd hi (by omega), (Below.refl _ _).alloc (Nat.le_refl _) _⟩
  case round =>
    clear hmk
    obtain ⟨k, xs, hg, rfl, hk, hown, hlen, hlaid, hbel⟩ := hrel
    by_cases hlt : k < l.length
    · have hltI : (k : Int) < (l.length : Int) := by omega
      obtain ⟨f0, f1, f2, f3, f4, va, vc, f5, hc⟩ := (unhide HR) wr hbel k hlt
      have HQ := hide (to_any (l.getD k zero) va vc wr hc ((unhide HV) k hlt))
      obtain ⟨n, hn2⟩ : ∃ n, n = l.getD k zero := ⟨_, rfl⟩
      have HN := hide hn2
      rw [← hn2] at f0 f1 f2 f3 f4 f5 HQ
      clear hn2 hc
      go_wp2_with fail
      refine (unhide HQ).mono ?_
      rintro e w1 ⟨g, rfl, hg1, ho1, hb1⟩
      have hown1 := hown.below hb1 hown.lt
      have hlaid1 := hlaid.out.below hb1
      have hwlt := hown.lt
      have hlen6 := hlen.out
      have hst := hide (hlaid1.step hlen6 hlt n (unhide HN) g (by omega) ho1)
      obtain ⟨v0, g0⟩ := some_of_lt (xs := xs) (j := k * 6) (by omega)
      have i0 := (hown1.cell (k * 6)).trans g0
      have z0 := hown1.frozen (k * 6)
      obtain ⟨v1, g1⟩ := some_of_lt (xs := xs) (j := k * 6 + 1) (by omega)
      have i1 := (hown1.cell (k * 6 + 1)).trans g1
      have z1 := hown1.frozen (k * 6 + 1)
      obtain ⟨v2, g2⟩ := some_of_lt (xs := xs) (j := k * 6 + 2) (by omega)
      have i2 := (hown1.cell (k * 6 + 2)).trans g2
      have z2 := hown1.frozen (k * 6 + 2)
      obtain ⟨v3, g3⟩ := some_of_lt (xs := xs) (j := k * 6 + 3) (by omega)
      have i3 := (hown1.cell (k * 6 + 3)).trans g3
      have z3 := hown1.frozen (k * 6 + 3)
      obtain ⟨v4, g4⟩ := some_of_lt (xs := xs) (j := k * 6 + 4) (by omega)
      have i4 := (hown1.cell (k * 6 + 4)).trans g4
      have z4 := hown1.frozen (k * 6 + 4)
      obtain ⟨v5, g5⟩ := some_of_lt (xs := xs) (j := k * 6 + 5) (by omega)
      have i5 := (hown1.cell (k * 6 + 5)).trans g5
      have z5 := hown1.frozen (k * 6 + 5)
      have HL6 := hide (show (((((((xs.set (k * 6) (.int .i64 n.op)).set (k * 6 + 1) (.int .i64 n.a)).set (k * 6 + 2) (.int .i64 n.b)).set (k * 6 + 3) (.int .i64 n.c)).set (k * 6 + 4) (.int .i64 n.num)).set (k * 6 + 5) (.slice (some ⟨g, 0, none⟩) n.val.length n.val.length))).length = l.length * 6 by simp only [List.length_set]; exact hlen6)
      clear g0 g1 g2 g3 g4 g5 f0 f1 f2 f3 f4 f5 HQ hlaid1 ho1 hlen6
      go_wp2_with fail
      go_roundg (l.length - (k + 1))
      case rel => exact ⟨k + 1, _, rfl, by go_num, by omega, ((((((hown1.set _ _).set _ _).set _ _).set _ _).set _ _).set _ _), unhide HL6, ((((((unhide hst).far _).far _).far _).far _).far _).far _, (((((((hbel.trans (hb1.mono hbel.size)).setCell (Nat.le_refl _) _).setCell (Nat.le_refl _) _).setCell (Nat.le_refl _) _).setCell (Nat.le_refl _) _).setCell (Nat.le_refl _) _).setCell (Nat.le_refl _) _)⟩
      case measure => have := hg.out; omega
    · have hke : k = l.length := by omega
      have fin := hide (Laid.row (by have := hlaid.out; rw [hke] at this; exact this) hown)
      have hlt2 := hown.lt
      clear hke
      go_wp2_with fail
      go_ret
      exact ⟨rfl, unhide fin, hlt2, hbel⟩
set_option maxHeartbeats 1000000 in
theorem toS_none (a : Option Addr) (cap : Nat) (w : World) :
    Calls Try.prog 8 #[.slice a 0 cap] w fun e w' => e = .returned (.slice (some ⟨w.heap.size, 0, none⟩) 0 0) ∧ Row w' w.heap.size [] ∧ w.heap.size < w'.heap.size ∧ Below w.heap.size w w' := by
  have hmk := make_run 0 (by omega)
  simp only [Int.natCast_zero] at hmk
  have HB := hide (fun o => (Below.refl w.heap.size w).alloc (Nat.le_refl _) o)
  go_enter Try.func8, Try.ntmps8
  go_wp2_with fail
  refine wp_loop_rounds 1 ?_
  rw [rounds_succ]
  go_wp2_with fail
  go_ret
  exact ⟨rfl, fun i hi => by simp at hi, by simp, (unhide HB) _⟩
theorem to_arg (a : Option Addr) (cap : Nat) (l : List Co) (w : World) (h : Arg w a cap l) (hn : l.length ≤ 1048576) (hv : ∀ i, i < l.length → (l.getD i zero).val.length ≤ 1048576) :
    Calls Try.prog 8 #[.slice a l.length cap] w fun e w' => e = .returned (.slice (some ⟨w.heap.size, 0, none⟩) l.length l.length) ∧ Row w' w.heap.size l ∧ w.heap.size < w'.heap.size ∧ Below w.heap.size w w' := by
  have hA := h
  obtain ⟨c1, c2, c3, rfl | ⟨b, off, rfl, hb, hr⟩⟩ := h
  · exact toS_none a cap w
  · refine toS_any b off cap l w (fun W hW i hi => ?_) c1 c2 hn hv
    obtain ⟨_, _, _, h4 | ⟨b', off', e, _, hr'⟩⟩ := hA.below hW
    · subst h4; simp at hi
    · cases e; exact hr' i hi

set_option maxHeartbeats 1000000 in
theorem eq_same (n : Co) (g g' : Nat) (w : World) (hr : _root_.Go.Proofs.Ytkjmnkbiflkpdaa.Row w g 0 n.val) (hg : g < w.heap.size) (hr' : _root_.Go.Proofs.Ytkjmnkbiflkpdaa.Row w g' 0 n.val) (hg' : g' < w.heap.size) (hn : n.val.length ≤ 1048576) :
    Calls Try.prog 26 #[.agg #[.int .i64 n.op, .int .i64 n.a, .int .i64 n.b, .int .i64 n.c, .int .i64 n.num, .slice (some ⟨g, 0, none⟩) n.val.length n.val.length], .agg #[.int .i64 n.op, .int .i64 n.a, .int .i64 n.b, .int .i64 n.c, .int .i64 n.num, .slice (some ⟨g', 0, none⟩) n.val.length n.val.length]] w fun e w' => e = .returned (.bool true) ∧ Below w.heap.size w w' := by
  have HB := hide (fun o o' => ((Below.refl w.heap.size w).alloc (Nat.le_refl _) o).alloc (by simp) o')
  have H := hide (fun o o' => eqCellS_same g 0 n.val.length g' 0 n.val.length n.val ((w.alloc o).alloc o') (hr.below ((unhide HB) o o') hg) (by simp; omega) (hr'.below ((unhide HB) o o') hg') (by simp; omega) hn (Nat.le_refl _) (Nat.le_refl _))
  clear hr hr'
  go_enter Try.func26, Try.ntmps26
  go_wp2_with fail
  refine ((unhide H) _ _).mono ?_
  rintro e w1 ⟨rfl, hb1⟩
  go_wp2_with fail
  go_ret
  exact ⟨rfl, ((unhide HB) _ _).trans (hb1.mono (by simp <;> omega))⟩

set_option maxHeartbeats 2000000 in
theorem eqS_same (b b' : Nat) (l : List Co) (w : World) (hrow : Row w b l) (hb : b < w.heap.size) (hrow' : Row w b' l) (hb' : b' < w.heap.size) (hn : l.length ≤ 1048576) (hv : ∀ i, i < l.length → (l.getD i zero).val.length ≤ 1048576) :
    Calls Try.prog 11 #[.slice (some ⟨b, 0, none⟩) l.length l.length, .slice (some ⟨b', 0, none⟩) l.length l.length] w fun e w' => e = .returned (.bool true) ∧ Below w.heap.size w w' := by
  have HR := hide hrow
  have HR' := hide hrow'
  have HV := hide hv
  clear hrow hrow' hv
  go_enter Try.func11, Try.ntmps11
  go_wp2_with fail
  go_loopg [5] l.length (fun gh s5 wr => ∃ k : Nat, Hid (gh = l.length - k) ∧ s5 = .int .i64 k ∧ k ≤ l.length ∧ Below w.heap.size w wr)
  case atStart => exact ⟨0, rfl, rfl, by omega, Below.refl _ _⟩
  case round =>
    obtain ⟨k, hg, rfl, hk, hbel⟩ := hrel
    by_cases hlt : k < l.length
    · have hltI : (k : Int) < (l.length : Int) := by omega
      obtain ⟨f0, f1, f2, f3, f4, vg, f5, hvg, hvr⟩ := ((unhide HR).below hbel hb) k hlt
      obtain ⟨g0, g1, g2, g3, g4, vg', g5, hvg', hvr'⟩ := ((unhide HR').below hbel hb') k hlt
      have HQ := hide (fun W (hW : Below wr.heap.size wr W) => eq_same (l.getD k zero) vg vg' W (hvr.below hW hvg) (Nat.lt_of_lt_of_le hvg hW.size) (hvr'.below hW hvg') (Nat.lt_of_lt_of_le hvg' hW.size) ((unhide HV) k hlt))
      have BD : Below wr.heap.size wr wr.drew := (Below.refl _ _).drew
      clear hvr hvr' hlt
      generalize l.getD k zero = n at *
      go_wp2_with fail
      go_region_with (go_at_call 26; refine ((unhide HQ) _ BD).mono ?_; rintro e w1 ⟨rfl, hb1⟩)
      all_goals
        go_wp2_with fail
        go_roundg (l.length - (k + 1))
        case rel => exact ⟨k + 1, rfl, by go_num, by omega, hbel.drew.trans (hb1.mono (by exact hbel.size))⟩
        case measure => have := hg.out; omega
    · go_wp2_with fail
      go_ret
      exact ⟨rfl, hbel⟩

theorem cellsOf_ : Try.prog.cellsOf 43 = 6 := by kernel_rfl
theorem cellsI : Try.prog.cellsOf 2 = 1 := by kernel_rfl
theorem cellsV : Try.prog.cellsOf 41 = 1 := by kernel_rfl
section
variable {H : Type} {enc : TypeId × Value → H} {w : World} {base : Nat} {spare : Nat → Bool} {held : Bool}
set_option maxRecDepth 100000 in
theorem open_one {n : Nat} {cs : List Value} {x : DataW H × List MemPlace} (h : DataW.trod enc Try.prog w base spare held n 43 cs = some x) :
    ∃ (c : Co) (va : Option Addr) (vc : Nat), cs = [.int .i64 c.op, .int .i64 c.a, .int .i64 c.b, .int .i64 c.c, .int .i64 c.num, .slice va c.val.length vc] ∧ Cells w va vc c.val ∧ c.ok := by
  obtain ⟨xs, m, _, _, hl, hlen, hf⟩ := DataW.trod_struct Try.underlying43 h
  rw [cellsOf_] at hl
  match cs, hl, xs, hlen with
  | [c0, c1, c2, c3, c4, c5], _, [y0, y1, y2, y3, y4, y5], _ =>
    have a0 : DataW.trod enc Try.prog w base spare held m 2 (([c0, c1, c2, c3, c4, c5].drop 0).take (Try.prog.cellsOf 2)) = some y0 := hf 0 _ rfl
    rw [cellsI] at a0
    have h0 : DataW.trod enc Try.prog w base spare held m 2 [c0] = some y0 := a0
    have a1 : DataW.trod enc Try.prog w base spare held m 2 (([c0, c1, c2, c3, c4, c5].drop 1).take (Try.prog.cellsOf 2)) = some y1 := hf 1 _ rfl
    rw [cellsI] at a1
    have h1 : DataW.trod enc Try.prog w base spare held m 2 [c1] = some y1 := a1
    have a2 : DataW.trod enc Try.prog w base spare held m 2 (([c0, c1, c2, c3, c4, c5].drop 2).take (Try.prog.cellsOf 2)) = some y2 := hf 2 _ rfl
    rw [cellsI] at a2
    have h2 : DataW.trod enc Try.prog w base spare held m 2 [c2] = some y2 := a2
    have a3 : DataW.trod enc Try.prog w base spare held m 2 (([c0, c1, c2, c3, c4, c5].drop 3).take (Try.prog.cellsOf 2)) = some y3 := hf 3 _ rfl
    rw [cellsI] at a3
    have h3 : DataW.trod enc Try.prog w base spare held m 2 [c3] = some y3 := a3
    have a4 : DataW.trod enc Try.prog w base spare held m 2 (([c0, c1, c2, c3, c4, c5].drop 4).take (Try.prog.cellsOf 2)) = some y4 := hf 4 _ rfl
    rw [cellsI] at a4
    have h4 : DataW.trod enc Try.prog w base spare held m 2 [c4] = some y4 := a4
    have a5 : DataW.trod enc Try.prog w base spare held m 41 (([c0, c1, c2, c3, c4, c5].drop 5).take (Try.prog.cellsOf 41)) = some y5 := hf 5 _ rfl
    rw [cellsV] at a5
    have h5 : DataW.trod enc Try.prog w base spare held m 41 [c5] = some y5 := a5
    obtain ⟨n0, e0, _, w0⟩ := DataW.trod_int Try.underlying2 h0
    obtain ⟨n1, e1, _, w1⟩ := DataW.trod_int Try.underlying2 h1
    obtain ⟨n2, e2, _, w2⟩ := DataW.trod_int Try.underlying2 h2
    obtain ⟨n3, e3, _, w3⟩ := DataW.trod_int Try.underlying2 h3
    obtain ⟨n4, e4, _, w4⟩ := DataW.trod_int Try.underlying2 h4
    obtain ⟨va, len, vc, e5⟩ : ∃ va len vc, c5 = .slice va len vc := by
      rcases Go.Deep.open_slice Try.underlying41 h5 with ⟨hcs, _⟩ | ⟨ad, len', cap', m', n', D, Pl, hcs, _⟩
      · simp only [List.cons.injEq, and_true] at hcs
        exact ⟨_, _, _, hcs⟩
      · simp only [List.cons.injEq, and_true] at hcs
        exact ⟨_, _, _, hcs⟩
    subst e5
    obtain ⟨vl, hvl, hcl⟩ := open_cells h5 (fun p hp => DataW.trod_lt _ _ _ _ h5 p hp)
    simp only [List.cons.injEq, and_true] at e0 e1 e2 e3 e4
    subst e0 e1 e2 e3 e4 hvl
    exact ⟨⟨n0, n1, n2, n3, n4, vl⟩, va, vc, rfl, hcl, bounds_i64 w0, bounds_i64 w1, bounds_i64 w2, bounds_i64 w3, bounds_i64 w4, hcl.2.2.1⟩

set_option maxRecDepth 100000 in
theorem open_arg {a : Option Addr} {len cap fuel : Nat} {x : DataW H × List MemPlace} (h : DataW.trod enc Try.prog w base spare held fuel 22 [.slice a len cap] = some x) :
    ∃ l : List Co, l.length = len ∧ Arg w a cap l := by
  rcases Go.Deep.open_slice Try.underlying22 h with ⟨hcs, _⟩ | ⟨ad, len', cap', m, n, D, Pl, hcs, _, hl, hm, hmm, hx, hel⟩
  · simp only [List.cons.injEq, Value.slice.injEq, and_true] at hcs
    obtain ⟨rfl, rfl, rfl⟩ := hcs
    exact ⟨[], rfl, by omega, by simp, by simp, .inl rfl⟩
  · simp only [List.cons.injEq, Value.slice.injEq, and_true] at hcs
    obtain ⟨rfl, rfl, rfl⟩ := hcs
    unfold maxLen at hm
    rw [cellsOf_] at hel
    have hlm : len ≤ m := by rw [hmm]; split <;> omega
    have key : ∀ i, i < len → ∃ c : Co × Option Addr × Nat, w.cells? base (ad.add (i * 6)) 6 = some [.int .i64 c.1.op, .int .i64 c.1.a, .int .i64 c.1.b, .int .i64 c.1.c, .int .i64 c.1.num, .slice c.2.1 c.1.val.length c.2.2] ∧ Cells w c.2.1 c.2.2 c.1.val ∧ c.1.ok := by
      intro i hi
      obtain ⟨cs', h1, h2⟩ := hel i (by omega)
      obtain ⟨c, va, vc, rfl, hc, ho⟩ := open_one h2
      exact ⟨(c, va, vc), h1, hc, ho⟩
    haveI : Inhabited (Co × Option Addr × Nat) := ⟨(zero, none, 0)⟩
    obtain ⟨C, hC⟩ := Go.Deep.choose_lt key
    refine ⟨(List.range len).map (fun i => (C i).1), by simp, hm, by simpa using hl, ?_, ?_⟩
    · intro c hc
      simp only [List.mem_map, List.mem_range] at hc
      obtain ⟨i, hi, rfl⟩ := hc
      exact (hC i hi).2.2
    · by_cases h0 : len = 0
      · left; subst h0; rfl
      · right
        obtain ⟨b, off, spot⟩ := ad
        have c0 := (World.cells?_some (hC 0 (by omega)).1).2.2 0 (by omega)
        have hs : spot = none := by
          have := World.cell?_spot (c0.trans rfl)
          simpa [Addr.add] using this
        subst hs
        have hblk : b < w.heap.size := by
          have := block_lt_of_cell (c0.trans rfl)
          rw [add_plain, add_plain] at this
          exact this
        refine ⟨b, off, rfl, hblk, ?_⟩
        intro i hi
        have hi' : i < len := by simpa using hi
        have e : ((List.range len).map (fun i => (C i).1)).getD i zero = (C i).1 := by simp [List.getD_eq_getElem?_getD, hi']
        rw [e]
        have cc := (World.cells?_some (hC i hi').1).2.2
        simp only [add_plain] at cc
        exact ⟨cc 0 (by omega), cc 1 (by omega), cc 2 (by omega), cc 3 (by omega), cc 4 (by omega), (C i).2.1, (C i).2.2, cc 5 (by omega), (hC i hi').2.1⟩
end
end Co

end Go.Proofs.Ytkjmnkbiflkpdaa

namespace Go.Proofs.Ytkjmnkbiflkpdaa
open Go.RowKit
set_option linter.unusedVariables false
set_option linter.unusedSimpArgs false


namespace Co
/-- How many cells the first k instructions have. -/
def tot (l : List Co) : Nat → Nat
  | 0 => 0
  | k + 1 => tot l k + (l.getD k zero).val.length
theorem tot_mono (l : List Co) : ∀ k n, k ≤ n → tot l k ≤ tot l n := by
  intro k n h
  induction n with
  | zero => rw [show k = 0 by omega]; exact Nat.le_refl _
  | succ n ih =>
    by_cases e : k = n + 1
    · rw [e]; exact Nat.le_refl _
    · have := ih (by omega); rw [tot]; omega
theorem tot_one (l : List Co) (i : Nat) (hi : i < l.length) : (l.getD i zero).val.length ≤ tot l l.length := by
  have := tot_mono l (i + 1) l.length (by omega)
  rw [tot] at this
  omega
set_option maxHeartbeats 1000000 in
theorem sz2_any (c : Co) (va : Option Addr) (vc : Nat) (left : Int) (w : World) (hc : Cells w va vc c.val) (h0 : 0 ≤ left) (h1 : left ≤ 1048576) :
    Calls Try.prog 20 #[.agg #[.int .i64 c.op, .int .i64 c.a, .int .i64 c.b, .int .i64 c.c, .int .i64 c.num, .slice va c.val.length vc], .int .i64 left] w fun e w' => ∃ r : Int, e = .returned (.int .i64 r) ∧ (r = -1 ∨ (0 ≤ r ∧ r + c.val.length ≤ left)) ∧ Below w.heap.size w w' := by
  have HB := hide (fun o => (Below.refl w.heap.size w).alloc (Nat.le_refl _) o)
  have H := hide (fun o => _root_.Go.Proofs.Ytkjmnkbiflkpdaa.sz_arg va vc c.val left (w.alloc o) (hc.below ((unhide HB) o)) h0 h1)
  clear hc
  go_enter Try.func20, Try.ntmps20
  go_wp2_with fail
  refine ((unhide H) _).mono ?_
  rintro e w1 ⟨r, rfl, hr, hb1⟩
  have B1 : Below w.heap.size w w1 := ((unhide HB) _).trans (hb1.mono (by simp))
  clear H hb1
  by_cases hneg : r < 0
  · have g1 : decide (r < 0) = true := decide_eq_true hneg
    go_wp2_with fail
    go_ret
    exact ⟨_, rfl, .inl rfl, B1⟩
  · have g1 : decide (r < 0) = false := decide_eq_false hneg
    have hr2 : 0 ≤ r ∧ r + c.val.length ≤ left := by
      rcases hr with hr | ⟨h2, h3⟩
      · exact absurd hr hneg
      · omega
    clear hr hneg
    go_wp2_with fail
    go_ret
    exact ⟨_, rfl, .inr hr2, B1⟩

set_option maxHeartbeats 2000000 in
theorem sz2S_any (b off cap : Nat) (l : List Co) (left : Int) (w : World) (hrow : ∀ W, Below w.heap.size w W → ∀ i, i < l.length → ArgAt W b (off + i * 6) (l.getD i zero)) (hcap : cap ≤ 9223372036854775807) (hl : l.length ≤ cap) (h0 : 0 ≤ left) (h1 : left ≤ 1048576) :
    Calls Try.prog 6 #[.slice (some ⟨b, off, none⟩) l.length cap, .int .i64 left] w fun e w' => ∃ r : Int, e = .returned (.int .i64 r) ∧ (r < 0 ∨ (0 ≤ r ∧ l.length ≤ 1048576 ∧ tot l l.length ≤ 1048576)) ∧ Below w.heap.size w w' := by
  have HR := hide hrow
  clear hrow
  by_cases hbig : left - (l.length : Int) < 0
  · have g1 : decide (left - (l.length : Int) < 0) = true := decide_eq_true hbig
    go_enter Try.func6, Try.ntmps6
    go_wp2_with fail
    go_ret
    exact ⟨_, rfl, .inl (by decide), Below.refl _ _⟩
  have g1 : decide (left - (l.length : Int) < 0) = false := decide_eq_false hbig
  have hl2 : l.length ≤ 1048576 := by omega
  go_enter Try.func6, Try.ntmps6
  go_wp2_with fail
  go_loopg [1, 5] l.length (fun gh s1 s5 wr => ∃ (k : Nat) (q : Int), Hid (gh = l.length - k) ∧ s5 = .int .i64 k ∧ s1 = .int .i64 q ∧ k ≤ l.length ∧ 0 ≤ q ∧ q ≤ 1048576 ∧ Hid (q + (tot l k : Int) ≤ 1048576) ∧ Below w.heap.size w wr)
  case atStart => exact ⟨0, _, rfl, rfl, rfl, by omega, by omega, by omega, (by show _ + ((0 : Nat) : Int) ≤ _; omega), Below.refl _ _⟩
  case round =>
    obtain ⟨k, q, hg, rfl, rfl, hk, hq0, hq1, hall, hbel⟩ := hrel
    by_cases hlt : k < l.length
    · have hltI : (k : Int) < (l.length : Int) := by omega
      obtain ⟨f0, f1, f2, f3, f4, va, vc, f5, hc⟩ := (unhide HR) wr hbel k hlt
      have HQ := hide (sz2_any (l.getD k zero) va vc q wr hc hq0 hq1)
      have htk := hide (show tot l (k + 1) = tot l k + (l.getD k zero).val.length from rfl)
      have HALL := hide hall.out
      clear hc hlt
      generalize l.getD k zero = n at *
      go_wp2_with fail
      refine (unhide HQ).mono ?_
      rintro e w1 ⟨r, rfl, hr, hb1⟩
      have B1 : Below w.heap.size w w1 := hbel.trans (hb1.mono hbel.size)
      clear HQ hb1 f0 f1 f2 f3 f4 f5
      rcases hr with hr | ⟨hr0, hr1⟩
      · subst hr
        go_wp2_with fail
        go_ret
        exact ⟨_, rfl, .inl (by decide), B1⟩
      · have g2 : decide (r < 0) = false := decide_eq_false (by omega)
        have hn2 := hide (show r + (tot l (k + 1) : Int) ≤ 1048576 by rw [unhide htk]; have := unhide HALL; push_cast; omega)
        go_wp2_with fail
        go_roundg (l.length - (k + 1))
        case rel => exact ⟨k + 1, r, rfl, by go_num, rfl, by omega, hr0, by omega, unhide hn2, B1⟩
        case measure => have := hg.out; omega
    · have hke : k = l.length := by omega
      have fin := hide (show tot l l.length ≤ 1048576 by have := hall.out; rw [hke] at this; omega)
      clear hke
      go_wp2_with fail
      go_ret
      exact ⟨_, rfl, .inr ⟨hq0, hl2, unhide fin⟩, hbel⟩
theorem sz2_arg (a : Option Addr) (cap : Nat) (l : List Co) (left : Int) (w : World) (h : Arg w a cap l) (h0 : 0 ≤ left) (h1 : left ≤ 1048576) :
    Calls Try.prog 6 #[.slice a l.length cap, .int .i64 left] w fun e w' => ∃ r : Int, e = .returned (.int .i64 r) ∧ (r < 0 ∨ (0 ≤ r ∧ l.length ≤ 1048576 ∧ tot l l.length ≤ 1048576)) ∧ Below w.heap.size w w' := by
  have hA := h
  obtain ⟨c1, c2, c3, rfl | ⟨b, off, rfl, hb, hr⟩⟩ := h
  · refine (szS_none a cap left w h0 h1).mono ?_
    rintro e w' ⟨rfl, hb⟩
    exact ⟨_, rfl, .inr ⟨h0, by simp, by show (0 : Nat) ≤ _; omega⟩, hb⟩
  · refine sz2S_any b off cap l left w (fun W hW i hi => ?_) c1 c2 h0 h1
    obtain ⟨_, _, _, h4 | ⟨b', off', e, _, hr'⟩⟩ := hA.below hW
    · subst h4; simp at hi
    · cases e; exact hr' i hi


/-- A row of nodes, each with a row of cells of its own, in blocks below E. -/
def LaidRow (w : World) (B E : Nat) (l : List Co) : Prop := ∃ xs, Own w B 48 xs ∧ xs.length = l.length * 6 ∧ ∀ i, i < l.length → ∃ g : Nat, xs[i * 6]? = some (.int .i64 (l.getD i zero).op) ∧ xs[i * 6 + 1]? = some (.int .i64 (l.getD i zero).a) ∧ xs[i * 6 + 2]? = some (.int .i64 (l.getD i zero).b) ∧ xs[i * 6 + 3]? = some (.int .i64 (l.getD i zero).c) ∧ xs[i * 6 + 4]? = some (.int .i64 (l.getD i zero).num) ∧ xs[i * 6 + 5]? = some (.slice (some ⟨g, 0, none⟩) (l.getD i zero).val.length (l.getD i zero).val.length) ∧ B < g ∧ g < E ∧ OwnRow w g 82 (l.getD i zero).val
theorem LaidRow.laid {w : World} {B E : Nat} {l : List Co} (h : LaidRow w B E l) : ∃ xs, Own w B 48 xs ∧ Laid w B xs l l.length := by
  obtain ⟨xs, h1, _, h3⟩ := h
  refine ⟨xs, h1, fun i hi => ?_⟩
  obtain ⟨g, q0, q1, q2, q3, q4, q5, q6, _, q7⟩ := h3 i hi
  exact ⟨g, q0, q1, q2, q3, q4, q5, q6, q7⟩
theorem LaidRow.of {w : World} {B : Nat} {xs : List Value} {l : List Co} (h1 : Own w B 48 xs) (h2 : xs.length = l.length * 6) (h3 : Laid w B xs l l.length) : LaidRow w B w.heap.size l := by
  refine ⟨xs, h1, h2, fun i hi => ?_⟩
  obtain ⟨g, q0, q1, q2, q3, q4, q5, q6, q7⟩ := h3 i hi
  exact ⟨g, q0, q1, q2, q3, q4, q5, q6, by obtain ⟨ys, o, _⟩ := q7; exact o.lt, q7⟩
theorem LaidRow.row {w : World} {B E : Nat} {l : List Co} (h : LaidRow w B E l) : Row w B l := by obtain ⟨xs, h1, h3⟩ := h.laid; exact h3.row h1
theorem LaidRow.lt {w : World} {B E : Nat} {l : List Co} (h : LaidRow w B E l) : B < w.heap.size := by obtain ⟨xs, h1, _⟩ := h; exact h1.lt
theorem LaidRow.below {w w' : World} {B E : Nat} {l : List Co} (h : LaidRow w B E l) (hb : Below w.heap.size w w') : LaidRow w' B E l := by
  obtain ⟨xs, h1, h2, h3⟩ := h
  refine ⟨xs, h1.below hb h1.lt, h2, fun i hi => ?_⟩
  obtain ⟨g, q0, q1, q2, q3, q4, q5, q6, q8, ys, o, q7⟩ := h3 i hi
  exact ⟨g, q0, q1, q2, q3, q4, q5, q6, q8, ys, o.below hb o.lt, q7⟩
set_option maxRecDepth 100000 in
set_option maxHeartbeats 2000000 in
theorem toS2_any (b off cap : Nat) (l : List Co) (w : World) (hrow : ∀ W, Below w.heap.size w W → ∀ i, i < l.length → ArgAt W b (off + i * 6) (l.getD i zero)) (hcap : cap ≤ 9223372036854775807) (hl : l.length ≤ cap) (hn : l.length ≤ 1048576) (hv : ∀ i, i < l.length → (l.getD i zero).val.length ≤ 1048576) :
    Calls Try.prog 8 #[.slice (some ⟨b, off, none⟩) l.length cap] w fun e w' => e = .returned (.slice (some ⟨w.heap.size, 0, none⟩) l.length l.length) ∧ LaidRow w' w.heap.size w'.heap.size l ∧ w.heap.size < w'.heap.size ∧ Below w.heap.size w w' := by
  have HR := hide hrow
  have HV := hide hv
  clear hrow hv
  have hmk := make_run l.length hn
  go_enter Try.func8, Try.ntmps8
  go_wp2_with fail
  go_loopg [4] l.length (fun gh s4 wr => ∃ (k : Nat) (xs : List Value), Hid (gh = l.length - k) ∧ s4 = .int .i64 k ∧ k ≤ l.length ∧ Own wr w.heap.size 48 xs ∧ Hid (xs.length = l.length * 6) ∧ Hid (Laid wr w.heap.size xs l k) ∧ Below w.heap.size w wr)
  case atStart => exact ⟨0, (mkW l.length).toList, rfl, rfl, by omega, ⟨_, heap_alloc_new _ _, rfl⟩, by simp [Hid, size_mk], fun i hi => absurd hi (by omega), (Below.refl _ _).alloc (Nat.le_refl _) _⟩
  case round =>
    clear hmk
    obtain ⟨k, xs, hg, rfl, hk, hown, hlen, hlaid, hbel⟩ := hrel
    by_cases hlt : k < l.length
    · have hltI : (k : Int) < (l.length : Int) := by omega
      obtain ⟨f0, f1, f2, f3, f4, va, vc, f5, hc⟩ := (unhide HR) wr hbel k hlt
      have HQ := hide (to_any (l.getD k zero) va vc wr hc ((unhide HV) k hlt))
      obtain ⟨n, hn2⟩ : ∃ n, n = l.getD k zero := ⟨_, rfl⟩
      have HN := hide hn2
      rw [← hn2] at f0 f1 f2 f3 f4 f5 HQ
      clear hn2 hc
      go_wp2_with fail
      refine (unhide HQ).mono ?_
      rintro e w1 ⟨g, rfl, hg1, ho1, hb1⟩
      have hown1 := hown.below hb1 hown.lt
      have hlaid1 := hlaid.out.below hb1
      have hwlt := hown.lt
      have hlen6 := hlen.out
      have hst := hide (hlaid1.step hlen6 hlt n (unhide HN) g (by omega) ho1)
      obtain ⟨v0, g0⟩ := some_of_lt (xs := xs) (j := k * 6) (by omega)
      have i0 := (hown1.cell (k * 6)).trans g0
      have z0 := hown1.frozen (k * 6)
      obtain ⟨v1, g1⟩ := some_of_lt (xs := xs) (j := k * 6 + 1) (by omega)
      have i1 := (hown1.cell (k * 6 + 1)).trans g1
      have z1 := hown1.frozen (k * 6 + 1)
      obtain ⟨v2, g2⟩ := some_of_lt (xs := xs) (j := k * 6 + 2) (by omega)
      have i2 := (hown1.cell (k * 6 + 2)).trans g2
      have z2 := hown1.frozen (k * 6 + 2)
      obtain ⟨v3, g3⟩ := some_of_lt (xs := xs) (j := k * 6 + 3) (by omega)
      have i3 := (hown1.cell (k * 6 + 3)).trans g3
      have z3 := hown1.frozen (k * 6 + 3)
      obtain ⟨v4, g4⟩ := some_of_lt (xs := xs) (j := k * 6 + 4) (by omega)
      have i4 := (hown1.cell (k * 6 + 4)).trans g4
      have z4 := hown1.frozen (k * 6 + 4)
      obtain ⟨v5, g5⟩ := some_of_lt (xs := xs) (j := k * 6 + 5) (by omega)
      have i5 := (hown1.cell (k * 6 + 5)).trans g5
      have z5 := hown1.frozen (k * 6 + 5)
      have HL6 := hide (show ((((((xs.set (k * 6) (.int .i64 n.op)).set (k * 6 + 1) (.int .i64 n.a)).set (k * 6 + 2) (.int .i64 n.b)).set (k * 6 + 3) (.int .i64 n.c)).set (k * 6 + 4) (.int .i64 n.num)).set (k * 6 + 5) (.slice (some ⟨g, 0, none⟩) n.val.length n.val.length)).length = l.length * 6 by simp only [List.length_set]; exact hlen6)
      clear g0 g1 g2 g3 g4 g5 f0 f1 f2 f3 f4 f5 HQ hlaid1 ho1 hlen6
      go_wp2_with fail
      go_roundg (l.length - (k + 1))
      case rel => exact ⟨k + 1, _, rfl, by go_num, by omega, ((((((hown1.set _ _).set _ _).set _ _).set _ _).set _ _).set _ _), unhide HL6, ((((((unhide hst).far _).far _).far _).far _).far _).far _, (((((((hbel.trans (hb1.mono hbel.size)).setCell (Nat.le_refl _) _).setCell (Nat.le_refl _) _).setCell (Nat.le_refl _) _).setCell (Nat.le_refl _) _).setCell (Nat.le_refl _) _).setCell (Nat.le_refl _) _)⟩
      case measure => have := hg.out; omega
    · have hke : k = l.length := by omega
      have fin := hide (LaidRow.of hown hlen.out (by have := hlaid.out; rw [hke] at this; exact this))
      have hlt2 := hown.lt
      clear hke
      go_wp2_with fail
      go_ret
      exact ⟨rfl, unhide fin, hlt2, hbel⟩
set_option maxHeartbeats 1000000 in
theorem toS2_none (a : Option Addr) (cap : Nat) (w : World) :
    Calls Try.prog 8 #[.slice a 0 cap] w fun e w' => e = .returned (.slice (some ⟨w.heap.size, 0, none⟩) 0 0) ∧ LaidRow w' w.heap.size w'.heap.size [] ∧ w.heap.size < w'.heap.size ∧ Below w.heap.size w w' := by
  have hmk := make_run 0 (by omega)
  simp only [Int.natCast_zero] at hmk
  have HB := hide (fun o => (Below.refl w.heap.size w).alloc (Nat.le_refl _) o)
  go_enter Try.func8, Try.ntmps8
  go_wp2_with fail
  refine wp_loop_rounds 1 ?_
  rw [rounds_succ]
  go_wp2_with fail
  go_ret
  exact ⟨rfl, ⟨_, ⟨_, heap_alloc_new _ _, rfl⟩, by simp [size_mk], fun i hi => by simp at hi⟩, by simp, (unhide HB) _⟩
theorem to2_arg (a : Option Addr) (cap : Nat) (l : List Co) (w : World) (h : Arg w a cap l) (hn : l.length ≤ 1048576) (hv : ∀ i, i < l.length → (l.getD i zero).val.length ≤ 1048576) :
    Calls Try.prog 8 #[.slice a l.length cap] w fun e w' => e = .returned (.slice (some ⟨w.heap.size, 0, none⟩) l.length l.length) ∧ LaidRow w' w.heap.size w'.heap.size l ∧ w.heap.size < w'.heap.size ∧ Below w.heap.size w w' := by
  have hA := h
  obtain ⟨c1, c2, c3, rfl | ⟨b, off, rfl, hb, hr⟩⟩ := h
  · exact toS2_none a cap w
  · refine toS2_any b off cap l w (fun W hW i hi => ?_) c1 c2 hn hv
    obtain ⟨_, _, _, h4 | ⟨b', off', e, _, hr'⟩⟩ := hA.below hW
    · subst h4; simp at hi
    · cases e; exact hr' i hi


/-- Blocks from E on are kept. -/
def Kt (E : Nat) (w w' : World) : Prop := ∀ k, E ≤ k → k < w.heap.size → w'.heap[k]? = w.heap[k]?
/-- The row while it is marked: its rows lie apart or are the same. -/
structure Mk (w wr : World) (b E : Nat) (l : List Co) (G : Nat → Nat) : Prop where
  bel : Below b w wr
  oth : Kt E w wr
  bE : b < E
  row : ∃ xs, Own wr b 48 xs ∧ xs.length = l.length * 6 ∧ ∀ i, i < l.length → xs[i * 6 + 5]? = some (.slice (some ⟨G i, 0, none⟩) (l.getD i zero).val.length (l.getD i zero).val.length)
  apart : ∀ i, i < l.length → b < G i ∧ G i < E
  same : ∀ i j, i < l.length → j < l.length → G i = G j → (l.getD i zero).val.length = (l.getD j zero).val.length
  own : ∀ i, i < l.length → ∃ m : List M.Cl, m.length = (l.getD i zero).val.length ∧ OwnG wr (G i) 82 m
theorem Mk.first {w : World} {b E : Nat} {l : List Co} (h : LaidRow w b E l) (hE : b < E) : ∃ G, Mk w w b E l G := by
  obtain ⟨xs, h1, h2, h3⟩ := h
  obtain ⟨G, hG⟩ := Go.Deep.choose_lt h3
  refine ⟨G, ⟨Below.refl _ _, fun _ _ _ => rfl, hE, ⟨xs, h1, h2, fun i hi => (hG i hi).2.2.2.2.2.1⟩, fun i hi => ⟨(hG i hi).2.2.2.2.2.2.1, (hG i hi).2.2.2.2.2.2.2.1⟩, fun i j hi hj e => ?_, fun i hi => ⟨_, rfl, ((hG i hi).2.2.2.2.2.2.2.2).wide⟩⟩⟩
  obtain ⟨_, _, _, _, _, _, _, _, ⟨x1, o1, y1, _⟩⟩ := hG i hi
  obtain ⟨_, _, _, _, _, _, _, _, ⟨x2, o2, y2, _⟩⟩ := hG j hj
  obtain ⟨c1, q1, e1⟩ := o1
  obtain ⟨c2, q2, e2⟩ := o2
  rw [e, q2] at q1
  simp only [Option.some.injEq, Obj.cells.injEq] at q1
  have : x1 = x2 := by rw [← e1, ← e2, q1.1]
  rw [this] at y1
  omega
/-- One number of a node written. -/
theorem Mk.one {w wr : World} {b E : Nat} {l : List Co} {G : Nat → Nat} (h : Mk w wr b E l G) (i d : Nat) (hd : d < 5) (x : Value) : Mk w (wr.setCell ⟨b, i * 6 + d, none⟩ x) b E l G := by
  have hbE := h.bE
  obtain ⟨xs, h1, h2, h3⟩ := h.row
  refine ⟨h.bel.setCell (Nat.le_refl _) _, fun k q1 q2 => (heap_setCell_other _ ⟨b, i * 6 + d, none⟩ k x (by show k ≠ b; omega)).trans (h.oth k q1 q2), h.bE, ⟨xs.set (i * 6 + d) x, h1.set _ _, by simpa using h2, fun j hj => ?_⟩, h.apart, h.same, fun j hj => ?_⟩
  · rw [List.getElem?_set_ne (by omega)]
    exact h3 j hj
  · obtain ⟨m, hm, xs', o1, o2⟩ := h.own j hj
    have hne := (h.apart j hj).1
    exact ⟨m, hm, xs', own_far o1 (by omega) _, o2⟩
theorem Mk.five {w wr : World} {b E : Nat} {l : List Co} {G : Nat → Nat} (h : Mk w wr b E l G) (i : Nat) (x0 x1 x2 x3 x4 : Value) : Mk w (((((wr.setCell ⟨b, i * 6, none⟩ x0).setCell ⟨b, i * 6 + 1, none⟩ x1).setCell ⟨b, i * 6 + 2, none⟩ x2).setCell ⟨b, i * 6 + 3, none⟩ x3).setCell ⟨b, i * 6 + 4, none⟩ x4) b E l G :=
  ((((h.one i 0 (by omega) x0).one i 1 (by omega) x1).one i 2 (by omega) x2).one i 3 (by omega) x3).one i 4 (by omega) x4
/-- .. and its row. -/
theorem Mk.vals {w wr w2 : World} {b E : Nat} {l : List Co} {G : Nat → Nat} (h : Mk w wr b E l G) (i : Nat) (hi : i < l.length) {m : List M.Cl} (hm : m.length = (l.getD i zero).val.length) (ho : OwnG w2 (G i) 82 m) (hb : But wr.heap.size (G i) wr w2) (hbs : b ≤ wr.heap.size) : Mk w w2 b E l G := by
  have hne := h.apart i hi
  have hsz := h.bel.size
  obtain ⟨xs, h1, h2, h3⟩ := h.row
  refine ⟨h.bel.trans (hb.below hbs (by omega)), fun k q1 q2 => (hb.block k (by omega) (by omega)).trans (h.oth k q1 q2), h.bE, ⟨xs, hb.own h1 h1.lt (by omega), h2, h3⟩, h.apart, h.same, fun j hj => ?_⟩
  by_cases e : G j = G i
  · exact ⟨m, by rw [hm]; exact h.same i j hi hj e.symm, by rw [e]; exact ho⟩
  · obtain ⟨m', hm', o'⟩ := h.own j hj
    exact ⟨m', hm', hb.ownG o' o'.lt e⟩
set_option maxRecDepth 100000 in
set_option maxHeartbeats 2000000 in
theorem mark_arg (b E : Nat) (l : List Co) (w : World) (h : LaidRow w b E l) (hE : b < E) (hn : l.length ≤ 1048576) (ht : tot l l.length ≤ 1048576) :
    Calls Try.prog 15 #[.slice (some ⟨b, 0, none⟩) l.length l.length, .int .i64 1] w fun e w' => ∃ r : Int, e = .returned (.int .i64 r) ∧ 0 ≤ r ∧ Below b w w' ∧ Kt E w w' := by
  obtain ⟨G, M0⟩ := Mk.first h hE
  have H0 := hide M0
  clear h M0 hE
  go_enter Try.func15, Try.ntmps15
  go_wp2_with fail
  go_loopg [1, 5] l.length (fun gh s1 s5 wr => ∃ (k : Nat) (q : Int), Hid (gh = l.length - k) ∧ s5 = .int .i64 (k : Int) ∧ s1 = .int .i64 q ∧ k ≤ l.length ∧ 0 ≤ q ∧ q ≤ 1 + 5 * (k : Int) + 5 * (tot l k : Int) ∧ Hid (Mk w wr b E l G))
  case atStart => exact ⟨0, 1, rfl, rfl, rfl, by omega, by omega, by show (1 : Int) ≤ 1 + 5 * ((0 : Nat) : Int) + 5 * ((0 : Nat) : Int); omega, unhide H0⟩
  case round =>
    obtain ⟨k, q, hg, rfl, rfl, hk, hq0, hq1, HM⟩ := hrel
    clear H0
    by_cases hlt : k < l.length
    · have hltI : (k : Int) < (l.length : Int) := by omega
      have hk0 : (0 : Int) ≤ (k : Int) := by omega
      have htk := tot_mono l k l.length hk
      have htk1 : tot l (k + 1) = tot l k + (l.getD k zero).val.length := rfl
      have htk2 := tot_mono l (k + 1) l.length hlt
      obtain ⟨xs, h1, h2, h3⟩ := (unhide HM).row
      obtain ⟨v0, g0⟩ := some_of_lt (xs := xs) (j := k * 6) (by omega)
      obtain ⟨v1, g1⟩ := some_of_lt (xs := xs) (j := k * 6 + 1) (by omega)
      obtain ⟨v2, g2⟩ := some_of_lt (xs := xs) (j := k * 6 + 2) (by omega)
      obtain ⟨v3, g3⟩ := some_of_lt (xs := xs) (j := k * 6 + 3) (by omega)
      obtain ⟨v4, g4⟩ := some_of_lt (xs := xs) (j := k * 6 + 4) (by omega)
      have c0 := (h1.cell (k * 6)).trans g0
      have c1 := (h1.cell (k * 6 + 1)).trans g1
      have c2 := (h1.cell (k * 6 + 2)).trans g2
      have c3 := (h1.cell (k * 6 + 3)).trans g3
      have c4 := (h1.cell (k * 6 + 4)).trans g4
      have c5 := (h1.cell (k * 6 + 5)).trans (h3 k hlt)
      have z0 := h1.frozen (k * 6)
      have z1 := h1.frozen (k * 6 + 1)
      have z2 := h1.frozen (k * 6 + 2)
      have z3 := h1.frozen (k * 6 + 3)
      have z4 := h1.frozen (k * 6 + 4)
      have hbs : b ≤ wr.heap.size := by have := h1.lt; omega
      have HM2 := hide (fun x0 x1 x2 x3 x4 => (unhide HM).five k x0 x1 x2 x3 x4)
      have HLT := hide hlt
      obtain ⟨N, hN⟩ : ∃ N, N = (l.getD k zero).val.length := ⟨_, rfl⟩
      rw [← hN] at c5 htk1
      have HNN := hide hN
      have HCALL := hide (fun x0 x1 x2 x3 x4 => show Calls Try.prog 28 #[.slice (some ⟨G k, 0, none⟩) N N, .int .i64 (q + 1 + 1 + 1 + 1 + 1)] (((((wr.setCell ⟨b, k * 6, none⟩ x0).setCell ⟨b, k * 6 + 1, none⟩ x1).setCell ⟨b, k * 6 + 2, none⟩ x2).setCell ⟨b, k * 6 + 3, none⟩ x3).setCell ⟨b, k * 6 + 4, none⟩ x4) (fun e w' => e = .returned (.int .i64 (q + 1 + 1 + 1 + 1 + 1 + 5 * (N : Int))) ∧ Mk w w' b E l G) from by
        obtain ⟨m, hm, om⟩ := ((unhide HM2) x0 x1 x2 x3 x4).own k (unhide HLT)
        have e1 : m.length = N := hm.trans hN.symm
        have := markCellS_any (G k) N m (q + 1 + 1 + 1 + 1 + 1) _ om (by omega) (by omega) (by omega) (by omega)
        rw [e1] at this
        refine this.mono ?_
        rintro e w' ⟨he, hown, hbut⟩
        exact ⟨he, ((unhide HM2) x0 x1 x2 x3 x4).vals k (unhide HLT) (by rw [marked_length]; exact hN) hown hbut (by simpa using hbs)⟩)
      have hqB : q ≤ 20000000 := by omega
      have wq1 : IntKind.i64.wrap (q + 1) = q + 1 := IntWalk.i64_in _ ⟨by omega, by omega⟩
      have wq2 : IntKind.i64.wrap (q + 1 + 1) = q + 1 + 1 := IntWalk.i64_in _ ⟨by omega, by omega⟩
      have wq3 : IntKind.i64.wrap (q + 1 + 1 + 1) = q + 1 + 1 + 1 := IntWalk.i64_in _ ⟨by omega, by omega⟩
      have wq4 : IntKind.i64.wrap (q + 1 + 1 + 1 + 1) = q + 1 + 1 + 1 + 1 := IntWalk.i64_in _ ⟨by omega, by omega⟩
      have wq5 : IntKind.i64.wrap (q + 1 + 1 + 1 + 1 + 1) = q + 1 + 1 + 1 + 1 + 1 := IntWalk.i64_in _ ⟨by omega, by omega⟩
      have HTK1 := hide htk1
      have HQ1 := hide hq1
      clear HM h1 h2 h3 g0 g1 g2 g3 g4 hN htk htk2 hlt htk1 hq1
      go_wp2_with fail
      refine ((unhide HCALL) _ _ _ _ _).mono ?_
      rintro e w2 ⟨rfl, M2⟩
      have HM3 := hide M2
      clear M2 HCALL HM2 c0 z0 c1 z1 c2 z2 c3 z3 c4 z4 c5
      go_wp2_with fail
      go_roundg (l.length - (k + 1))
      case rel => exact ⟨k + 1, _, rfl, by go_num, rfl, by have := unhide HLT; omega, by omega, by rw [unhide HTK1]; have := unhide HQ1; push_cast; omega, unhide HM3⟩
      case measure => have := hg.out; have := unhide HLT; omega
    · have hltI : ¬ (k : Int) < (l.length : Int) := by omega
      go_wp2_with fail
      go_ret
      exact ⟨_, rfl, hq0, (unhide HM).bel, (unhide HM).oth⟩
end Co

end Go.Proofs.Ytkjmnkbiflkpdaa
