/-
  A slice of edits that came in as an argument; laws.sz.., to.., eq.. over it.
  Faults of edits: plainly, and impl.editFault, spec.l14Edit, both EditsFaults over a list that lies anywhere.
  FormatEdits: plainly, and both of them over edits that lie anywhere.
-/
import Derived.Test.YtakdlcgiieaieaaDoorArg
import Derived.Test.YtakdlcgiieaieaaDoorPthF
import Derived.Test.YtakdlcgiieaieaaDoorEncW
import Derived.Test.YtakdlcgiieaieaaDoorPthZ
import Derived.ProofKit
import Derived.OpenShut
import Derived.Deep.Slices
import Derived.Deep.RegionWith
import Derived.Deep.Cut
import Derived.Deep.CutRange
import Derived.Lib.BufferRead
namespace Go.Proofs.YtakdlcgiieaieaaDoor
open Go.RowKit Go.ChangeShapes Go.WideShapes
set_option linter.unusedVariables false
set_option linter.unusedSimpArgs false

/-- An edit, by its fields. -/
structure Ed where
  op : Int
  path : List M.Cl
  x : List M.Cl
namespace Ed
def zero : Ed := ⟨0, [], []⟩
def ok (e : Ed) : Prop := (-9223372036854775808 ≤ e.op ∧ e.op ≤ 9223372036854775807) ∧ (∀ c ∈ e.path, c.ok) ∧ ∀ c ∈ e.x, c.ok
def small (e : Ed) : Prop := e.path.length ≤ 1048576 ∧ e.x.length ≤ 1048576
def At (w : World) (b o : Nat) (e : Ed) : Prop := w.cell? ⟨b, o, none⟩ = some (.int .i64 e.op) ∧ (∃ g : Nat, w.cell? ⟨b, o + 1, none⟩ = some (.slice (some ⟨g, 0, none⟩) e.path.length e.path.length) ∧ g < w.heap.size ∧ Row w g 0 e.path) ∧ ∃ g : Nat, w.cell? ⟨b, o + 2, none⟩ = some (.slice (some ⟨g, 0, none⟩) e.x.length e.x.length) ∧ g < w.heap.size ∧ Row w g 0 e.x
def Row (w : World) (b : Nat) (l : List Ed) : Prop := ∀ i, i < l.length → At w b (i * 3) (l.getD i zero)
theorem Row.below {w w' : World} {b : Nat} {l : List Ed} (h : Row w b l) (hb : Below w.heap.size w w') (hB : b < w.heap.size) : Row w' b l := by
  intro i hi
  obtain ⟨h0, ⟨g, h1, hg, hr⟩, k, h2, hk, hs⟩ := h i hi
  exact ⟨(hb.cell hB).trans h0, ⟨g, (hb.cell hB).trans h1, Nat.lt_of_lt_of_le hg hb.size, hr.below hb hg⟩, k, (hb.cell hB).trans h2, Nat.lt_of_lt_of_le hk hb.size, hs.below hb hk⟩
def ArgAt (w : World) (b o : Nat) (e : Ed) : Prop := w.cell? ⟨b, o, none⟩ = some (.int .i64 e.op) ∧ (∃ (va : Option Addr) (vc : Nat), w.cell? ⟨b, o + 1, none⟩ = some (.slice va e.path.length vc) ∧ Cells w va vc e.path) ∧ ∃ (va : Option Addr) (vc : Nat), w.cell? ⟨b, o + 2, none⟩ = some (.slice va e.x.length vc) ∧ Cells w va vc e.x
def Arg (w : World) (a : Option Addr) (cap : Nat) (l : List Ed) : Prop :=
  cap ≤ 9223372036854775807 ∧ l.length ≤ cap ∧ (∀ e ∈ l, e.ok) ∧ (l = [] ∨ ∃ b off, a = some ⟨b, off, none⟩ ∧ b < w.heap.size ∧ ∀ i, i < l.length → ArgAt w b (off + i * 3) (l.getD i zero))
theorem own_far {w : World} {b c j : Nat} {t : TypeId} {xs : List Value} (h : Own w b t xs) (hne : b ≠ c) (x : Value) : Own (w.setCell ⟨c, j, none⟩ x) b t xs := by
  obtain ⟨r, h1, h2⟩ := h
  exact ⟨r, (heap_setCell_other _ ⟨c, j, none⟩ b x hne).trans h1, h2⟩
theorem OwnRow.far {w : World} {b c j : Nat} {t : TypeId} {l : List M.Cl} (h : OwnRow w b t l) (hne : b ≠ c) (x : Value) : OwnRow (w.setCell ⟨c, j, none⟩ x) b t l := by
  obtain ⟨xs, h1, h2⟩ := h
  exact ⟨xs, own_far h1 hne x, h2⟩
theorem Arg.below {w w' : World} {a : Option Addr} {cap : Nat} {l : List Ed} (h : Arg w a cap l) (hb : Below w.heap.size w w') : Arg w' a cap l := by
  obtain ⟨h1, h2, h3, h4⟩ := h
  refine ⟨h1, h2, h3, ?_⟩
  rcases h4 with h4 | ⟨b, off, e, hlt, hr⟩
  · exact .inl h4
  · refine .inr ⟨b, off, e, Nat.lt_of_lt_of_le hlt hb.size, fun i hi => ?_⟩
    obtain ⟨f0, ⟨va, vc, f1, hc⟩, vb, vd, f2, hd⟩ := hr i hi
    exact ⟨(hb.cell hlt).trans f0, ⟨va, vc, (hb.cell hlt).trans f1, hc.below hb⟩, vb, vd, (hb.cell hlt).trans f2, hd.below hb⟩

set_option maxHeartbeats 1000000 in
theorem sz_any (c : Ed) (va vb : Option Addr) (vc vd : Nat) (left : Int) (w : World) (hc : Cells w va vc c.path) (hd : Cells w vb vd c.x) (h0 : 0 ≤ left) (h1 : left ≤ 1048576) :
    Calls Tryd.prog 10 #[.agg #[.int .i64 c.op, .slice va c.path.length vc, .slice vb c.x.length vd], .int .i64 left] w fun e w' => ∃ r : Int, e = .returned (.int .i64 r) ∧ (r = -1 ∨ (0 ≤ r ∧ r ≤ left ∧ c.small)) ∧ Below w.heap.size w w' := by
  obtain ⟨W0, hW0⟩ : ∃ W0, W0 = w.alloc (.cells #[.int .i64 c.op, .slice va c.path.length vc, .slice vb c.x.length vd] 35) := ⟨_, rfl⟩
  have B0 : Below w.heap.size w W0 := by rw [hW0]; exact (Below.refl w.heap.size w).alloc (Nat.le_refl _) _
  have O0 : Own W0 w.heap.size 35 [.int .i64 c.op, .slice va c.path.length vc, .slice vb c.x.length vd] := by rw [hW0]; exact ⟨_, heap_alloc_new _ _, rfl⟩
  have q1 := O0.cell 1
  simp only [List.getElem?_cons_zero, List.getElem?_cons_succ] at q1
  have H := hide (_root_.Go.Proofs.YtakdlcgiieaieaaDoor.sz_arg va vc c.path left W0 (hc.below B0) h0 h1)
  have HD := hide hd
  clear hc hd
  go_enter Tryd.func10, Tryd.ntmps10
  go_upto_region 1 with fail
  rw [← hW0]
  clear hW0
  go_wp2_with fail
  refine (unhide H).mono ?_
  rintro e w1 ⟨r, rfl, hr, hb1⟩
  have B1 : Below w.heap.size w w1 := B0.trans (hb1.mono B0.size)
  have O1 := O0.below hb1 O0.lt
  have q2 := O1.cell 2
  simp only [List.getElem?_cons_zero, List.getElem?_cons_succ] at q2
  clear H hb1 O0 O1 q1
  by_cases hneg : r < 0
  · have g1 : decide (r < 0) = true := decide_eq_true hneg
    go_wp2_with fail
    go_ret
    exact ⟨_, rfl, .inl rfl, B1⟩
  have g1 : decide (r < 0) = false := decide_eq_false hneg
  have hr2 : 0 ≤ r ∧ r ≤ left ∧ c.path.length ≤ 1048576 := by
    rcases hr with hr | ⟨h2, h3⟩
    · exact absurd hr hneg
    · omega
  obtain ⟨hr0, hr1, hr3⟩ := hr2
  have H := hide (_root_.Go.Proofs.YtakdlcgiieaieaaDoor.sz_arg vb vd c.x r w1 ((unhide HD).below B1) hr0 (by omega))
  clear hr hneg HD
  go_wp2_with fail
  refine (unhide H).mono ?_
  rintro e w2 ⟨s, rfl, hs, hb2⟩
  have B2 : Below w.heap.size w w2 := B1.trans (hb2.mono B1.size)
  clear H hb2 q2 g1 B1
  by_cases hneg : s < 0
  · have g1 : decide (s < 0) = true := decide_eq_true hneg
    go_wp2_with fail
    go_ret
    exact ⟨_, rfl, .inl rfl, B2⟩
  · have g1 : decide (s < 0) = false := decide_eq_false hneg
    have hs2 : 0 ≤ s ∧ s ≤ left ∧ c.small := by
      rcases hs with hs | ⟨h2, h3⟩
      · exact absurd hs hneg
      · exact ⟨by omega, by omega, hr3, by omega⟩
    clear hs hneg
    go_wp2_with fail
    go_ret
    exact ⟨_, rfl, .inr hs2, B2⟩

set_option maxHeartbeats 2000000 in
theorem szS_any (b off cap : Nat) (l : List Ed) (left : Int) (w : World) (hrow : ∀ W, Below w.heap.size w W → ∀ i, i < l.length → ArgAt W b (off + i * 3) (l.getD i zero)) (hcap : cap ≤ 9223372036854775807) (hl : l.length ≤ cap) (h0 : 0 ≤ left) (h1 : left ≤ 1048576) :
    Calls Tryd.prog 4 #[.slice (some ⟨b, off, none⟩) l.length cap, .int .i64 left] w fun e w' => ∃ r : Int, e = .returned (.int .i64 r) ∧ (r < 0 ∨ (0 ≤ r ∧ l.length ≤ 1048576 ∧ ∀ i, i < l.length → (l.getD i zero).small)) ∧ Below w.heap.size w w' := by
  have HR := hide hrow
  clear hrow
  by_cases hbig : left - (l.length : Int) < 0
  · have g1 : decide (left - (l.length : Int) < 0) = true := decide_eq_true hbig
    go_enter Tryd.func4, Tryd.ntmps4
    go_wp2_with fail
    go_ret
    exact ⟨_, rfl, .inl (by decide), Below.refl _ _⟩
  have g1 : decide (left - (l.length : Int) < 0) = false := decide_eq_false hbig
  have hl2 : l.length ≤ 1048576 := by omega
  go_enter Tryd.func4, Tryd.ntmps4
  go_wp2_with fail
  go_loopg [1, 5] l.length (fun gh s1 s5 wr => ∃ (k : Nat) (q : Int), Hid (gh = l.length - k) ∧ s5 = .int .i64 k ∧ s1 = .int .i64 q ∧ k ≤ l.length ∧ 0 ≤ q ∧ q ≤ 1048576 ∧ Hid (∀ i, i < k → (l.getD i zero).small) ∧ Below w.heap.size w wr)
  case atStart => exact ⟨0, _, rfl, rfl, rfl, by omega, by omega, by omega, fun i hi => absurd hi (by omega), Below.refl _ _⟩
  case round =>
    obtain ⟨k, q, hg, rfl, rfl, hk, hq0, hq1, hall, hbel⟩ := hrel
    by_cases hlt : k < l.length
    · have hltI : (k : Int) < (l.length : Int) := by omega
      obtain ⟨f0, ⟨va, vc, f1, hc⟩, vb, vd, f2, hd⟩ := (unhide HR) wr hbel k hlt
      have HQ := hide (sz_any (l.getD k zero) va vb vc vd q wr hc hd hq0 hq1)
      have hnext : Hid ((l.getD k zero).small → ∀ i, i < k + 1 → (l.getD i zero).small) := fun h i hi => by
        by_cases e : i = k
        · subst e; exact h
        · exact hall.out i (by omega)
      clear hc hd hlt
      generalize l.getD k zero = n at *
      go_wp2_with fail
      refine (unhide HQ).mono ?_
      rintro e w1 ⟨r, rfl, hr, hb1⟩
      have B1 : Below w.heap.size w w1 := hbel.trans (hb1.mono hbel.size)
      clear HQ hb1 f0 f1 f2
      rcases hr with hr | ⟨hr0, hr1, hr2⟩
      · subst hr
        go_wp2_with fail
        go_ret
        exact ⟨_, rfl, .inl (by decide), B1⟩
      · have g2 : decide (r < 0) = false := decide_eq_false (by omega)
        have hn2 := hide (hnext.out hr2)
        clear hnext hr2
        go_wp2_with fail
        go_roundg (l.length - (k + 1))
        case rel => exact ⟨k + 1, r, rfl, by go_num, rfl, by omega, hr0, by omega, unhide hn2, B1⟩
        case measure => have := hg.out; omega
    · have hke : k = l.length := by omega
      have fin := hide (show ∀ i, i < l.length → (l.getD i zero).small by rw [← hke]; exact hall.out)
      clear hke
      go_wp2_with fail
      go_ret
      exact ⟨_, rfl, .inr ⟨hq0, hl2, unhide fin⟩, hbel⟩
set_option maxHeartbeats 1000000 in
theorem szS_none (a : Option Addr) (cap : Nat) (left : Int) (w : World) (h0 : 0 ≤ left) (h1 : left ≤ 1048576) :
    Calls Tryd.prog 4 #[.slice a 0 cap, .int .i64 left] w fun e w' => e = .returned (.int .i64 left) ∧ Below w.heap.size w w' := by
  have g1 : decide (left < 0) = false := decide_eq_false (by omega)
  go_enter Tryd.func4, Tryd.ntmps4
  go_wp2_with fail
  refine wp_loop_rounds 1 ?_
  rw [rounds_succ]
  go_wp2_with fail
  go_ret
  exact ⟨by simp, Below.refl _ _⟩
theorem sz_arg (a : Option Addr) (cap : Nat) (l : List Ed) (left : Int) (w : World) (h : Arg w a cap l) (h0 : 0 ≤ left) (h1 : left ≤ 1048576) :
    Calls Tryd.prog 4 #[.slice a l.length cap, .int .i64 left] w fun e w' => ∃ r : Int, e = .returned (.int .i64 r) ∧ (r < 0 ∨ (0 ≤ r ∧ l.length ≤ 1048576 ∧ ∀ i, i < l.length → (l.getD i zero).small)) ∧ Below w.heap.size w w' := by
  have hA := h
  obtain ⟨c1, c2, c3, rfl | ⟨b, off, rfl, hb, hr⟩⟩ := h
  · refine (szS_none a cap left w h0 h1).mono ?_
    rintro e w' ⟨rfl, hb⟩
    exact ⟨_, rfl, .inr ⟨h0, by simp, fun i hi => by simp at hi⟩, hb⟩
  · refine szS_any b off cap l left w (fun W hW i hi => ?_) c1 c2 h0 h1
    obtain ⟨_, _, _, h4 | ⟨b', off', e, _, hr'⟩⟩ := hA.below hW
    · subst h4; simp at hi
    · cases e; exact hr' i hi

set_option maxRecDepth 100000 in
set_option maxHeartbeats 1000000 in
theorem to_any (c : Ed) (va vb : Option Addr) (vc vd : Nat) (w : World) (hc : Cells w va vc c.path) (hd : Cells w vb vd c.x) (hn : c.small) :
    Calls Tryd.prog 13 #[.agg #[.int .i64 c.op, .slice va c.path.length vc, .slice vb c.x.length vd]] w fun e w' => ∃ g h : Nat, e = .returned (.agg #[.int .i64 c.op, .slice (some ⟨g, 0, none⟩) c.path.length c.path.length, .slice (some ⟨h, 0, none⟩) c.x.length c.x.length]) ∧ w.heap.size ≤ g ∧ g < h ∧ OwnRow w' g 55 c.path ∧ OwnRow w' h 55 c.x ∧ Below w.heap.size w w' := by
  obtain ⟨w3, hw3⟩ : ∃ w3, w3 = ((w.alloc (.cells #[.int .i64 c.op, .slice va c.path.length vc, .slice vb c.x.length vd] 35)).alloc (.cells #[.int .i64 0, .slice none 0 0, .slice none 0 0] 40)).alloc (.cells #[.int .i64 c.op, .slice none 0 0, .slice none 0 0] 40) := ⟨_, rfl⟩
  have B3 : Below w.heap.size w w3 := by rw [hw3]; exact (((Below.refl _ _).alloc (Nat.le_refl _) _).alloc (by simp) _).alloc (by simp <;> omega) _
  have hs3 : w3.heap.size = w.heap.size + 3 := by rw [hw3]; simp
  have O1 : Own w3 w.heap.size 35 [.int .i64 c.op, .slice va c.path.length vc, .slice vb c.x.length vd] := by
    rw [hw3]
    exact Own.alloc (Own.alloc ⟨_, heap_alloc_new _ _, rfl⟩ _) _
  have O2 : Own w3 (w.heap.size + 1) 40 [.int .i64 0, .slice none 0 0, .slice none 0 0] := by
    rw [hw3]
    refine Own.alloc ⟨_, ?_, rfl⟩ _
    simpa using heap_alloc_new (w.alloc (.cells #[.int .i64 c.op, .slice va c.path.length vc, .slice vb c.x.length vd] 35)) (.cells #[.int .i64 0, .slice none 0 0, .slice none 0 0] 40)
  have O3 : Own w3 (w.heap.size + 2) 40 [.int .i64 c.op, .slice none 0 0, .slice none 0 0] := by
    rw [hw3]
    refine ⟨_, ?_, rfl⟩
    simpa using heap_alloc_new ((w.alloc (.cells #[.int .i64 c.op, .slice va c.path.length vc, .slice vb c.x.length vd] 35)).alloc (.cells #[.int .i64 0, .slice none 0 0, .slice none 0 0] 40)) (.cells #[.int .i64 c.op, .slice none 0 0, .slice none 0 0] 40)
  have HT := hide (_root_.Go.Proofs.YtakdlcgiieaieaaDoor.to_arg va vc c.path w3 (hc.below B3) hn.1)
  have HD := hide hd
  have hn2 := hn.2
  have o1 := O1.cell 1
  simp only [List.getElem?_cons_zero, List.getElem?_cons_succ] at o1
  have HS3 := hide hs3
  clear hc hd hn hs3
  go_enter Tryd.func13, Tryd.ntmps13
  go_upto_region 3 with fail
  rw [← hw3]
  clear hw3
  go_wp2_with fail
  refine (unhide HT).mono ?_
  rintro e w4 ⟨rfl, ho4, hb4⟩
  have P1 := O1.below hb4 O1.lt
  have P2 := O2.below hb4 O2.lt
  have P3 := O3.below hb4 O3.lt
  have B4 : Below w.heap.size w w4 := B3.trans (hb4.mono B3.size)
  clear HT hb4 O1 O2 O3 o1
  obtain ⟨g, hg⟩ : ∃ g, g = w3.heap.size := ⟨_, rfl⟩
  have hg3 : g = w.heap.size + 3 := hg.trans (unhide HS3)
  rw [← hg] at ho4 ⊢
  have HG := hide hg3
  clear hg HS3
  obtain ⟨w5, hw5⟩ : ∃ w5, w5 = w4.setCell ⟨w.heap.size + 1 + 1, 1, none⟩ (.slice (some ⟨g, 0, none⟩) c.path.length c.path.length) := ⟨_, rfl⟩
  have Q1 : Own w5 w.heap.size 35 [.int .i64 c.op, .slice va c.path.length vc, .slice vb c.x.length vd] := by rw [hw5]; exact own_far P1 (by omega) _
  have Q2 : Own w5 (w.heap.size + 1) 40 [.int .i64 0, .slice none 0 0, .slice none 0 0] := by rw [hw5]; exact own_far P2 (by omega) _
  have Q3 : Own w5 (w.heap.size + 2) 40 [.int .i64 c.op, .slice (some ⟨g, 0, none⟩) c.path.length c.path.length, .slice none 0 0] := by rw [hw5]; exact P3.set 1 _
  have HR5 : OwnRow w5 g 55 c.path := by rw [hw5]; exact OwnRow.far ho4 (by omega) _
  have B5 : Below w.heap.size w w5 := by rw [hw5]; exact B4.setCell (show w.heap.size ≤ w.heap.size + 1 + 1 by omega) _
  have HT := hide (_root_.Go.Proofs.YtakdlcgiieaieaaDoor.to_arg vb vd c.x w5 ((unhide HD).below B5) hn2)
  have o3 := P3.cell 1
  have o4 := P3.frozen 1
  have o2 := Q1.cell 2
  simp only [List.getElem?_cons_zero, List.getElem?_cons_succ] at o2 o3
  clear P1 P2 P3 B4 HD hn2 ho4 hg3
  go_upto_region 4 with fail
  rw [← hw5]
  clear hw5 o3 o4
  go_wp2_with fail
  refine (unhide HT).mono ?_
  rintro e w6 ⟨rfl, ho6, hb6⟩
  have P2 := Q2.below hb6 Q2.lt
  have P3 := Q3.below hb6 Q3.lt
  have B6 : Below w.heap.size w w6 := B5.trans (hb6.mono B5.size)
  have hg5 := HR5.lt
  have HR6 := HR5.below hb6 HR5.lt
  have hg3 := unhide HG
  clear HT hb6 Q1 Q2 Q3 o2 B5 HR5 HG
  generalize w5.heap.size = h at *
  have HGH := hide (show w.heap.size ≤ g ∧ g < h from ⟨by omega, hg5⟩)
  have a0 := P2.cell 0
  have y0 := P2.frozen 0
  have b0 := P3.cell 0
  have z0 := P3.frozen 0
  have a1 := P2.cell 1
  have y1 := P2.frozen 1
  have b1 := P3.cell 1
  have z1 := P3.frozen 1
  have a2 := P2.cell 2
  have y2 := P2.frozen 2
  have b2 := P3.cell 2
  have z2 := P3.frozen 2
  simp only [List.getElem?_cons_zero, List.getElem?_cons_succ] at a0 a1 a2 b0 b1 b2
  obtain ⟨W, hW⟩ : ∃ W, W = ((((w6.setCell ⟨w.heap.size + 1 + 1, 2, none⟩ (.slice (some ⟨h, 0, none⟩) c.x.length c.x.length)).setCell ⟨w.heap.size + 1, 0, none⟩ (.int .i64 c.op)).setCell ⟨w.heap.size + 1, 1, none⟩ (.slice (some ⟨g, 0, none⟩) c.path.length c.path.length)).setCell ⟨w.heap.size + 1, 2, none⟩ (.slice (some ⟨h, 0, none⟩) c.x.length c.x.length)) := ⟨_, rfl⟩
  have RX : Own W (w.heap.size + 1) 40 [.int .i64 c.op, .slice (some ⟨g, 0, none⟩) c.path.length c.path.length, .slice (some ⟨h, 0, none⟩) c.x.length c.x.length] := by rw [hW]; exact (((own_far P2 (by omega) _).set 0 _).set 1 _).set 2 _
  have HRW := hide (show OwnRow W g 55 c.path by rw [hW]; exact OwnRow.far (OwnRow.far (OwnRow.far (OwnRow.far HR6 (by omega) _) (by omega) _) (by omega) _) (by omega) _)
  have HRX := hide (show OwnRow W h 55 c.x by rw [hW]; exact OwnRow.far (OwnRow.far (OwnRow.far (OwnRow.far ho6 (by omega) _) (by omega) _) (by omega) _) (by omega) _)
  have HBL := hide (show Below w.heap.size w W by rw [hW]; exact (((B6.setCell (show w.heap.size ≤ w.heap.size + 1 + 1 by omega) _).setCell (show w.heap.size ≤ w.heap.size + 1 by omega) _).setCell (show w.heap.size ≤ w.heap.size + 1 by omega) _).setCell (show w.heap.size ≤ w.heap.size + 1 by omega) _)
  clear P2 P3 ho6 HR6 B6 hg5 hg3
  go_wp2_with fail
  rw [← hW]
  have q0 := RX.cell 0
  have q1 := RX.cell 1
  have q2 := RX.cell 2
  simp only [List.getElem?_cons_zero, List.getElem?_cons_succ] at q0 q1 q2
  clear a0 a1 a2 b0 b1 b2 y0 y1 y2 z0 z1 z2 RX hW
  refine bodyPost_ret (v := .agg #[.int .i64 c.op, .slice (some ⟨g, 0, none⟩) c.path.length c.path.length, .slice (some ⟨h, 0, none⟩) c.x.length c.x.length]) (by simp [results, Tryd.results13, go_sem, q0, q1, q2]; try rfl) rfl ⟨g, h, rfl, (unhide HGH).1, (unhide HGH).2, unhide HRW, unhide HRX, unhide HBL⟩

/-- The first k edits lie in the words xs, each with two rows of its own behind the block B. -/
def Laid (w : World) (B : Nat) (xs : List Value) (l : List Ed) (k : Nat) : Prop := ∀ i, i < k → ∃ g h : Nat, xs[i * 3]? = some (.int .i64 (l.getD i zero).op) ∧ xs[i * 3 + 1]? = some (.slice (some ⟨g, 0, none⟩) (l.getD i zero).path.length (l.getD i zero).path.length) ∧ xs[i * 3 + 2]? = some (.slice (some ⟨h, 0, none⟩) (l.getD i zero).x.length (l.getD i zero).x.length) ∧ B < g ∧ B < h ∧ OwnRow w g 55 (l.getD i zero).path ∧ OwnRow w h 55 (l.getD i zero).x
theorem Laid.below {w w' : World} {B : Nat} {xs : List Value} {l : List Ed} {k : Nat} (h : Laid w B xs l k) (hb : Below w.heap.size w w') : Laid w' B xs l k := fun i hi => by
  obtain ⟨g, h, h0, h1, h2, hg, hh, ho, hp⟩ := h i hi
  exact ⟨g, h, h0, h1, h2, hg, hh, ho.below hb ho.lt, hp.below hb hp.lt⟩
theorem Laid.far {w : World} {B j : Nat} {xs : List Value} {l : List Ed} {k : Nat} (h : Laid w B xs l k) (x : Value) : Laid (w.setCell ⟨B, j, none⟩ x) B xs l k := fun i hi => by
  obtain ⟨g, h, h0, h1, h2, hg, hh, ho, hp⟩ := h i hi
  exact ⟨g, h, h0, h1, h2, hg, hh, OwnRow.far ho (by omega) x, OwnRow.far hp (by omega) x⟩
theorem Laid.step {w : World} {B : Nat} {xs : List Value} {l : List Ed} {k : Nat} (h : Laid w B xs l k) (hl : xs.length = l.length * 3) (hk : k < l.length) (n : Ed) (hn : n = l.getD k zero) (g g2 : Nat) (hg : B < g) (hg2 : B < g2) (ho : OwnRow w g 55 n.path) (hp : OwnRow w g2 55 n.x) : Laid w B (((xs.set (k * 3) (.int .i64 n.op)).set (k * 3 + 1) (.slice (some ⟨g, 0, none⟩) n.path.length n.path.length)).set (k * 3 + 2) (.slice (some ⟨g2, 0, none⟩) n.x.length n.x.length)) l (k + 1) := by
  intro i hi
  by_cases e : i = k
  · subst e
    refine ⟨g, g2, ?_, ?_, ?_, hg, hg2, by rw [← hn]; exact ho, by rw [← hn]; exact hp⟩
    all_goals rw [← hn]
    all_goals simp only [List.getElem?_set, List.length_set]
    all_goals simp
    all_goals omega
  · obtain ⟨g', h', h0, h1, h2, hg', hh', ho', hp'⟩ := h i (by omega)
    refine ⟨g', h', ?_, ?_, ?_, hg', hh', ho', hp'⟩
    · rw [List.getElem?_set_ne (by omega), List.getElem?_set_ne (by omega), List.getElem?_set_ne (by omega)]; exact h0
    · rw [List.getElem?_set_ne (by omega), List.getElem?_set_ne (by omega), List.getElem?_set_ne (by omega)]; exact h1
    · rw [List.getElem?_set_ne (by omega), List.getElem?_set_ne (by omega), List.getElem?_set_ne (by omega)]; exact h2
theorem Laid.row {w : World} {B : Nat} {xs : List Value} {l : List Ed} (h : Laid w B xs l l.length) (ho : Own w B 40 xs) : Row w B l := fun i hi => by
  obtain ⟨g, k, h0, h1, h2, hg, hh, hr, hp⟩ := h i hi
  exact ⟨(ho.cell _).trans h0, ⟨g, (ho.cell _).trans h1, hr.lt, hr.row⟩, k, (ho.cell _).trans h2, hp.lt, hp.row⟩
theorem info : (Tryd.prog.info? 40).map (fun i => (i.zero, i.size, i.bytes)) = some (some (.agg #[.int .i64 0, .slice none 0 0, .slice none 0 0]), 3, 56) := by kernel_rfl
def mkW (m : Nat) : Array Value := madeCells #[.int .i64 0, .slice none 0 0, .slice none 0 0] (m * 3)
theorem size_mk (m : Nat) : (mkW m).size = m * 3 := by simp [mkW, size_madeCells]
theorem make_run (n : Nat) (hn : n ≤ 1048576) (w : World) :
    (Instr.makeSlice 27 (.int .i64 (n : Int)) (.int .i64 (n : Int))).run Tryd.prog w = .ok (.slice (some ⟨w.heap.size, 0, none⟩) n n) (w.alloc (.cells (mkW n) 40)) := by
  obtain ⟨i, hi, hz⟩ := Option.map_eq_some_iff.1 info
  simp only [Prod.mk.injEq] at hz
  obtain ⟨h1, h2, h3⟩ := hz
  have := run_make (P := Tryd.prog) w 27 40 i _ Tryd.underlying27 hi h1 .i64 .i64 (n : Int) (n : Int) (by omega) (by omega) (by rw [h3]; omega) (by omega)
  rw [this, h2]
  simp only [Int.toNat_natCast]
  rfl

set_option maxRecDepth 100000 in
set_option maxHeartbeats 2000000 in
theorem toS_any (b off cap : Nat) (l : List Ed) (w : World) (hrow : ∀ W, Below w.heap.size w W → ∀ i, i < l.length → ArgAt W b (off + i * 3) (l.getD i zero)) (hcap : cap ≤ 9223372036854775807) (hl : l.length ≤ cap) (hn : l.length ≤ 1048576) (hv : ∀ i, i < l.length → (l.getD i zero).small) :
    Calls Tryd.prog 6 #[.slice (some ⟨b, off, none⟩) l.length cap] w fun e w' => e = .returned (.slice (some ⟨w.heap.size, 0, none⟩) l.length l.length) ∧ Row w' w.heap.size l ∧ w.heap.size < w'.heap.size ∧ Below w.heap.size w w' := by
  have HR := hide hrow
  have HV := hide hv
  clear hrow hv
  have hmk := make_run l.length hn
  go_enter Tryd.func6, Tryd.ntmps6
  go_wp2_with fail
  go_loopg [4] l.length (fun gh s4 wr => ∃ (k : Nat) (xs : List Value), Hid (gh = l.length - k) ∧ s4 = .int .i64 k ∧ k ≤ l.length ∧ Own wr w.heap.size 40 xs ∧ Hid (xs.length = l.length * 3) ∧ Hid (Laid wr w.heap.size xs l k) ∧ Below w.heap.size w wr)
  case atStart => exact ⟨0, (mkW l.length).toList, rfl, rfl, by omega, ⟨_, heap_alloc_new _ _, rfl⟩, by simp [Hid, size_mk], fun i hi => absurd hi (by omega), (Below.refl _ _).alloc (Nat.le_refl _) _⟩
  case round =>
    clear hmk
    obtain ⟨k, xs, hg, rfl, hk, hown, hlen, hlaid, hbel⟩ := hrel
    by_cases hlt : k < l.length
    · have hltI : (k : Int) < (l.length : Int) := by omega
      obtain ⟨f0, ⟨va, vc, f1, hc⟩, vb, vd, f2, hd⟩ := (unhide HR) wr hbel k hlt
      have HQ := hide (to_any (l.getD k zero) va vb vc vd wr hc hd ((unhide HV) k hlt))
      obtain ⟨n, hn2⟩ : ∃ n, n = l.getD k zero := ⟨_, rfl⟩
      have HN := hide hn2
      rw [← hn2] at f0 f1 f2 HQ
      clear hn2 hc hd
      go_wp2_with fail
      refine (unhide HQ).mono ?_
      rintro e w1 ⟨g, h, rfl, hg1, hgh, ho1, ho2, hb1⟩
      have hown1 := hown.below hb1 hown.lt
      have hlaid1 := hlaid.out.below hb1
      have hwlt := hown.lt
      have hlen3 := hlen.out
      have hst := hide (hlaid1.step hlen3 hlt n (unhide HN) g h (by omega) (by omega) ho1 ho2)
      obtain ⟨v0, g0⟩ := some_of_lt (xs := xs) (j := k * 3) (by omega)
      have i0 := (hown1.cell (k * 3)).trans g0
      have z0 := hown1.frozen (k * 3)
      obtain ⟨v1, g1⟩ := some_of_lt (xs := xs) (j := k * 3 + 1) (by omega)
      have i1 := (hown1.cell (k * 3 + 1)).trans g1
      have z1 := hown1.frozen (k * 3 + 1)
      obtain ⟨v2, g2⟩ := some_of_lt (xs := xs) (j := k * 3 + 2) (by omega)
      have i2 := (hown1.cell (k * 3 + 2)).trans g2
      have z2 := hown1.frozen (k * 3 + 2)
      have HL3 := hide (show (((xs.set (k * 3) (.int .i64 n.op)).set (k * 3 + 1) (.slice (some ⟨g, 0, none⟩) n.path.length n.path.length)).set (k * 3 + 2) (.slice (some ⟨h, 0, none⟩) n.x.length n.x.length)).length = l.length * 3 by simp only [List.length_set]; exact hlen3)
      clear g0 g1 g2 f0 f1 f2 HQ hlaid1 ho1 ho2 hlen3
      go_wp2_with fail
      go_roundg (l.length - (k + 1))
      case rel => exact ⟨k + 1, _, rfl, by go_num, by omega, ((hown1.set _ _).set _ _).set _ _, unhide HL3, (((unhide hst).far _).far _).far _, (((hbel.trans (hb1.mono hbel.size)).setCell (Nat.le_refl _) _).setCell (Nat.le_refl _) _).setCell (Nat.le_refl _) _⟩
      case measure => have := hg.out; omega
    · have hke : k = l.length := by omega
      have fin := hide (Laid.row (by have := hlaid.out; rw [hke] at this; exact this) hown)
      have hlt2 := hown.lt
      clear hke
      go_wp2_with fail
      go_ret
      exact ⟨rfl, unhide fin, hlt2, hbel⟩
set_option maxHeartbeats 1000000 in
theorem toS_none (a : Option Addr) (cap : Nat) (w : World) :
    Calls Tryd.prog 6 #[.slice a 0 cap] w fun e w' => e = .returned (.slice (some ⟨w.heap.size, 0, none⟩) 0 0) ∧ Row w' w.heap.size [] ∧ w.heap.size < w'.heap.size ∧ Below w.heap.size w w' := by
  have hmk := make_run 0 (by omega)
  simp only [Int.natCast_zero] at hmk
  have HB := hide (fun o => (Below.refl w.heap.size w).alloc (Nat.le_refl _) o)
  go_enter Tryd.func6, Tryd.ntmps6
  go_wp2_with fail
  refine wp_loop_rounds 1 ?_
  rw [rounds_succ]
  go_wp2_with fail
  go_ret
  exact ⟨rfl, fun i hi => by simp at hi, by simp, (unhide HB) _⟩
theorem to_arg (a : Option Addr) (cap : Nat) (l : List Ed) (w : World) (h : Arg w a cap l) (hn : l.length ≤ 1048576) (hv : ∀ i, i < l.length → (l.getD i zero).small) :
    Calls Tryd.prog 6 #[.slice a l.length cap] w fun e w' => e = .returned (.slice (some ⟨w.heap.size, 0, none⟩) l.length l.length) ∧ Row w' w.heap.size l ∧ w.heap.size < w'.heap.size ∧ Below w.heap.size w w' := by
  have hA := h
  obtain ⟨c1, c2, c3, rfl | ⟨b, off, rfl, hb, hr⟩⟩ := h
  · exact toS_none a cap w
  · refine toS_any b off cap l w (fun W hW i hi => ?_) c1 c2 hn hv
    obtain ⟨_, _, _, h4 | ⟨b', off', e, _, hr'⟩⟩ := hA.below hW
    · subst h4; simp at hi
    · cases e; exact hr' i hi

set_option maxHeartbeats 1000000 in
theorem eq_same (n : Ed) (g g' h h' : Nat) (w : World) (hr : _root_.Go.Proofs.YtakdlcgiieaieaaDoor.Row w g 0 n.path) (hg : g < w.heap.size) (hr' : _root_.Go.Proofs.YtakdlcgiieaieaaDoor.Row w g' 0 n.path) (hg' : g' < w.heap.size) (hs : _root_.Go.Proofs.YtakdlcgiieaieaaDoor.Row w h 0 n.x) (hh : h < w.heap.size) (hs' : _root_.Go.Proofs.YtakdlcgiieaieaaDoor.Row w h' 0 n.x) (hh' : h' < w.heap.size) (hn : n.small) :
    Calls Tryd.prog 16 #[.agg #[.int .i64 n.op, .slice (some ⟨g, 0, none⟩) n.path.length n.path.length, .slice (some ⟨h, 0, none⟩) n.x.length n.x.length], .agg #[.int .i64 n.op, .slice (some ⟨g', 0, none⟩) n.path.length n.path.length, .slice (some ⟨h', 0, none⟩) n.x.length n.x.length]] w fun e w' => e = .returned (.bool true) ∧ Below w.heap.size w w' := by
  obtain ⟨W, hW⟩ : ∃ W, W = (w.alloc (.cells #[.int .i64 n.op, .slice (some ⟨g, 0, none⟩) n.path.length n.path.length, .slice (some ⟨h, 0, none⟩) n.x.length n.x.length] 40)).alloc (.cells #[.int .i64 n.op, .slice (some ⟨g', 0, none⟩) n.path.length n.path.length, .slice (some ⟨h', 0, none⟩) n.x.length n.x.length] 40) := ⟨_, rfl⟩
  have B0 : Below w.heap.size w W := by rw [hW]; exact ((Below.refl w.heap.size w).alloc (Nat.le_refl _) _).alloc (by simp) _
  have O1 : Own W w.heap.size 40 [.int .i64 n.op, .slice (some ⟨g, 0, none⟩) n.path.length n.path.length, .slice (some ⟨h, 0, none⟩) n.x.length n.x.length] := by rw [hW]; exact Own.alloc ⟨_, heap_alloc_new _ _, rfl⟩ _
  have O2 : Own W (w.heap.size + 1) 40 [.int .i64 n.op, .slice (some ⟨g', 0, none⟩) n.path.length n.path.length, .slice (some ⟨h', 0, none⟩) n.x.length n.x.length] := by
    rw [hW]
    refine ⟨_, ?_, rfl⟩
    simpa using heap_alloc_new (w.alloc (.cells #[.int .i64 n.op, .slice (some ⟨g, 0, none⟩) n.path.length n.path.length, .slice (some ⟨h, 0, none⟩) n.x.length n.x.length] 40)) (.cells #[.int .i64 n.op, .slice (some ⟨g', 0, none⟩) n.path.length n.path.length, .slice (some ⟨h', 0, none⟩) n.x.length n.x.length] 40)
  have H1 := hide (eqCellS_same g 0 n.path.length g' 0 n.path.length n.path W (hr.below B0 hg) (Nat.lt_of_lt_of_le hg B0.size) (hr'.below B0 hg') (Nat.lt_of_lt_of_le hg' B0.size) hn.1 (Nat.le_refl _) (Nat.le_refl _))
  have H2 := hide (fun w1 (hb : Below w.heap.size w w1) => eqCellS_same h 0 n.x.length h' 0 n.x.length n.x w1 (hs.below hb hh) (Nat.lt_of_lt_of_le hh hb.size) (hs'.below hb hh') (Nat.lt_of_lt_of_le hh' hb.size) hn.2 (Nat.le_refl _) (Nat.le_refl _))
  clear hr hr' hs hs' hn
  have a0 := O1.cell 0
  have a1 := O1.cell 1
  have b0 := O2.cell 0
  have b1 := O2.cell 1
  simp only [List.getElem?_cons_zero, List.getElem?_cons_succ] at a0 a1 b0 b1
  go_enter Tryd.func16, Tryd.ntmps16
  go_upto_region 1 with fail
  rw [← hW]
  clear hW
  go_wp2_with fail
  refine (unhide H1).mono ?_
  rintro e w1 ⟨rfl, hb1⟩
  have B1 : Below w.heap.size w w1 := B0.trans (hb1.mono B0.size)
  have a2 := (O1.below hb1 O1.lt).cell 2
  have b2 := (O2.below hb1 O2.lt).cell 2
  simp only [List.getElem?_cons_zero, List.getElem?_cons_succ] at a2 b2
  clear a0 a1 b0 b1 O1 O2 H1 B0 hb1
  go_wp2_with fail
  refine ((unhide H2) _ B1).mono ?_
  rintro e w2 ⟨rfl, hb2⟩
  have B2 : Below w.heap.size w w2 := B1.trans (hb2.mono B1.size)
  clear H2 hb2 a2 b2 B1
  go_wp2_with fail
  go_ret
  exact ⟨rfl, B2⟩

set_option maxHeartbeats 2000000 in
theorem eqS_same (b b' : Nat) (l : List Ed) (w : World) (hrow : Row w b l) (hb : b < w.heap.size) (hrow' : Row w b' l) (hb' : b' < w.heap.size) (hn : l.length ≤ 1048576) (hv : ∀ i, i < l.length → (l.getD i zero).small) :
    Calls Tryd.prog 9 #[.slice (some ⟨b, 0, none⟩) l.length l.length, .slice (some ⟨b', 0, none⟩) l.length l.length] w fun e w' => e = .returned (.bool true) ∧ Below w.heap.size w w' := by
  have HR := hide hrow
  have HR' := hide hrow'
  have HV := hide hv
  clear hrow hrow' hv
  go_enter Tryd.func9, Tryd.ntmps9
  go_wp2_with fail
  go_loopg [5] l.length (fun gh s5 wr => ∃ k : Nat, Hid (gh = l.length - k) ∧ s5 = .int .i64 k ∧ k ≤ l.length ∧ Below w.heap.size w wr)
  case atStart => exact ⟨0, rfl, rfl, by omega, Below.refl _ _⟩
  case round =>
    obtain ⟨k, hg, rfl, hk, hbel⟩ := hrel
    by_cases hlt : k < l.length
    · have hltI : (k : Int) < (l.length : Int) := by omega
      obtain ⟨f0, ⟨vg, f1, hvg, hvr⟩, vh, f2, hvh, hvs⟩ := ((unhide HR).below hbel hb) k hlt
      obtain ⟨g0, ⟨vg', g1, hvg', hvr'⟩, vh', g2, hvh', hvs'⟩ := ((unhide HR').below hbel hb') k hlt
      have HQ := hide (fun W (hW : Below wr.heap.size wr W) => eq_same (l.getD k zero) vg vg' vh vh' W (hvr.below hW hvg) (Nat.lt_of_lt_of_le hvg hW.size) (hvr'.below hW hvg') (Nat.lt_of_lt_of_le hvg' hW.size) (hvs.below hW hvh) (Nat.lt_of_lt_of_le hvh hW.size) (hvs'.below hW hvh') (Nat.lt_of_lt_of_le hvh' hW.size) ((unhide HV) k hlt))
      have BD : Below wr.heap.size wr wr.drew := (Below.refl _ _).drew
      clear hvr hvr' hvs hvs' hlt
      generalize l.getD k zero = n at *
      go_wp2_with fail
      go_region_with (go_at_call 16; refine ((unhide HQ) _ BD).mono ?_; rintro e w1 ⟨rfl, hb1⟩)
      all_goals
        go_wp2_with fail
        go_roundg (l.length - (k + 1))
        case rel => exact ⟨k + 1, rfl, by go_num, by omega, hbel.drew.trans (hb1.mono (by exact hbel.size))⟩
        case measure => have := hg.out; omega
    · go_wp2_with fail
      go_ret
      exact ⟨rfl, hbel⟩

theorem cellsOf_ : Tryd.prog.cellsOf 35 = 3 := by kernel_rfl
theorem cellsI : Tryd.prog.cellsOf 2 = 1 := by kernel_rfl
theorem cellsV : Tryd.prog.cellsOf 33 = 1 := by kernel_rfl
section
variable {H : Type} {enc : TypeId × Value → H} {w : World} {base : Nat} {spare : Nat → Bool} {held : Bool}
theorem slice_of {n : Nat} {c5 : Value} {x : DataW H × List MemPlace} (h5 : DataW.trod enc Tryd.prog w base spare held n 33 [c5] = some x) : ∃ (va : Option Addr) (vc : Nat) (vl : List M.Cl), c5 = .slice va vl.length vc ∧ Cells w va vc vl := by
  obtain ⟨va, len, vc, e5⟩ : ∃ va len vc, c5 = .slice va len vc := by
    rcases Go.Deep.open_slice Tryd.underlying33 h5 with ⟨hcs, _⟩ | ⟨ad, len', cap', m', n', D, Pl, hcs, _⟩
    · simp only [List.cons.injEq, and_true] at hcs
      exact ⟨_, _, _, hcs⟩
    · simp only [List.cons.injEq, and_true] at hcs
      exact ⟨_, _, _, hcs⟩
  subst e5
  obtain ⟨vl, hvl, hcl⟩ := open_cells h5 (fun p hp => DataW.trod_lt _ _ _ _ h5 p hp)
  subst hvl
  exact ⟨va, vc, vl, rfl, hcl⟩
set_option maxRecDepth 100000 in
theorem open_one {n : Nat} {cs : List Value} {x : DataW H × List MemPlace} (h : DataW.trod enc Tryd.prog w base spare held n 35 cs = some x) :
    ∃ (c : Ed) (va vb : Option Addr) (vc vd : Nat), cs = [.int .i64 c.op, .slice va c.path.length vc, .slice vb c.x.length vd] ∧ Cells w va vc c.path ∧ Cells w vb vd c.x ∧ c.ok := by
  obtain ⟨xs, m, _, _, hl, hlen, hf⟩ := DataW.trod_struct Tryd.underlying35 h
  rw [cellsOf_] at hl
  match cs, hl, xs, hlen with
  | [c0, c1, c2], _, [y0, y1, y2], _ =>
    have a0 : DataW.trod enc Tryd.prog w base spare held m 2 (([c0, c1, c2].drop 0).take (Tryd.prog.cellsOf 2)) = some y0 := hf 0 _ rfl
    rw [cellsI] at a0
    have h0 : DataW.trod enc Tryd.prog w base spare held m 2 [c0] = some y0 := a0
    have a1 : DataW.trod enc Tryd.prog w base spare held m 33 (([c0, c1, c2].drop 1).take (Tryd.prog.cellsOf 33)) = some y1 := hf 1 _ rfl
    rw [cellsV] at a1
    have h1 : DataW.trod enc Tryd.prog w base spare held m 33 [c1] = some y1 := a1
    have a2 : DataW.trod enc Tryd.prog w base spare held m 33 (([c0, c1, c2].drop 2).take (Tryd.prog.cellsOf 33)) = some y2 := hf 2 _ rfl
    rw [cellsV] at a2
    have h2 : DataW.trod enc Tryd.prog w base spare held m 33 [c2] = some y2 := a2
    obtain ⟨n0, e0, _, w0⟩ := DataW.trod_int Tryd.underlying2 h0
    obtain ⟨va, vc, vl, e1, hc⟩ := slice_of h1
    obtain ⟨vb, vd, vm, e2, hd⟩ := slice_of h2
    simp only [List.cons.injEq, and_true] at e0
    subst e0 e1 e2
    exact ⟨⟨n0, vl, vm⟩, va, vb, vc, vd, rfl, hc, hd, bounds_i64 w0, hc.2.2.1, hd.2.2.1⟩

set_option maxRecDepth 100000 in
theorem open_arg {a : Option Addr} {len cap fuel : Nat} {x : DataW H × List MemPlace} (h : DataW.trod enc Tryd.prog w base spare held fuel 22 [.slice a len cap] = some x) :
    ∃ l : List Ed, l.length = len ∧ Arg w a cap l := by
  rcases Go.Deep.open_slice Tryd.underlying22 h with ⟨hcs, _⟩ | ⟨ad, len', cap', m, n, D, Pl, hcs, _, hl, hm, hmm, hx, hel⟩
  · simp only [List.cons.injEq, Value.slice.injEq, and_true] at hcs
    obtain ⟨rfl, rfl, rfl⟩ := hcs
    exact ⟨[], rfl, by omega, by simp, by simp, .inl rfl⟩
  · simp only [List.cons.injEq, Value.slice.injEq, and_true] at hcs
    obtain ⟨rfl, rfl, rfl⟩ := hcs
    unfold maxLen at hm
    rw [cellsOf_] at hel
    have hlm : len ≤ m := by rw [hmm]; split <;> omega
    have key : ∀ i, i < len → ∃ c : Ed × (Option Addr × Option Addr) × Nat × Nat, w.cells? base (ad.add (i * 3)) 3 = some [.int .i64 c.1.op, .slice c.2.1.1 c.1.path.length c.2.2.1, .slice c.2.1.2 c.1.x.length c.2.2.2] ∧ Cells w c.2.1.1 c.2.2.1 c.1.path ∧ Cells w c.2.1.2 c.2.2.2 c.1.x ∧ c.1.ok := by
      intro i hi
      obtain ⟨cs', h1, h2⟩ := hel i (by omega)
      obtain ⟨c, va, vb, vc, vd, rfl, hc, hd, ho⟩ := open_one h2
      exact ⟨(c, (va, vb), vc, vd), h1, hc, hd, ho⟩
    haveI : Inhabited (Ed × (Option Addr × Option Addr) × Nat × Nat) := ⟨(zero, (none, none), 0, 0)⟩
    obtain ⟨C, hC⟩ := Go.Deep.choose_lt key
    refine ⟨(List.range len).map (fun i => (C i).1), by simp, hm, by simpa using hl, ?_, ?_⟩
    · intro c hc
      simp only [List.mem_map, List.mem_range] at hc
      obtain ⟨i, hi, rfl⟩ := hc
      exact (hC i hi).2.2.2
    · by_cases h0 : len = 0
      · left; subst h0; rfl
      · right
        obtain ⟨b, off, spot⟩ := ad
        have c0 := (World.cells?_some (hC 0 (by omega)).1).2.2 0 (by omega)
        have hs : spot = none := by
          have := World.cell?_spot (c0.trans rfl)
          simpa [Addr.add] using this
        subst hs
        have hblk : b < w.heap.size := by
          have := block_lt_of_cell (c0.trans rfl)
          rw [add_plain, add_plain] at this
          exact this
        refine ⟨b, off, rfl, hblk, ?_⟩
        intro i hi
        have hi' : i < len := by simpa using hi
        have e : ((List.range len).map (fun i => (C i).1)).getD i zero = (C i).1 := by simp [List.getD_eq_getElem?_getD, hi']
        rw [e]
        have cc := (World.cells?_some (hC i hi').1).2.2
        simp only [add_plain] at cc
        exact ⟨cc 0 (by omega), ⟨(C i).2.1.1, (C i).2.2.1, cc 1 (by omega), (hC i hi').2.1⟩, (C i).2.1.2, (C i).2.2.2, cc 2 (by omega), (hC i hi').2.2.1⟩
end
end Ed

end Go.Proofs.YtakdlcgiieaieaaDoor

namespace Go.Proofs.YtakdlcgiieaieaaDoor
open Go.RowKit
set_option linter.unusedVariables false
set_option linter.unusedSimpArgs false

theorem implFault_nil (a : Option Addr) (cap : Nat) (w : World) : Calls Tryd.prog 33 #[.slice a 0 cap] w fun e w' => e = .returned (.int .i64 2) ∧ Below w.heap.size w w' := by
  go_enter Tryd.func33, Tryd.ntmps33
  go_wp2_with fail
  go_ret
  exact ⟨rfl, Below.refl _ _⟩
theorem specFault_nil (a : Option Addr) (cap : Nat) (w : World) : Calls Tryd.prog 26 #[.slice a 0 cap] w fun e w' => e = .returned (.int .i64 2) ∧ Below w.heap.size w w' := by
  go_enter Tryd.func26, Tryd.ntmps26
  go_wp2_with fail
  go_ret
  exact ⟨rfl, Below.refl _ _⟩
theorem implPathFault_nil (a : Option Addr) (cap : Nat) (w : World) : Calls Tryd.prog 32 #[.slice a 0 cap] w fun e w' => e = .returned (.int .i64 2) ∧ Below w.heap.size w w' := by
  go_enter Tryd.func32, Tryd.ntmps32
  go_wp2_with fail
  refine (implFault_nil a cap _).mono ?_
  rintro e w1 ⟨rfl, hb1⟩
  go_wp2_with fail
  go_ret
  exact ⟨rfl, hb1⟩
theorem specPathFault_nil (a : Option Addr) (cap : Nat) (w : World) : Calls Tryd.prog 25 #[.slice a 0 cap] w fun e w' => e = .returned (.int .i64 2) ∧ Below w.heap.size w w' := by
  go_enter Tryd.func25, Tryd.ntmps25
  go_wp2_with fail
  refine (specFault_nil a cap _).mono ?_
  rintro e w1 ⟨rfl, hb1⟩
  go_wp2_with fail
  go_ret
  exact ⟨rfl, hb1⟩
theorem implFault_cells (a : Option Addr) (cap : Nat) (l : List M.Cl) (w : World) (h : Cells w a cap l) (hn : l.length ≤ 1048576) : Calls Tryd.prog 33 #[.slice a l.length cap] w fun e w' => e = .returned (.int .i64 (M.valueFault l)) ∧ Below w.heap.size w w' := by
  obtain ⟨h1, h2, h3, rfl | ⟨b, off, rfl, hb, hr⟩⟩ := h
  · exact implFault_nil a cap w
  · exact implFault_any l b off cap w hr hb hn h2 h3
theorem implPathFault_cells (a : Option Addr) (cap : Nat) (l : List M.Cl) (w : World) (h : Cells w a cap l) (hn : l.length ≤ 1048576) : Calls Tryd.prog 32 #[.slice a l.length cap] w fun e w' => e = .returned (.int .i64 (Pth.fault l)) ∧ Below w.heap.size w w' := by
  obtain ⟨h1, h2, h3, rfl | ⟨b, off, rfl, hb, hr⟩⟩ := h
  · exact implPathFault_nil a cap w
  · exact implPathFault_any l b off cap w hr hb hn h2 h1 h3
theorem specFault_cells (a : Option Addr) (cap : Nat) (l : List M.Cl) (w : World) (h : Cells w a cap l) (hn : l.length ≤ 1048576) : Calls Tryd.prog 26 #[.slice a l.length cap] w fun e w' => e = .returned (.int .i64 (M.valueFault l)) ∧ Below w.heap.size w w' := by
  obtain ⟨h1, h2, h3, rfl | ⟨b, off, rfl, hb, hr⟩⟩ := h
  · exact specFault_nil a cap w
  · exact specFault_any l b off cap w hr hb hn h2 h3
theorem specPathFault_cells (a : Option Addr) (cap : Nat) (l : List M.Cl) (w : World) (h : Cells w a cap l) (hn : l.length ≤ 1048576) : Calls Tryd.prog 25 #[.slice a l.length cap] w fun e w' => e = .returned (.int .i64 (Pth.fault l)) ∧ Below w.heap.size w w' := by
  obtain ⟨h1, h2, h3, rfl | ⟨b, off, rfl, hb, hr⟩⟩ := h
  · exact specPathFault_nil a cap w
  · exact specPathFault_any l b off cap w hr hb hn h2 h3

/-- A path's first cell tells how many steps it has. -/
theorem Pth.first_n {p : List M.Cl} (h : Pth.fault p = 0) : 1 ≤ p.length ∧ p.length ≤ 200 ∧ (p.getD 0 M.zero).n = (p.length : Int) - 1 := by
  obtain ⟨hv, hk, hs⟩ := Pth.fault_no h
  have hl := Pth.lens hv
  have hp := (Pth.places hv hs).1
  have hcd := Pth.cell_code hv (i := 0) (by omega)
  unfold M.arity at hp
  have hge : 0 ≤ (p.getD 0 M.zero).n := by
    unfold M.cellCode at hcd
    split at hcd
    · cases hcd
    split at hcd
    · cases hcd
    split at hcd
    · cases hcd
    rename_i h3
    omega
  exact ⟨hl.1, hl.2, by omega⟩

namespace Ed
/-- What EditsFault tells of an edit. -/
def fault (e : Ed) : Int := if e.op ≠ 1 ∧ e.op ≠ 2 then 1 else if Pth.fault e.path ≠ 0 then Pth.fault e.path else if e.op = 1 then M.valueFault e.x else if 0 < e.x.length ∨ e.path.length = 1 then 1 else 0
theorem fault_op {e : Ed} (h1 : e.op ≠ 1) (h2 : e.op ≠ 2) : fault e = 1 := if_pos ⟨h1, h2⟩
theorem fault_path {e : Ed} (h : e.op = 1 ∨ e.op = 2) (hp : Pth.fault e.path ≠ 0) : fault e = Pth.fault e.path := by unfold fault; rw [if_neg (by omega), if_pos hp]
theorem fault_set {e : Ed} (h : e.op = 1) (hp : Pth.fault e.path = 0) : fault e = M.valueFault e.x := by unfold fault; rw [if_neg (by omega), if_neg (by simp [hp]), if_pos h]
theorem fault_drop {e : Ed} (h : e.op = 2) (hp : Pth.fault e.path = 0) : fault e = if 0 < e.x.length ∨ e.path.length = 1 then 1 else 0 := by unfold fault; rw [if_neg (by omega), if_neg (by simp [hp]), if_neg (by omega)]
/-- The first fault of edits. -/
def firstF : List Ed → Int
  | [] => 0
  | e :: l => if fault e = 0 then firstF l else fault e
/-- What EditsFault tells. -/
def faults (l : List Ed) : Int := if 100 < l.length then 2 else firstF l
theorem first_hit : ∀ (l : List Ed) (k : Nat), k < l.length → (∀ j, j < k → fault (l.getD j zero) = 0) → fault (l.getD k zero) ≠ 0 → firstF l = fault (l.getD k zero) := by
  intro l
  induction l with
  | nil => intro k hk; simp at hk
  | cons e l ih =>
    intro k hk hall hne
    cases k with
    | zero => simp only [List.getD_cons_zero] at hne ⊢; rw [firstF, if_neg hne]
    | succ k =>
      have h0 := hall 0 (by omega)
      simp only [List.getD_cons_zero] at h0
      simp only [List.getD_cons_succ] at hne ⊢
      rw [firstF, if_pos h0]
      exact ih k (by simpa using hk) (fun j hj => by have := hall (j + 1) (by omega); simpa only [List.getD_cons_succ] using this) hne
theorem first_none : ∀ (l : List Ed), (∀ j, j < l.length → fault (l.getD j zero) = 0) → firstF l = 0 := by
  intro l
  induction l with
  | nil => intro _; rfl
  | cons e l ih =>
    intro hall
    have h0 := hall 0 (by simp)
    simp only [List.getD_cons_zero] at h0
    rw [firstF, if_pos h0]
    exact ih (fun j hj => by have := hall (j + 1) (by simpa using hj); simpa only [List.getD_cons_succ] using this)
theorem faults_many {l : List Ed} (h : 100 < l.length) : faults l = 2 := if_pos h
theorem faults_few {l : List Ed} (h : ¬ 100 < l.length) : faults l = firstF l := if_neg h
theorem faults_no {l : List Ed} (h : faults l = 0) : l.length ≤ 100 ∧ ∀ j, j < l.length → fault (l.getD j zero) = 0 := by
  unfold faults at h
  split at h
  · cases h
  rename_i hl
  refine ⟨by omega, ?_⟩
  clear hl
  induction l with
  | nil => intro j hj; simp at hj
  | cons e l ih =>
    rw [firstF] at h
    split at h
    · rename_i h0
      intro j hj
      cases j with
      | zero => simpa only [List.getD_cons_zero] using h0
      | succ j => simpa only [List.getD_cons_succ] using ih h j (by simpa using hj)
    · rename_i h0; exact absurd h h0

set_option maxRecDepth 100000 in
set_option maxHeartbeats 1000000 in
theorem implEdit_any (c : Ed) (va vb : Option Addr) (vc vd : Nat) (w : World) (hc : Cells w va vc c.path) (hd : Cells w vb vd c.x) (hn : c.small) :
    Calls Tryd.prog 21 #[.agg #[.int .i64 c.op, .slice va c.path.length vc, .slice vb c.x.length vd]] w fun e w' => e = .returned (.int .i64 (fault c)) ∧ Below w.heap.size w w' := by
  obtain ⟨W0, hW0⟩ : ∃ W0, W0 = w.alloc (.cells #[.int .i64 c.op, .slice va c.path.length vc, .slice vb c.x.length vd] 40) := ⟨_, rfl⟩
  have B0 : Below w.heap.size w W0 := by rw [hW0]; exact (Below.refl w.heap.size w).alloc (Nat.le_refl _) _
  have O0 : Own W0 w.heap.size 40 [.int .i64 c.op, .slice va c.path.length vc, .slice vb c.x.length vd] := by rw [hW0]; exact ⟨_, heap_alloc_new _ _, rfl⟩
  have q0 := O0.cell 0
  have q1 := O0.cell 1
  simp only [List.getElem?_cons_zero, List.getElem?_cons_succ] at q0 q1
  have HP := hide (implPathFault_cells va vc c.path W0 (hc.below B0) hn.1)
  have HX := hide (fun W (h : Below w.heap.size w W) => implFault_cells vb vd c.x W (hd.below h) hn.2)
  have HC := hide hc
  have hxl := hd.2.1
  have hxm := hd.1
  have HO := hide O0
  clear hc hd
  by_cases h1 : c.op = 1
  · have FP := hide (fault_path (e := c) (.inl h1))
    have FS := hide (fault_set (e := c) h1)
    rw [h1] at q0 hW0 HO ⊢
    clear h1
    go_enter Tryd.func21, Tryd.ntmps21
    go_upto_region 1 with fail
    rw [← hW0]
    clear hW0
    go_wp2_with fail
    refine (unhide HP).mono ?_
    rintro e w1 ⟨rfl, hb1⟩
    have B1 : Below w.heap.size w w1 := B0.trans (hb1.mono B0.size)
    have O1 := (unhide HO).below hb1 (unhide HO).lt
    clear HP q0 q1 hb1
    generalize hq : Pth.fault c.path = q at *
    by_cases hz : q = 0
    · subst hz
      have fin := hide ((unhide FS) rfl)
      have HV := hide ((unhide HX) w1 B1)
      have q0 := O1.cell 0
      have q2 := O1.cell 2
      simp only [List.getElem?_cons_zero, List.getElem?_cons_succ] at q0 q2
      clear FP FS hq HX O1 HO
      go_wp2_with fail
      refine (unhide HV).mono ?_
      rintro e w2 ⟨rfl, hb2⟩
      have B2 : Below w.heap.size w w2 := B1.trans (hb2.mono B1.size)
      clear HV hb2 q0 q2
      generalize M.valueFault c.x = r at *
      go_wp2_with fail
      go_ret
      exact ⟨ret_int (unhide fin).symm, B2⟩
    · have fin := hide ((unhide FP) hz)
      have hz' : (q == 0) = false := by simp [hz]
      clear FP FS hq HX O1 HO
      go_wp2_with fail
      go_ret
      exact ⟨ret_int (unhide fin).symm, B1⟩
  by_cases h2 : c.op = 2
  · have FP := hide (fault_path (e := c) (.inr h2))
    have FS := hide (fault_drop (e := c) h2)
    rw [h2] at q0 hW0 HO ⊢
    clear h1 h2
    go_enter Tryd.func21, Tryd.ntmps21
    go_upto_region 1 with fail
    rw [← hW0]
    clear hW0
    go_wp2_with fail
    refine (unhide HP).mono ?_
    rintro e w1 ⟨rfl, hb1⟩
    have B1 : Below w.heap.size w w1 := B0.trans (hb1.mono B0.size)
    have O1 := (unhide HO).below hb1 (unhide HO).lt
    clear HP q0 q1 hb1
    have HN := hide (fun h => Pth.first_n (p := c.path) h)
    generalize hq : Pth.fault c.path = q at *
    by_cases hz : q = 0
    · subst hz
      have q0 := O1.cell 0
      have q1 := O1.cell 1
      have q2 := O1.cell 2
      simp only [List.getElem?_cons_zero, List.getElem?_cons_succ] at q0 q1 q2
      have FS := hide ((unhide FS) rfl)
      have hp := (unhide HN) rfl
      have CC := (unhide HC).below B1
      clear FP hq HX O1 HO HN HC
      by_cases hx : 0 < c.x.length
      · have fin := hide (show fault c = 1 by rw [unhide FS, if_pos (.inl hx)])
        have hxI : (0 : Int) < (c.x.length : Int) := by omega
        clear FS hp CC
        go_wp2_with fail
        go_ret
        exact ⟨ret_int (unhide fin).symm, B1⟩
      obtain ⟨hp1, hp2, hp3⟩ := hp
      obtain ⟨cc1, cc2, cc3, cc4⟩ := CC
      have hx0 : c.x.length = 0 := by omega
      have FS := hide (show fault c = if c.path.length = 1 then 1 else 0 by rw [unhide FS]; by_cases e : c.path.length = 1 <;> simp [hx0, e])
      rw [hx0] at q2
      clear hx hx0 hxl hn
      obtain ⟨b, off, rfl, hb, hr⟩ : ∃ b off, va = some ⟨b, off, none⟩ ∧ b < w1.heap.size ∧ _root_.Go.Proofs.YtakdlcgiieaieaaDoor.Row w1 b off c.path := by
        rcases cc4 with e | e
        · rw [e] at hp1; simp at hp1
        · exact e
      have HS := hide (stepsOf_any c.path b off vc w1 hp1 cc1 cc2 hr)
      have hdl := List.length_drop (i := 1) (l := c.path)
      generalize c.path.drop 1 = cs at *
      have HDL := hide hdl
      have hcs : cs.length ≤ 200 := by omega
      clear hr cc3 cc4 hdl hp3
      by_cases e : cs.length = 0
      · have fin := hide (show fault c = 1 by rw [unhide FS, if_pos (by have := unhide HDL; omega)])
        rw [e] at HS
        clear FS HDL e
        go_wp2_with fail
        refine (unhide HS).mono ?_
        rintro e2 w2 ⟨o, rfl, rfl, hrr⟩
        go_wp2_with fail
        go_ret
        exact ⟨ret_int (unhide fin).symm, B1⟩
      · have fin := hide (show fault c = 0 by rw [unhide FS, if_neg (by have := unhide HDL; omega)])
        have e' : ((cs.length : Int) == 0) = false := by simp; intro h; exact e (by rw [h]; rfl)
        clear FS HDL e
        go_wp2_with fail
        refine (unhide HS).mono ?_
        rintro e2 w2 ⟨o, rfl, rfl, hrr⟩
        go_wp2_with fail
        go_ret
        exact ⟨ret_int (unhide fin).symm, B1⟩
    · have fin := hide ((unhide FP) hz)
      have hz' : (q == 0) = false := by simp [hz]
      clear FP FS hq HX O1 HO HN HC
      go_wp2_with fail
      go_ret
      exact ⟨ret_int (unhide fin).symm, B1⟩
  · have fin := hide (fault_op h1 h2)
    have e1 : (c.op == 1) = false := by simp [h1]
    have n1 : (c.op != 1) = true := by simp [h1]
    have e2 : (c.op == 2) = false := by simp [h2]
    have n2 : (c.op != 2) = true := by simp [h2]
    clear HP HX HO HC h1 h2
    go_enter Tryd.func21, Tryd.ntmps21
    go_upto_region 1 with fail
    rw [← hW0]
    clear hW0
    go_wp2_with fail
    go_ret
    exact ⟨ret_int (unhide fin).symm, B0⟩

set_option maxRecDepth 100000 in
set_option maxHeartbeats 1000000 in
theorem specEdit_any (c : Ed) (va vb : Option Addr) (vc vd : Nat) (w : World) (hc : Cells w va vc c.path) (hd : Cells w vb vd c.x) (hn : c.small) :
    Calls Tryd.prog 18 #[.agg #[.int .i64 c.op, .slice va c.path.length vc, .slice vb c.x.length vd]] w fun e w' => e = .returned (.int .i64 (fault c)) ∧ Below w.heap.size w w' := by
  obtain ⟨W0, hW0⟩ : ∃ W0, W0 = w.alloc (.cells #[.int .i64 c.op, .slice va c.path.length vc, .slice vb c.x.length vd] 40) := ⟨_, rfl⟩
  have B0 : Below w.heap.size w W0 := by rw [hW0]; exact (Below.refl w.heap.size w).alloc (Nat.le_refl _) _
  have O0 : Own W0 w.heap.size 40 [.int .i64 c.op, .slice va c.path.length vc, .slice vb c.x.length vd] := by rw [hW0]; exact ⟨_, heap_alloc_new _ _, rfl⟩
  have q0 := O0.cell 0
  have q1 := O0.cell 1
  simp only [List.getElem?_cons_zero, List.getElem?_cons_succ] at q0 q1
  have HP := hide (specPathFault_cells va vc c.path W0 (hc.below B0) hn.1)
  have HX := hide (fun W (h : Below w.heap.size w W) => specFault_cells vb vd c.x W (hd.below h) hn.2)
  have HC := hide hc
  have hxl := hd.2.1
  have hxm := hd.1
  have HO := hide O0
  clear hc hd
  by_cases h1 : c.op = 1
  · have FP := hide (fault_path (e := c) (.inl h1))
    have FS := hide (fault_set (e := c) h1)
    rw [h1] at q0 hW0 HO ⊢
    clear h1
    go_enter Tryd.func18, Tryd.ntmps18
    go_upto_region 1 with fail
    rw [← hW0]
    clear hW0
    go_wp2_with fail
    refine (unhide HP).mono ?_
    rintro e w1 ⟨rfl, hb1⟩
    have B1 : Below w.heap.size w w1 := B0.trans (hb1.mono B0.size)
    have O1 := (unhide HO).below hb1 (unhide HO).lt
    clear HP q0 q1 hb1
    generalize hq : Pth.fault c.path = q at *
    by_cases hz : q = 0
    · subst hz
      have fin := hide ((unhide FS) rfl)
      have HV := hide ((unhide HX) w1 B1)
      have q0 := O1.cell 0
      have q2 := O1.cell 2
      simp only [List.getElem?_cons_zero, List.getElem?_cons_succ] at q0 q2
      clear FP FS hq HX O1 HO
      go_wp2_with fail
      refine (unhide HV).mono ?_
      rintro e w2 ⟨rfl, hb2⟩
      have B2 : Below w.heap.size w w2 := B1.trans (hb2.mono B1.size)
      clear HV hb2 q0 q2
      generalize M.valueFault c.x = r at *
      go_wp2_with fail
      go_ret
      exact ⟨ret_int (unhide fin).symm, B2⟩
    · have fin := hide ((unhide FP) hz)
      have hz' : (q == 0) = false := by simp [hz]
      clear FP FS hq HX O1 HO
      go_wp2_with fail
      go_ret
      exact ⟨ret_int (unhide fin).symm, B1⟩
  by_cases h2 : c.op = 2
  · have FP := hide (fault_path (e := c) (.inr h2))
    have FS := hide (fault_drop (e := c) h2)
    rw [h2] at q0 hW0 HO ⊢
    clear h1 h2
    go_enter Tryd.func18, Tryd.ntmps18
    go_upto_region 1 with fail
    rw [← hW0]
    clear hW0
    go_wp2_with fail
    refine (unhide HP).mono ?_
    rintro e w1 ⟨rfl, hb1⟩
    have B1 : Below w.heap.size w w1 := B0.trans (hb1.mono B0.size)
    have O1 := (unhide HO).below hb1 (unhide HO).lt
    clear HP q0 q1 hb1
    have HN := hide (fun h => Pth.first_n (p := c.path) h)
    generalize hq : Pth.fault c.path = q at *
    by_cases hz : q = 0
    · subst hz
      have q0 := O1.cell 0
      have q1 := O1.cell 1
      have q2 := O1.cell 2
      simp only [List.getElem?_cons_zero, List.getElem?_cons_succ] at q0 q1 q2
      have FS := hide ((unhide FS) rfl)
      have hp := (unhide HN) rfl
      have CC := (unhide HC).below B1
      clear FP hq HX O1 HO HN HC
      by_cases hx : 0 < c.x.length
      · have fin := hide (show fault c = 1 by rw [unhide FS, if_pos (.inl hx)])
        have hxI : (0 : Int) < (c.x.length : Int) := by omega
        clear FS hp CC
        go_wp2_with fail
        go_ret
        exact ⟨ret_int (unhide fin).symm, B1⟩
      obtain ⟨hp1, hp2, hp3⟩ := hp
      obtain ⟨cc1, cc2, cc3, cc4⟩ := CC
      have hx0 : c.x.length = 0 := by omega
      have FS := hide (show fault c = if c.path.length = 1 then 1 else 0 by rw [unhide FS]; by_cases e : c.path.length = 1 <;> simp [hx0, e])
      rw [hx0] at q2
      clear hx hx0 hxl hn
      obtain ⟨b, off, rfl, hb, hr⟩ : ∃ b off, va = some ⟨b, off, none⟩ ∧ b < w1.heap.size ∧ _root_.Go.Proofs.YtakdlcgiieaieaaDoor.Row w1 b off c.path := by
        rcases cc4 with e | e
        · rw [e] at hp1; simp at hp1
        · exact e
      obtain ⟨f0, f1, f2, f3, f4⟩ := hr 0 (by omega)
      simp only [Nat.zero_mul, Nat.add_zero] at f0 f1 f2 f3 f4
      have hpI : (0 : Int) < (c.path.length : Int) := by omega
      rw [hp3] at f4
      clear hr cc3 cc4
      by_cases e : c.path.length = 1
      · have fin := hide (show fault c = 1 by rw [unhide FS, if_pos e])
        rw [e] at f4 q1
        clear FS hp3 e hpI hp1 hp2 cc2
        simp only [Int.natCast_one, Int.sub_self] at f4
        go_wp2_with fail
        go_ret
        exact ⟨ret_int (unhide fin).symm, B1⟩
      · have fin := hide (show fault c = 0 by rw [unhide FS, if_neg e])
        have e' : (((c.path.length : Int) - 1) == 0) = false := by simp; intro h; exact e (by omega)
        obtain ⟨N, hN⟩ : ∃ N : Int, N = (c.path.length : Int) - 1 := ⟨_, rfl⟩
        rw [← hN] at f4 e'
        clear FS hp3 e hN
        go_wp2_with fail
        go_ret
        exact ⟨ret_int (unhide fin).symm, B1⟩
    · have fin := hide ((unhide FP) hz)
      have hz' : (q == 0) = false := by simp [hz]
      clear FP FS hq HX O1 HO HN HC
      go_wp2_with fail
      go_ret
      exact ⟨ret_int (unhide fin).symm, B1⟩
  · have fin := hide (fault_op h1 h2)
    have e1 : (c.op == 1) = false := by simp [h1]
    have n1 : (c.op != 1) = true := by simp [h1]
    have e2 : (c.op == 2) = false := by simp [h2]
    have n2 : (c.op != 2) = true := by simp [h2]
    clear HP HX HO HC h1 h2
    go_enter Tryd.func18, Tryd.ntmps18
    go_upto_region 1 with fail
    rw [← hW0]
    clear hW0
    go_wp2_with fail
    go_ret
    exact ⟨ret_int (unhide fin).symm, B0⟩

set_option maxRecDepth 100000 in
set_option maxHeartbeats 1000000 in
theorem implEdits_any (a : Option Addr) (cap : Nat) (l : List Ed) (w : World) (h : Arg w a cap l) (hn : l.length ≤ 1048576) (hv : ∀ i, i < l.length → (l.getD i zero).small) :
    Calls Tryd.prog 14 #[.slice a l.length cap] w fun e w' => e = .returned (.int .i64 (faults l)) ∧ Below w.heap.size w w' := by
  have hcap := h.2.1
  have hcm := h.1
  have HA := hide h
  have HV := hide hv
  clear h hv
  by_cases hm : 100 < l.length
  · have fin := hide (faults_many hm)
    have hmI : (100 : Int) < (l.length : Int) := by omega
    go_enter Tryd.func14, Tryd.ntmps14
    go_wp2_with fail
    go_ret
    exact ⟨ret_int (unhide fin).symm, Below.refl _ _⟩
  have FF := hide (faults_few hm)
  have hmI : ¬ (100 : Int) < (l.length : Int) := by omega
  have hl : l.length ≤ 100 := by omega
  clear hm
  go_enter Tryd.func14, Tryd.ntmps14
  go_wp2_with fail
  go_loopg [11] l.length (fun g s11 wr => ∃ k : Nat, Hid (g = l.length - k) ∧ s11 = .int .i64 k ∧ k ≤ l.length ∧ Hid (∀ j, j < k → fault (l.getD j zero) = 0) ∧ Below w.heap.size w wr)
  case atStart => exact ⟨0, rfl, rfl, by omega, fun j hj => absurd hj (by omega), Below.refl _ _⟩
  case round =>
    obtain ⟨k, hg, rfl, hk, hall, hbel⟩ := hrel
    by_cases hlt : k < l.length
    · have hltI : (k : Int) < (l.length : Int) := by omega
      obtain ⟨_, _, _, h4⟩ := (unhide HA).below hbel
      obtain ⟨b, off, rfl, hb, hr⟩ : ∃ b off, a = some ⟨b, off, none⟩ ∧ b < wr.heap.size ∧ ∀ i, i < l.length → ArgAt wr b (off + i * 3) (l.getD i zero) := by
        rcases h4 with e | e
        · rw [e] at hlt; simp at hlt
        · exact e
      obtain ⟨f0, ⟨va, vc, f1, hc⟩, vb, vd, f2, hd⟩ := hr k hlt
      have hsm := (unhide HV) k hlt
      have YES := hide (fun (h : fault (l.getD k zero) = 0) => (show ∀ j, j < k + 1 → fault (l.getD j zero) = 0 from fun j hj => by
        by_cases e : j = k
        · rw [e]; exact h
        · exact hall.out j (by omega)))
      have NO := hide (fun (h : fault (l.getD k zero) ≠ 0) => (unhide FF).trans (first_hit l k hlt hall.out h))
      clear hr hall FF HA
      generalize l.getD k zero = n at *
      have HQ := hide (fun y => implEdit_any n va vb vc vd (wr.alloc y) (hc.below ((Below.refl _ _).alloc (Nat.le_refl _) y)) (hd.below ((Below.refl _ _).alloc (Nat.le_refl _) y)) hsm)
      have HB := hide (fun y => hbel.alloc hbel.size y)
      clear hc hd hsm
      go_wp2_with fail
      refine ((unhide HQ) _).mono ?_
      rintro e w1 ⟨rfl, hb1⟩
      have B1 : Below w.heap.size w w1 := ((unhide HB) _).trans (hb1.mono ((unhide HB) _).size)
      clear HQ HB hb1 f0 f1 f2
      generalize fault n = q at *
      by_cases hz : q = 0
      · have Y := hide ((unhide YES) hz)
        subst hz
        clear NO YES
        go_wp2_with fail
        go_roundg (l.length - (k + 1))
        case rel => exact ⟨k + 1, rfl, by go_num, by omega, unhide Y, B1⟩
        case measure => have := hg.out; omega
      · have fin := hide ((unhide NO) hz)
        have hz' : (q == 0) = false := by simp [hz]
        clear NO YES hz
        go_wp2_with fail
        go_ret
        exact ⟨ret_int (unhide fin).symm, B1⟩
    · have hke : k = l.length := by omega
      have fin := hide ((unhide FF).trans (first_none l (by rw [← hke]; exact hall.out)))
      clear hke hall FF HA
      go_wp2_with fail
      go_ret
      exact ⟨ret_int (unhide fin).symm, hbel⟩

set_option maxRecDepth 100000 in
set_option maxHeartbeats 1000000 in
theorem specEdits_any (a : Option Addr) (cap : Nat) (l : List Ed) (w : World) (h : Arg w a cap l) (hn : l.length ≤ 1048576) (hv : ∀ i, i < l.length → (l.getD i zero).small) :
    Calls Tryd.prog 11 #[.slice a l.length cap] w fun e w' => e = .returned (.int .i64 (faults l)) ∧ Below w.heap.size w w' := by
  have hcap := h.2.1
  have hcm := h.1
  have HA := hide h
  have HV := hide hv
  clear h hv
  by_cases hm : 100 < l.length
  · have fin := hide (faults_many hm)
    have hmI : (100 : Int) < (l.length : Int) := by omega
    go_enter Tryd.func11, Tryd.ntmps11
    go_wp2_with fail
    go_ret
    exact ⟨ret_int (unhide fin).symm, Below.refl _ _⟩
  have FF := hide (faults_few hm)
  have hmI : ¬ (100 : Int) < (l.length : Int) := by omega
  have hl : l.length ≤ 100 := by omega
  clear hm
  go_enter Tryd.func11, Tryd.ntmps11
  go_wp2_with fail
  go_loopg [3] l.length (fun g s3 wr => ∃ k : Nat, Hid (g = l.length - k) ∧ s3 = .int .i64 k ∧ k ≤ l.length ∧ Hid (∀ j, j < k → fault (l.getD j zero) = 0) ∧ Below w.heap.size w wr)
  case atStart => exact ⟨0, rfl, rfl, by omega, fun j hj => absurd hj (by omega), Below.refl _ _⟩
  case round =>
    obtain ⟨k, hg, rfl, hk, hall, hbel⟩ := hrel
    by_cases hlt : k < l.length
    · have hltI : (k : Int) < (l.length : Int) := by omega
      obtain ⟨_, _, _, h4⟩ := (unhide HA).below hbel
      obtain ⟨b, off, rfl, hb, hr⟩ : ∃ b off, a = some ⟨b, off, none⟩ ∧ b < wr.heap.size ∧ ∀ i, i < l.length → ArgAt wr b (off + i * 3) (l.getD i zero) := by
        rcases h4 with e | e
        · rw [e] at hlt; simp at hlt
        · exact e
      obtain ⟨f0, ⟨va, vc, f1, hc⟩, vb, vd, f2, hd⟩ := hr k hlt
      have hsm := (unhide HV) k hlt
      have YES := hide (fun (h : fault (l.getD k zero) = 0) => (show ∀ j, j < k + 1 → fault (l.getD j zero) = 0 from fun j hj => by
        by_cases e : j = k
        · rw [e]; exact h
        · exact hall.out j (by omega)))
      have NO := hide (fun (h : fault (l.getD k zero) ≠ 0) => (unhide FF).trans (first_hit l k hlt hall.out h))
      clear hr hall FF HA
      generalize l.getD k zero = n at *
      have HQ := hide (specEdit_any n va vb vc vd wr hc hd hsm)
      clear hc hd hsm
      go_wp2_with fail
      refine (unhide HQ).mono ?_
      rintro e w1 ⟨rfl, hb1⟩
      have B1 : Below w.heap.size w w1 := hbel.trans (hb1.mono hbel.size)
      clear HQ hb1 f0 f1 f2
      generalize fault n = q at *
      by_cases hz : q = 0
      · have Y := hide ((unhide YES) hz)
        subst hz
        clear NO YES
        go_wp2_with fail
        go_roundg (l.length - (k + 1))
        case rel => exact ⟨k + 1, rfl, by go_num, by omega, unhide Y, B1⟩
        case measure => have := hg.out; omega
      · have fin := hide ((unhide NO) hz)
        have hz' : (q == 0) = false := by simp [hz]
        clear NO YES hz
        go_wp2_with fail
        go_ret
        exact ⟨ret_int (unhide fin).symm, B1⟩
    · have hke : k = l.length := by omega
      have fin := hide ((unhide FF).trans (first_none l (by rw [← hke]; exact hall.out)))
      clear hke hall FF HA
      go_wp2_with fail
      go_ret
      exact ⟨ret_int (unhide fin).symm, hbel⟩

theorem Row.arg {w : World} {b : Nat} {l : List Ed} (h : Row w b l) (hb : b < w.heap.size) (hn : l.length ≤ 1048576) (hok : ∀ e ∈ l, e.ok) (hv : ∀ i, i < l.length → (l.getD i zero).small) : Arg w (some ⟨b, 0, none⟩) l.length l := by
  refine ⟨by omega, Nat.le_refl _, hok, .inr ⟨b, 0, rfl, hb, fun i hi => ?_⟩⟩
  obtain ⟨f0, ⟨g, f1, hg, hr⟩, k, f2, hk, hs⟩ := h i hi
  have ho : (l.getD i zero).ok := hok _ (by rw [List.getD_eq_getElem?_getD, List.getElem?_eq_getElem hi]; exact List.getElem_mem _)
  have hs2 := hv i hi
  rw [Nat.zero_add]
  exact ⟨f0, ⟨_, _, f1, by have := hs2.1; omega, Nat.le_refl _, ho.2.1, .inr ⟨g, 0, rfl, hg, hr⟩⟩, _, _, f2, by have := hs2.2; omega, Nat.le_refl _, ho.2.2, .inr ⟨k, 0, rfl, hk, hs⟩⟩
end Ed
end Go.Proofs.YtakdlcgiieaieaaDoor

namespace Go.Proofs.YtakdlcgiieaieaaDoor
open Go.RowKit
set_option linter.unusedVariables false
set_option linter.unusedSimpArgs false

namespace Ed
section
variable {P : Program} (w : World)
theorem wp_str {o : Oper} {a : Act} {K : Act → World → Prop} {Q : Exit → Act → World → Prop} (s x : Operand) (t u : TypeId)
    (ho : o.op = .call { callee := .builtin .append, args := #[s, x], argTypes := #[t, u] })
    (base : Nat) (e : TypeId) (i : TypeInfo) (ht : P.underlying t = some (.slice e)) (hu : P.underlying u = some .string) (hi : P.info? e = some i) (hz : i.zero = some (.int .u8 0))
    (hsize : i.size = 1) (hby : i.bytes = 1)
    (v : Value) (n : Nat) (xs : List Value) (hs : a.eval s = v) (hown : w.ownsRow base e 1 v n xs) (q : ByteArray) (hx : a.eval x = .string q)
    (h63 : n + q.size ≤ maxLen) (hbytes : n + q.size ≤ 140737488355328) (hbase : base ≤ w.heap.size)
    (h : ∀ v' w', w'.ownsRow base e 1 v' (n + q.size) (xs ++ Lib.strCells q) → w.grownBy w' v.ownBlock → K (a.put o.dst v') w') : Oper.wp P o a w K Q := by
  obtain ⟨v', w', hr, h2, h3, _⟩ := Lib.run_append_own_string (P := P) w base t u o.type e i ht hu hi hz hsize hby v n xs hown q h63 hbytes hbase
  unfold Oper.wp execOp
  simp only [ho, resolve, invoke, builtin, Sem.run_bind, Sem.run_pure, Result.andThen_ok, List.map_toArray, List.map_cons, List.map_nil, hs, hx, hr]
  exact h v' w' h2 h3
theorem wp_app {o : Oper} {a : Act} {K : Act → World → Prop} {Q : Exit → Act → World → Prop} (s x : Operand) (t : TypeId)
    (ho : o.op = .call { callee := .builtin .append, args := #[s, x], argTypes := #[t, t] })
    (base : Nat) (e : TypeId) (i : TypeInfo) (z : Value) (size bytes : Nat) (ht : P.underlying t = some (.slice e)) (hi : P.info? e = some i) (hz : i.zero = some z)
    (hsize : i.size = size) (hby : i.bytes = bytes) (hzs : z.cells.size = size) (hsz : 0 < size)
    (v : Value) (n : Nat) (xs : List Value) (hs : a.eval s = v) (hown : w.ownsRow base e size v n xs)
    (ad : Addr) (m c : Nat) (news : List Value) (hx : a.eval x = .slice (some ad) m c) (hl : news.length = m * size) (hnews : ∀ j u, news[j]? = some u → w.cell? (ad.add j) = some u) (h1 : ∀ u ∈ news, u.oneCell' = true)
    (h63 : n + m ≤ maxLen) (hbytes : (n + m) * bytes ≤ 140737488355328) (hbase : base ≤ w.heap.size)
    (h : ∀ v' w', w'.ownsRow base e size v' (n + m) (xs ++ news) → w.grownBy w' v.ownBlock → K (a.put o.dst v') w') : Oper.wp P o a w K Q := by
  obtain ⟨v', w', hr, h2, h3, _⟩ := run_append_own (P := P) w base t o.type e i z size bytes ht hi hz hsize hby hzs hsz v n xs hown ad m c news hl hnews h1 h63 hbytes hbase
  unfold Oper.wp execOp
  simp only [ho, resolve, invoke, builtin, Sem.run_bind, Sem.run_pure, Result.andThen_ok, List.map_toArray, List.map_cons, List.map_nil, hs, hx, hr]
  exact h v' w' h2 h3
end

/-- The line of an edit, without its line feed. -/
def lineL (e : Ed) : List UInt8 := if e.op = 2 then [100, 114, 111, 112, 32] ++ J.encL 200 e.path else [115, 101, 116, 32] ++ (J.encL 200 e.path ++ ([32] ++ J.encL 200 e.x))
theorem line_drop {e : Ed} (h : e.op = 2) : lineL e = [100, 114, 111, 112, 32] ++ J.encL 200 e.path := if_pos h
theorem line_set {e : Ed} (h : e.op = 1) : lineL e = [115, 101, 116, 32] ++ (J.encL 200 e.path ++ ([32] ++ J.encL 200 e.x)) := if_neg (by omega)
/-- The text of the first k edits. -/
def textK (l : List Ed) : Nat → List UInt8
  | 0 => []
  | k + 1 => textK l k ++ (lineL (l.getD k zero) ++ [10])
def textOut (l : List Ed) : Int × ByteArray := if faults l = 0 then (0, J.bytes (textK l l.length)) else (faults l, ByteArray.empty)
theorem text_ok {l : List Ed} (h : faults l = 0) : textOut l = (0, J.bytes (textK l l.length)) := if_pos h
theorem text_no {l : List Ed} (h : faults l ≠ 0) : textOut l = (faults l, ByteArray.empty) := if_neg h
theorem encLen {p : List M.Cl} (hv : M.valueFault p = 0) : (J.encL 200 p).length ≤ 80000 := by
  have hl := (M.fault_zero hv).1
  have hpl : (part p 0).length ≤ 200 := by have := part_len hv (show 0 < p.length by omega); have := (end_gt hv (show 0 < p.length by omega)).2; have := (M.fault_zero hv).2.1; omega
  rw [← J.encL_whole 199 hv (by omega)]
  exact J.enc_bd 200 hv (by omega) hpl
theorem fault_ok2 {e : Ed} (h : fault e = 0) : Pth.fault e.path = 0 ∧ ((e.op = 1 ∧ M.valueFault e.x = 0) ∨ e.op = 2) := by
  unfold fault at h
  split at h
  · cases h
  rename_i h1
  split at h
  · rename_i h2; exact absurd h h2
  rename_i h2
  refine ⟨by omega, ?_⟩
  split at h
  · rename_i h3; exact .inl ⟨h3, h⟩
  · exact .inr (by omega)
theorem line_len {e : Ed} (h : fault e = 0) : (lineL e).length ≤ 160010 := by
  obtain ⟨hp, ⟨h1, hx⟩ | h2⟩ := fault_ok2 h
  · have a := encLen (Pth.fault_no hp).1
    have b := encLen hx
    rw [line_set h1]; simp only [List.length_append, List.length_cons, List.length_nil]; omega
  · have a := encLen (Pth.fault_no hp).1
    rw [line_drop h2]; simp only [List.length_append, List.length_cons, List.length_nil]; omega
theorem text_len {l : List Ed} (h : ∀ j, j < l.length → fault (l.getD j zero) = 0) : ∀ k, k ≤ l.length → (textK l k).length ≤ 160011 * k
  | 0, _ => by simp [textK]
  | k + 1, hk => by
    have h1 := text_len h k (by omega)
    have h2 := line_len (h k (by omega))
    rw [textK, List.length_append, List.length_append, Nat.mul_add]
    show _ + (_ + 1) ≤ _
    omega
theorem text_room {l : List Ed} (h : ∀ j, j < l.length → fault (l.getD j zero) = 0) (hl : l.length ≤ 100) {k : Nat} (hk : k ≤ l.length) : (textK l k).length ≤ 16001100 := by
  have h1 := text_len h k hk
  have h3 : 160011 * k ≤ 160011 * 100 := Nat.mul_le_mul_left _ (by omega)
  omega
theorem row_of {w : World} {a : Option Addr} {cap : Nat} {l : List M.Cl} (h : Cells w a cap l) (hl : 1 ≤ l.length) : ∃ b off, a = some ⟨b, off, none⟩ ∧ b < w.heap.size ∧ _root_.Go.Proofs.YtakdlcgiieaieaaDoor.Row w b off l := by
  rcases h.2.2.2 with e | e
  · rw [e] at hl; simp at hl
  · exact e
theorem room {L : Nat} (h : L ≤ 20000100) : L + 100000 * 200 ≤ 100000000000 := Nat.le_trans (Nat.add_le_add_right h _) (by decide)

set_option maxRecDepth 100000 in
set_option maxHeartbeats 1000000 in
theorem line_any (c : Ed) (va vb : Option Addr) (vc vd : Nat) (w : World) (hc : Cells w va vc c.path) (hd : Cells w vb vd c.x) (hf : fault c = 0) :
    Calls Tryd.prog 12 #[.agg #[.int .i64 c.op, .slice va c.path.length vc, .slice vb c.x.length vd]] w fun e w' => e = .returned (.string (J.bytes (lineL c))) ∧ Below w.heap.size w w' := by
  obtain ⟨hp, hkd⟩ := fault_ok2 hf
  have hpv := (Pth.fault_no hp).1
  have hpl := Pth.lens hpv
  obtain ⟨b1, o1, rfl, hb1, hr1⟩ := row_of hc hpl.1
  obtain ⟨W0, hW0⟩ : ∃ W0, W0 = w.alloc (.cells #[.int .i64 c.op, .slice (some ⟨b1, o1, none⟩) c.path.length vc, .slice vb c.x.length vd] 40) := ⟨_, rfl⟩
  have B0 : Below w.heap.size w W0 := by rw [hW0]; exact (Below.refl w.heap.size w).alloc (Nat.le_refl _) _
  have O0 : Own W0 w.heap.size 40 [.int .i64 c.op, .slice (some ⟨b1, o1, none⟩) c.path.length vc, .slice vb c.x.length vd] := by rw [hW0]; exact ⟨_, heap_alloc_new _ _, rfl⟩
  have q0 := O0.cell 0
  have q1 := O0.cell 1
  have q2 := O0.cell 2
  simp only [List.getElem?_cons_zero, List.getElem?_cons_succ] at q0 q1 q2
  have HE := hide (fun W (h : Below W0.heap.size W0 W) => l2Encode_all 200 c.path b1 o1 vc W hpv hpl.2 (hr1.below (B0.trans (h.mono B0.size)) hb1) (Nat.lt_of_lt_of_le hb1 (Nat.le_trans B0.size h.size)) hc.2.1 hc.2.2.1)
  have hel := encLen hpv
  have HD := hide hd
  have hO0 := hide O0
  clear hc hd hr1 hf O0
  rcases hkd with ⟨h1, hx⟩ | h2
  · obtain ⟨b2, o2, rfl, hb2, hr2⟩ := row_of (unhide HD) (Pth.lens hx).1
    have HX := hide (fun W (h : Below W0.heap.size W0 W) => l2Encode_all 200 c.x b2 o2 vd W hx (Pth.lens hx).2 (hr2.below (B0.trans (h.mono B0.size)) hb2) (Nat.lt_of_lt_of_le hb2 (Nat.le_trans B0.size h.size)) (unhide HD).2.1 (unhide HD).2.2.1)
    have hxl := encLen hx
    have fin := hide (show J.bytes (lineL c) = (({ data := #[115, 101, 116, 32] } : ByteArray) ++ J.bytes (J.encL 200 c.path) ++ ({ data := #[32] } : ByteArray)) ++ J.bytes (J.encL 200 c.x) by
      rw [line_set h1, bytes_two, bytes_two, bytes_two, ByteArray.append_assoc, ByteArray.append_assoc]
      rfl)
    have hs1 : (J.bytes (J.encL 200 c.path)).size ≤ 80000 := by rw [J.bytes_size]; exact hel
    have hs2 : (J.bytes (J.encL 200 c.x)).size ≤ 80000 := by rw [J.bytes_size]; exact hxl
    rw [h1] at q0 hW0 hO0 ⊢
    have KEEP1 := hide (fun W (hW : Below W0.heap.size W0 W) => (hW.cell (unhide hO0).lt (p := ⟨w.heap.size, 1, none⟩)).trans q1)
    have KEEP2 := hide (fun W (hW : Below W0.heap.size W0 W) => (hW.cell (unhide hO0).lt (p := ⟨w.heap.size, 2, none⟩)).trans q2)
    clear h1 hx HD hr2 hel hxl hpv hpl hp
    generalize J.bytes (J.encL 200 c.path) = E1 at *
    generalize J.bytes (J.encL 200 c.x) = E2 at *
    have ht1 : (({ data := #[115, 101, 116, 32] } : ByteArray) ++ E1).size ≤ 80004 := by rw [ByteArray.size_append]; show 4 + _ ≤ _; omega
    have ht2 : (({ data := #[115, 101, 116, 32] } : ByteArray) ++ E1 ++ ({ data := #[32] } : ByteArray)).size ≤ 80005 := by rw [ByteArray.size_append]; show _ + 1 ≤ _; omega
    have ht3 : (({ data := #[115, 101, 116, 32] } : ByteArray) ++ E1 ++ ({ data := #[32] } : ByteArray) ++ E2).size ≤ 160005 := by rw [ByteArray.size_append]; omega
    go_enter Tryd.func12, Tryd.ntmps12
    go_upto_region 1 with fail
    rw [← hW0]
    clear hW0
    go_upto_region 3 with fail
    have BR := Below.refl W0.heap.size W0
    clear q0 q1 q2 hO0
    refine Z.region 9 (fun w' => Below W0.heap.size W0 w') (by kernel_rfl) BR.drew (fun hHeld => ?_)
    refine Z.take (i := 0) (d := 10) (v := .pointer (some ⟨w.heap.size, 1, none⟩)) rfl rfl (by kernel_rfl) (by kernel_rfl) (by kernel_rfl) (by kernel_rfl) (fun _ _ _ h => h) (Or.inl ⟨by rfl, ?_⟩) hHeld ?_
    · intro w' hSw; go_simp
    simp only [Act.put, List.setIfInBounds_toArray, List.set_cons_zero, List.set_cons_succ]
    refine Z.take (i := 1) (d := 11) (v := .slice (some ⟨b1, o1, none⟩) c.path.length vc) rfl rfl (by kernel_rfl) (by kernel_rfl) (by kernel_rfl) (by kernel_rfl) (fun _ _ _ h => h) (Or.inl ⟨by rfl, ?_⟩) hHeld ?_
    · intro w' hSw; have g2 := (unhide KEEP1) _ hSw; go_simp
    simp only [Act.put, List.setIfInBounds_toArray, List.set_cons_zero, List.set_cons_succ]
    refine Z.take (i := 5) (d := 15) (v := .pointer (some ⟨w.heap.size, 2, none⟩)) rfl rfl (by kernel_rfl) (by kernel_rfl) (by kernel_rfl) (by kernel_rfl) (fun _ _ _ h => h) (Or.inl ⟨by rfl, ?_⟩) hHeld ?_
    · intro w' hSw; go_simp
    simp only [Act.put, List.setIfInBounds_toArray, List.set_cons_zero, List.set_cons_succ]
    refine Z.take (i := 6) (d := 16) (v := .slice (some ⟨b2, o2, none⟩) c.x.length vd) rfl rfl (by kernel_rfl) (by kernel_rfl) (by kernel_rfl) (by kernel_rfl) (fun _ _ _ h => h) (Or.inl ⟨by rfl, ?_⟩) hHeld ?_
    · intro w' hSw; have g2 := (unhide KEEP2) _ hSw; go_simp
    simp only [Act.put, List.setIfInBounds_toArray, List.set_cons_zero, List.set_cons_succ]

    refine Z.only (i := 2) (d := 12) rfl rfl (by kernel_rfl) (by rfl) (fun K hK => ?_)
    go_simp
    refine ((unhide HE) _ BR.drew).mono ?_
    rintro e1 w1 ⟨rfl, hb1'⟩
    have S1 : Below W0.heap.size W0 w1 := BR.drew.trans (hb1'.mono (Nat.le_refl _))
    go_simp
    refine hK.out (.string E1) w1 S1 ?_
    clear hK K hb1'
    simp only [Act.put, List.setIfInBounds_toArray, List.set_cons_zero, List.set_cons_succ]
    refine Z.take (i := 3) (d := 13) (v := .string (({ data := #[115, 101, 116, 32] } : ByteArray) ++ E1)) rfl rfl (by kernel_rfl) (by kernel_rfl) (by kernel_rfl) (by kernel_rfl) (fun _ _ _ h => h) (Or.inl ⟨by rfl, ?_⟩) S1 ?_
    · intro w' hSw; go_simp; try omega
    simp only [Act.put, List.setIfInBounds_toArray, List.set_cons_zero, List.set_cons_succ]
    refine Z.take (i := 4) (d := 14) (v := .string (({ data := #[115, 101, 116, 32] } : ByteArray) ++ E1 ++ ({ data := #[32] } : ByteArray))) rfl rfl (by kernel_rfl) (by kernel_rfl) (by kernel_rfl) (by kernel_rfl) (fun _ _ _ h => h) (Or.inl ⟨by rfl, ?_⟩) S1 ?_
    · intro w' hSw; go_simp; try omega
    simp only [Act.put, List.setIfInBounds_toArray, List.set_cons_zero, List.set_cons_succ]

    refine Z.only (i := 7) (d := 17) rfl rfl (by kernel_rfl) (by rfl) (fun K hK => ?_)
    go_simp
    refine ((unhide HX) _ S1).mono ?_
    rintro e2 w2 ⟨rfl, hb2'⟩
    have S2 : Below W0.heap.size W0 w2 := S1.trans (hb2'.mono S1.size)
    go_simp
    refine hK.out (.string E2) w2 S2 ?_
    clear hK K hb2'
    simp only [Act.put, List.setIfInBounds_toArray, List.set_cons_zero, List.set_cons_succ]
    refine Z.take (i := 8) (d := 18) (v := .string (({ data := #[115, 101, 116, 32] } : ByteArray) ++ E1 ++ ({ data := #[32] } : ByteArray) ++ E2)) rfl rfl (by kernel_rfl) (by kernel_rfl) (by kernel_rfl) (by kernel_rfl) (fun _ _ _ h => h) (Or.inl ⟨by rfl, ?_⟩) S2 ?_
    · intro w' hSw; go_simp; try omega
    simp only [Act.put, List.setIfInBounds_toArray, List.set_cons_zero, List.set_cons_succ]

    refine Z.ready (rs := [9]) (by kernel_rfl) (by simp) (Z.val_cons (i := 9) (d := 2) (v := .string (({ data := #[115, 101, 116, 32] } : ByteArray) ++ E1 ++ ({ data := #[32] } : ByteArray) ++ E2)) (w' := w2) rfl (by rfl) (fun K hK => ?_) (fun h => absurd rfl h) ?_ Z.All.nil)
    · go_simp
      exact hK.out
    simp only [Act.put, List.setIfInBounds_toArray, List.set_cons_zero, List.set_cons_succ]
    refine Z.done (by kernel_rfl) ?_ _
    have B2 : Below w.heap.size w w2 := B0.trans (S2.mono B0.size)
    clear HE HX KEEP1 KEEP2 hHeld S1 S2 BR ht1 ht2 ht3
    go_wp2_with fail
    go_ret
    refine ⟨?_, B2⟩
    rw [unhide fin]
    rfl
  · have fin := hide (show J.bytes (lineL c) = ({ data := #[100, 114, 111, 112, 32] } : ByteArray) ++ J.bytes (J.encL 200 c.path) by
      rw [line_drop h2, bytes_two]
      rfl)
    have hs1 : (J.bytes (J.encL 200 c.path)).size ≤ 80000 := by rw [J.bytes_size]; exact hel
    rw [h2] at q0 hW0 ⊢
    clear h2 HD hel hpv hpl hp hO0
    generalize J.bytes (J.encL 200 c.path) = E1 at *
    have ht1 : (({ data := #[100, 114, 111, 112, 32] } : ByteArray) ++ E1).size ≤ 80005 := by rw [ByteArray.size_append]; show 5 + _ ≤ _; omega
    go_enter Tryd.func12, Tryd.ntmps12
    go_upto_region 1 with fail
    rw [← hW0]
    clear hW0
    go_wp2_with fail
    refine ((unhide HE) _ (Below.refl _ _)).mono ?_
    rintro e1 w1 ⟨rfl, hb1'⟩
    have B1 : Below w.heap.size w w1 := B0.trans (hb1'.mono B0.size)
    clear HE hb1' q0 q1 q2
    go_wp2_with fail
    go_ret
    refine ⟨?_, B1⟩
    rw [unhide fin]
    rfl

set_option maxRecDepth 100000 in
set_option maxHeartbeats 2000000 in
theorem appendEdit_any (c : Ed) (va vb : Option Addr) (vc vd base : Nat) (tv : Value) (L : List UInt8) (w : World) (hc : Cells w va vc c.path) (hd : Cells w vb vd c.x) (hcb : ∀ ad, va = some ad → ad.block < base) (hdb : ∀ ad, vb = some ad → 1 ≤ c.x.length → ad.block < base) (hf : fault c = 0) (hbase : base ≤ w.heap.size) (hL : L.length ≤ 16001100) (hown0 : w.ownsRow base 5 1 tv L.length (J.bv L)) (htab : Lib.TabBelow Tryd.prog base w "internal/strconv.uint64pow10" .u64 Lib.pow10Tab) :
    Calls Tryd.prog 15 #[tv, .agg #[.int .i64 c.op, .slice va c.path.length vc, .slice vb c.x.length vd]] w fun e w' => ∃ v', e = .returned v' ∧ w'.ownsRow base 5 1 v' (L ++ lineL c).length (J.bv (L ++ lineL c)) ∧ Bk base w w' := by
  obtain ⟨i0, hi, hz0, hz1, hz2⟩ := info_parts Tryd.info5
  obtain ⟨hp, hkd⟩ := fault_ok2 hf
  have hpv := (Pth.fault_no hp).1
  have hpl := Pth.lens hpv
  obtain ⟨b1, o1, rfl, hb1, hr1⟩ := row_of hc hpl.1
  have hb1 : b1 < base := hcb _ rfl
  obtain ⟨xa, xn, xc, rfl⟩ := owns_shape hown0
  obtain ⟨W0, hW0⟩ : ∃ W0, W0 = w.alloc (.cells #[.int .i64 c.op, .slice (some ⟨b1, o1, none⟩) c.path.length vc, .slice vb c.x.length vd] 40) := ⟨_, rfl⟩
  have K0 : Bk base w W0 := by rw [hW0]; exact (Bk.refl _ _).alloc hbase _
  have O0 : Own W0 w.heap.size 40 [.int .i64 c.op, .slice (some ⟨b1, o1, none⟩) c.path.length vc, .slice vb c.x.length vd] := by rw [hW0]; exact ⟨_, heap_alloc_new _ _, rfl⟩
  have hown := hide (show W0.ownsRow base 5 1 (.slice xa xn xc) L.length (J.bv L) by rw [hW0]; exact hown0.alloc _)
  have q0 := O0.cell 0
  have q1 := O0.cell 1
  have q2 := O0.cell 2
  simp only [List.getElem?_cons_zero, List.getElem?_cons_succ] at q0 q1 q2
  have HAT := hide (fun (p : List M.Cl) (b off cap : Nat) (hv : M.valueFault p = 0) (hrow : _root_.Go.Proofs.YtakdlcgiieaieaaDoor.Row w b off p) (hb : b < base) (hcap : p.length ≤ cap) W (h : Bk base w W) (v : Value) (P : List UInt8) (hP : P.length ≤ 20000100) (ho : W.ownsRow base 5 1 v P.length (J.bv P)) => show Calls Tryd.prog 22 #[v, .slice (some ⟨b, off, none⟩) p.length cap, .int .i64 0] W (fun e w' => ∃ v', e = .returned v' ∧ w'.ownsRow base 5 1 v' (P ++ J.encL 200 p).length (J.bv (P ++ J.encL 200 p)) ∧ Bk base W w') from by
    have hl1 := (M.fault_zero hv).1
    have hpl : (part p 0).length ≤ 200 := by have := part_len hv (show 0 < p.length by omega); have := (end_gt hv (show 0 < p.length by omega)).2; have := (M.fault_zero hv).2.1; omega
    have := appendText_any 200 p 0 b off cap base v P W hv (by omega) hpl (hrow.below h.1 hb) hb hcap (by have := h.size; omega) (room hP) ho (fun w' hb' => htab w' (h.1.trans hb'))
    rw [J.encL_whole 199 hv (by omega)] at this
    exact this)
  have HP := hide ((unhide HAT) c.path b1 o1 vc hpv hr1 hb1 hc.2.1)
  have hel := encLen hpv
  have HD := hide hd
  have hO0 := hide O0
  have KEEP := hide (show ∀ W, Bk base W0 W → W.cell? ⟨w.heap.size, 1, none⟩ = some (.slice (some ⟨b1, o1, none⟩) c.path.length vc) ∧ W.cell? ⟨w.heap.size, 2, none⟩ = some (.slice vb c.x.length vd) from fun W h => ⟨((h.own O0 (by decide)).cell 1).trans rfl, ((h.own O0 (by decide)).cell 2).trans rfl⟩)
  have hbW : base ≤ W0.heap.size := Nat.le_trans hbase K0.size
  have BR := Bk.refl base W0
  clear hc hd hr1 hf O0 hown0 htab
  rcases hkd with ⟨h1, hx⟩ | h2
  · obtain ⟨b2, o2, rfl, hb2, hr2⟩ := row_of (unhide HD) (Pth.lens hx).1
    have hb2 : b2 < base := hdb _ rfl (Pth.lens hx).1
    have HXP := hide ((unhide HAT) c.x b2 o2 vd hx hr2 hb2 (unhide HD).2.1)
    have hxl := encLen hx
    have fin := hide (line_set h1)
    rw [h1] at q0 hW0 ⊢
    clear h1 hx HD hr2 hpv hpl hp hO0 HAT hcb hdb
    go_enter Tryd.func15, Tryd.ntmps15
    go_upto_region 1 with fail
    rw [← hW0]
    clear hW0
    go_upto_region 3 with fail
    clear q0 q1 q2
    refine Z.region 5 (fun w' => Bk base W0 w') (by kernel_rfl) BR.drew (fun hHeld => ?_)
    have HO : (W0.drew).ownsRow base 5 1 (.slice xa xn xc) L.length (J.bv L) := unhide hown
    refine Z.take (i := 0) (d := 13) (v := .slice xa xn xc) rfl rfl (by kernel_rfl) (by kernel_rfl) (by kernel_rfl) (by kernel_rfl) (fun _ _ _ h => h) (Or.inl ⟨by rfl, ?_⟩) hHeld ?_
    · intro w' hSw; go_simp
    simp only [Act.put, List.setIfInBounds_toArray, List.set_cons_zero, List.set_cons_succ]
    refine Z.take (i := 2) (d := 15) (v := .pointer (some ⟨w.heap.size, 1, none⟩)) rfl rfl (by kernel_rfl) (by kernel_rfl) (by kernel_rfl) (by kernel_rfl) (fun _ _ _ h => h) (Or.inl ⟨by rfl, ?_⟩) hHeld ?_
    · intro w' hSw; go_simp
    simp only [Act.put, List.setIfInBounds_toArray, List.set_cons_zero, List.set_cons_succ]
    refine Z.take (i := 3) (d := 16) (v := .slice (some ⟨b1, o1, none⟩) c.path.length vc) rfl rfl (by kernel_rfl) (by kernel_rfl) (by kernel_rfl) (by kernel_rfl) (fun _ _ _ h => h) (Or.inl ⟨by rfl, ?_⟩) hHeld ?_
    · intro w' hSw; have g2 := ((unhide KEEP) _ hSw).1; go_simp
    simp only [Act.put, List.setIfInBounds_toArray, List.set_cons_zero, List.set_cons_succ]
    refine Z.only (i := 1) (d := 14) rfl rfl (by kernel_rfl) (by rfl) (fun K hK => ?_)
    refine wp_str _ (.tmp 13) (.const (.string ⟨#[115, 101, 116, 32]⟩)) 42 9 rfl base 5 i0 Tryd.underlying42 Tryd.underlying9 hi hz0 hz1 hz2 (.slice xa xn xc) L.length (J.bv L) rfl HO ⟨#[115, 101, 116, 32]⟩ rfl (by unfold maxLen; show L.length + 4 ≤ _; omega) (by show L.length + 4 ≤ _; omega) (by simpa using hbW) ?_
    intro v1 w1 ho1 hg1
    have S1 : Bk base W0 w1 := BR.drew.grown hg1 (by simpa using hbW) (J.owns_base HO) (J.owns_row HO)
    obtain ⟨P1, hP1⟩ : ∃ P1, P1 = L ++ [115, 101, 116, 32] := ⟨_, rfl⟩
    have w1o : w1.ownsRow base 5 1 v1 P1.length (J.bv P1) := by rw [hP1, List.length_append, ← bv_app]; exact ho1
    have l1 : P1.length ≤ L.length + 4 := by rw [hP1, List.length_append]; exact Nat.le_refl _
    obtain ⟨ya, yn, yc, rfl⟩ := owns_shape w1o
    refine hK.out (.slice ya yn yc) w1 S1 ?_
    clear hK K ho1 hg1
    simp only [Act.put, List.setIfInBounds_toArray, List.set_cons_zero, List.set_cons_succ]
    have HC1 := hide ((unhide HP) w1 (K0.trans S1) (.slice ya yn yc) P1 (by omega) w1o)
    clear w1o
    refine Z.only (i := 4) (d := 17) rfl rfl (by kernel_rfl) (by rfl) (fun K hK => ?_)
    go_simp
    refine (unhide HC1).mono ?_
    rintro e2 w2 ⟨v2, rfl, ho2, hk2⟩
    have S2 : Bk base W0 w2 := S1.trans hk2
    obtain ⟨P2, hP2⟩ : ∃ P, P = P1 ++ J.encL 200 c.path := ⟨_, rfl⟩
    rw [← hP2] at ho2
    have l2 : P2.length ≤ P1.length + 80000 := by rw [hP2, List.length_append]; omega
    obtain ⟨za2, zn2, zc2, rfl⟩ := owns_shape ho2
    go_simp
    refine hK.out (.slice za2 zn2 zc2) w2 S2 ?_
    clear hK K hk2 HC1
    simp only [Act.put, List.setIfInBounds_toArray, List.set_cons_zero, List.set_cons_succ]
    refine Z.ready (rs := [5]) (by kernel_rfl) (by simp) (Z.val_cons (i := 5) (d := 0) (v := .slice za2 zn2 zc2) (w' := w2) rfl (by rfl) (fun K hK => ?_) (fun h => absurd rfl h) ?_ Z.All.nil)
    · go_simp
      exact hK.out
    simp only [Act.put, List.setIfInBounds_toArray, List.set_cons_zero, List.set_cons_succ]
    refine Z.done (by kernel_rfl) ?_ _

    go_upto_region 4 with fail
    have hb2W : base ≤ w2.heap.size := Nat.le_trans hbW S2.size
    obtain ⟨W3, hW3⟩ : ∃ W3, W3 = (w2.alloc (.cells #[.int .u8 32] 5)).drew := ⟨_, rfl⟩
    have S3 : Bk base W0 W3 := by rw [hW3]; exact (S2.alloc hb2W _).drew
    have HO3 : W3.ownsRow base 5 1 (.slice za2 zn2 zc2) P2.length (J.bv P2) := by rw [hW3]; exact ho2.alloc _
    have HN3 : ∀ j u, ([Value.int .u8 32] : List Value)[j]? = some u → W3.cell? ((⟨w2.heap.size, 0, none⟩ : Addr).add j) = some u := by rw [hW3]; exact J.one_word w2 32
    have hb3W : base ≤ W3.heap.size := by rw [hW3]; simp; omega
    clear ho2
    refine Z.region 6 (fun w' => Bk base W0 w') (by kernel_rfl) S2.drew (fun hHeld => ?_)
    refine Z.take (i := 0) (d := 18) (v := .slice za2 zn2 zc2) rfl rfl (by kernel_rfl) (by kernel_rfl) (by kernel_rfl) (by kernel_rfl) (fun _ _ _ h => h) (Or.inl ⟨by rfl, ?_⟩) hHeld ?_
    · intro w' hSw; go_simp
    simp only [Act.put, List.setIfInBounds_toArray, List.set_cons_zero, List.set_cons_succ]
    refine Z.take (i := 3) (d := 21) (v := .pointer (some ⟨w.heap.size, 2, none⟩)) rfl rfl (by kernel_rfl) (by kernel_rfl) (by kernel_rfl) (by kernel_rfl) (fun _ _ _ h => h) (Or.inl ⟨by rfl, ?_⟩) hHeld ?_
    · intro w' hSw; go_simp
    simp only [Act.put, List.setIfInBounds_toArray, List.set_cons_zero, List.set_cons_succ]
    refine Z.take (i := 4) (d := 22) (v := .slice (some ⟨b2, o2, none⟩) c.x.length vd) rfl rfl (by kernel_rfl) (by kernel_rfl) (by kernel_rfl) (by kernel_rfl) (fun _ _ _ h => h) (Or.inl ⟨by rfl, ?_⟩) hHeld ?_
    · intro w' hSw; have g2 := ((unhide KEEP) _ hSw).2; go_simp
    simp only [Act.put, List.setIfInBounds_toArray, List.set_cons_zero, List.set_cons_succ]

    refine Z.ready (rs := [1]) (by kernel_rfl) (by simp) (Z.val_cons (i := 1) (d := 19) (v := .slice (some ⟨w2.heap.size, 0, none⟩) 1 1) (w' := W3) rfl (by rfl) (fun K hK => ?_) (fun _ => S3) ?_ Z.All.nil)
    · go_simp
      rw [← hW3]
      exact hK.out
    simp only [Act.put, List.setIfInBounds_toArray, List.set_cons_zero, List.set_cons_succ]
    clear hW3
    refine Z.only (i := 2) (d := 20) rfl rfl (by kernel_rfl) (by rfl) (fun K hK => ?_)
    refine wp_app _ (.tmp 18) (.tmp 19) 42 rfl base 5 i0 (.int .u8 0) 1 1 Tryd.underlying42 hi hz0 hz1 hz2 rfl (by decide) (.slice za2 zn2 zc2) P2.length (J.bv P2) rfl HO3 ⟨w2.heap.size, 0, none⟩ 1 1 [.int .u8 32] rfl rfl HN3 (J.one_plain 32) (by unfold maxLen; omega) (by omega) hb3W ?_
    intro v4 w4 ho4 hg4
    have S4 : Bk base W0 w4 := S3.grown hg4 hb3W (J.owns_base HO3) (J.owns_row HO3)
    obtain ⟨P4, hP4⟩ : ∃ P4, P4 = P2 ++ [32] := ⟨_, rfl⟩
    have w4o : w4.ownsRow base 5 1 v4 P4.length (J.bv P4) := by rw [hP4, List.length_append, ← J.bv_snoc]; exact ho4
    have l4 : P4.length ≤ P2.length + 1 := by rw [hP4, List.length_append]; exact Nat.le_refl _
    obtain ⟨ya4, yn4, yc4, rfl⟩ := owns_shape w4o
    refine hK.out (.slice ya4 yn4 yc4) w4 S4 ?_
    clear hK K ho4 hg4 HO3 HN3
    simp only [Act.put, List.setIfInBounds_toArray, List.set_cons_zero, List.set_cons_succ]
    have HC4 := hide ((unhide HXP) w4 (K0.trans S4) (.slice ya4 yn4 yc4) P4 (by omega) w4o)
    clear w4o
    refine Z.only (i := 5) (d := 23) rfl rfl (by kernel_rfl) (by rfl) (fun K hK => ?_)
    go_simp
    refine (unhide HC4).mono ?_
    rintro e5 w5 ⟨v5, rfl, ho5, hk5⟩
    have S5 : Bk base W0 w5 := S4.trans hk5
    obtain ⟨P5, hP5⟩ : ∃ P, P = P4 ++ J.encL 200 c.x := ⟨_, rfl⟩
    rw [← hP5] at ho5
    have l5 : P5.length ≤ P4.length + 80000 := by rw [hP5, List.length_append]; omega
    obtain ⟨za5, zn5, zc5, rfl⟩ := owns_shape ho5
    go_simp
    refine hK.out (.slice za5 zn5 zc5) w5 S5 ?_
    clear hK K hk5 HC4
    simp only [Act.put, List.setIfInBounds_toArray, List.set_cons_zero, List.set_cons_succ]
    refine Z.ready (rs := [6]) (by kernel_rfl) (by simp) (Z.val_cons (i := 6) (d := 4) (v := .slice za5 zn5 zc5) (w' := w5) rfl (by rfl) (fun K hK => ?_) (fun h => absurd rfl h) ?_ Z.All.nil)
    · go_simp
      exact hK.out
    simp only [Act.put, List.setIfInBounds_toArray, List.set_cons_zero, List.set_cons_succ]
    refine Z.done (by kernel_rfl) ?_ _

    have fin2 := hide (show L ++ lineL c = P5 by
      rw [unhide fin, hP5, hP4, hP2, hP1]
      simp only [List.append_assoc])
    have KB : Bk base w w5 := K0.trans S5
    have HO5 := hide ho5
    clear hP5 hP4 hP2 hP1 ho5 HP HXP KEEP hHeld HO
    go_wp2_with fail
    go_ret
    exact ⟨_, rfl, by rw [unhide fin2]; exact unhide HO5, KB⟩
  · have fin := hide (line_drop h2)
    rw [h2] at q0 hW0 ⊢
    clear h2 HD hpv hpl hp hO0 HAT hcb hdb
    go_enter Tryd.func15, Tryd.ntmps15
    go_upto_region 1 with fail
    rw [← hW0]
    clear hW0
    go_upto_region 2 with fail
    clear q0 q1 q2
    refine Z.region 5 (fun w' => Bk base W0 w') (by kernel_rfl) BR.drew (fun hHeld => ?_)
    have HO : (W0.drew).ownsRow base 5 1 (.slice xa xn xc) L.length (J.bv L) := unhide hown
    refine Z.take (i := 0) (d := 8) (v := .slice xa xn xc) rfl rfl (by kernel_rfl) (by kernel_rfl) (by kernel_rfl) (by kernel_rfl) (fun _ _ _ h => h) (Or.inl ⟨by rfl, ?_⟩) hHeld ?_
    · intro w' hSw; go_simp
    simp only [Act.put, List.setIfInBounds_toArray, List.set_cons_zero, List.set_cons_succ]
    refine Z.take (i := 2) (d := 10) (v := .pointer (some ⟨w.heap.size, 1, none⟩)) rfl rfl (by kernel_rfl) (by kernel_rfl) (by kernel_rfl) (by kernel_rfl) (fun _ _ _ h => h) (Or.inl ⟨by rfl, ?_⟩) hHeld ?_
    · intro w' hSw; go_simp
    simp only [Act.put, List.setIfInBounds_toArray, List.set_cons_zero, List.set_cons_succ]
    refine Z.take (i := 3) (d := 11) (v := .slice (some ⟨b1, o1, none⟩) c.path.length vc) rfl rfl (by kernel_rfl) (by kernel_rfl) (by kernel_rfl) (by kernel_rfl) (fun _ _ _ h => h) (Or.inl ⟨by rfl, ?_⟩) hHeld ?_
    · intro w' hSw; have g2 := ((unhide KEEP) _ hSw).1; go_simp
    simp only [Act.put, List.setIfInBounds_toArray, List.set_cons_zero, List.set_cons_succ]
    refine Z.only (i := 1) (d := 9) rfl rfl (by kernel_rfl) (by rfl) (fun K hK => ?_)
    refine wp_str _ (.tmp 8) (.const (.string ⟨#[100, 114, 111, 112, 32]⟩)) 42 9 rfl base 5 i0 Tryd.underlying42 Tryd.underlying9 hi hz0 hz1 hz2 (.slice xa xn xc) L.length (J.bv L) rfl HO ⟨#[100, 114, 111, 112, 32]⟩ rfl (by unfold maxLen; show L.length + 5 ≤ _; omega) (by show L.length + 5 ≤ _; omega) (by simpa using hbW) ?_
    intro v1 w1 ho1 hg1
    have S1 : Bk base W0 w1 := BR.drew.grown hg1 (by simpa using hbW) (J.owns_base HO) (J.owns_row HO)
    obtain ⟨P1, hP1⟩ : ∃ P1, P1 = L ++ [100, 114, 111, 112, 32] := ⟨_, rfl⟩
    have w1o : w1.ownsRow base 5 1 v1 P1.length (J.bv P1) := by rw [hP1, List.length_append, ← bv_app]; exact ho1
    have l1 : P1.length ≤ L.length + 5 := by rw [hP1, List.length_append]; exact Nat.le_refl _
    obtain ⟨ya, yn, yc, rfl⟩ := owns_shape w1o
    refine hK.out (.slice ya yn yc) w1 S1 ?_
    clear hK K ho1 hg1
    simp only [Act.put, List.setIfInBounds_toArray, List.set_cons_zero, List.set_cons_succ]
    have HC1 := hide ((unhide HP) w1 (K0.trans S1) (.slice ya yn yc) P1 (by omega) w1o)
    clear w1o
    refine Z.only (i := 4) (d := 12) rfl rfl (by kernel_rfl) (by rfl) (fun K hK => ?_)
    go_simp
    refine (unhide HC1).mono ?_
    rintro e2 w2 ⟨v2, rfl, ho2, hk2⟩
    have S2 : Bk base W0 w2 := S1.trans hk2
    obtain ⟨P2, hP2⟩ : ∃ P, P = P1 ++ J.encL 200 c.path := ⟨_, rfl⟩
    rw [← hP2] at ho2
    have l2 : P2.length ≤ P1.length + 80000 := by rw [hP2, List.length_append]; omega
    obtain ⟨za2, zn2, zc2, rfl⟩ := owns_shape ho2
    go_simp
    refine hK.out (.slice za2 zn2 zc2) w2 S2 ?_
    clear hK K hk2 HC1
    simp only [Act.put, List.setIfInBounds_toArray, List.set_cons_zero, List.set_cons_succ]
    refine Z.ready (rs := [5]) (by kernel_rfl) (by simp) (Z.val_cons (i := 5) (d := 4) (v := .slice za2 zn2 zc2) (w' := w2) rfl (by rfl) (fun K hK => ?_) (fun h => absurd rfl h) ?_ Z.All.nil)
    · go_simp
      exact hK.out
    simp only [Act.put, List.setIfInBounds_toArray, List.set_cons_zero, List.set_cons_succ]
    refine Z.done (by kernel_rfl) ?_ _

    have fin2 := hide (show L ++ lineL c = P2 by
      rw [unhide fin, hP2, hP1]
      simp only [List.append_assoc])
    have KB : Bk base w w2 := K0.trans S2
    have HO2 := hide ho2
    clear hP2 hP1 ho2 HP KEEP hHeld HO
    go_wp2_with fail
    go_ret
    exact ⟨_, rfl, by rw [unhide fin2]; exact unhide HO2, KB⟩

/-- .. where the edit's rows lie below the base. -/
theorem appendEdit_at (c : Ed) (va vb : Option Addr) (vc vd base : Nat) (tv : Value) (L : List UInt8) (w1 w : World) (hc : Cells w1 va vc c.path) (hd : Cells w1 vb vd c.x) (hb1 : w1.heap.size ≤ base) (hk : Bk base w1 w) (hf : fault c = 0) (hbase : base ≤ w.heap.size) (hL : L.length ≤ 16001100) (hown0 : w.ownsRow base 5 1 tv L.length (J.bv L)) (htab : Lib.TabBelow Tryd.prog base w "internal/strconv.uint64pow10" .u64 Lib.pow10Tab) :
    Calls Tryd.prog 15 #[tv, .agg #[.int .i64 c.op, .slice va c.path.length vc, .slice vb c.x.length vd]] w fun e w' => ∃ v', e = .returned v' ∧ w'.ownsRow base 5 1 v' (L ++ lineL c).length (J.bv (L ++ lineL c)) ∧ Bk base w w' := by
  have BB : Below w1.heap.size w1 w := hk.1.mono hb1
  have key : ∀ {v : Option Addr} {q : Nat} {m : List M.Cl}, Cells w1 v q m → ∀ ad, v = some ad → 1 ≤ m.length → ad.block < base := fun h ad e hm => by
    obtain ⟨b, o, e2, hb, _⟩ := row_of h hm
    rw [e] at e2
    cases e2
    exact Nat.lt_of_lt_of_le hb hb1
  have hpl := (Pth.lens (Pth.fault_no (fault_ok2 hf).1).1).1
  exact appendEdit_any c va vb vc vd base tv L w (hc.below BB) (hd.below BB) (fun ad e => key hc ad e hpl) (fun ad e hx => key hd ad e hx) hf hbase hL hown0 htab

set_option maxRecDepth 100000 in
set_option maxHeartbeats 2000000 in
theorem specFormatEdits_any (a : Option Addr) (cap : Nat) (l : List Ed) (w : World) (hA : Arg w a cap l) (hn : l.length ≤ 1048576) (hsm : ∀ i, i < l.length → (l.getD i zero).small) :
    Calls Tryd.prog 5 #[.slice a l.length cap] w fun e w' => e = .returned (.agg #[.int .i64 (textOut l).1, .string (textOut l).2]) ∧ Below w.heap.size w w' := by
  obtain ⟨w0, hw0⟩ : ∃ w0, w0 = w.alloc (.cells #[.int .i64 0, .string ByteArray.empty] 25) := ⟨_, rfl⟩
  have B0 : Below w.heap.size w w0 := by rw [hw0]; exact (Below.refl _ _).alloc (Nat.le_refl _) _
  have hX0 : Own w0 w.heap.size 25 [.int .i64 0, .string ByteArray.empty] := by rw [hw0]; exact ⟨_, heap_alloc_new _ _, rfl⟩
  have HE := hide (specEdits_any a cap l w0 (hA.below B0) hn hsm)
  have HA := hide (fun W (h : Below w.heap.size w W) => hA.below h)
  have hcap := hA.2.1
  have hcm := hA.1
  have HB0 := hide B0
  clear hA hsm
  go_enter Tryd.func5, Tryd.ntmps5
  go_wp2_with fail
  try (rw [show (w.alloc (.cells #[.int .i64 0, .string { data := #[] }] 25)) = w0 from hw0.symm])
  refine (unhide HE).mono ?_
  rintro e1 w1 ⟨rfl, hb1⟩
  have B1 : Below w.heap.size w w1 := (unhide HB0).trans (hb1.mono (unhide HB0).size)
  have hX1 := hX0.below hb1 hX0.lt
  clear hb1 HE hX0 hw0 HB0 B0
  generalize hq : faults l = q
  by_cases hz : q = 0
  case neg =>
    have fin := hide ((text_no (by rw [hq]; exact hz)).trans (by rw [hq]))
    have hz' : (q == 0) = false := by simp [hz]
    have r0 := hX1.cell 0
    have r1 := hX1.cell 1
    simp only [List.getElem?_cons_zero, List.getElem?_cons_succ] at r0 r1
    have z0 := hX1.frozen 0
    have z1 := hX1.frozen 1
    clear hq hz HA
    go_wp2_with fail
    refine bodyPost_ret (v := .agg #[.int .i64 q, .string ByteArray.empty]) (by simp [results, Tryd.results5, go_sem, r0, r1]; try rfl) rfl ⟨by rw [unhide fin], ?_⟩
    exact (B1.setCell (Nat.le_refl _) _).setCell (Nat.le_refl _) _
  subst hz
  have fin := hide (text_ok hq)
  have HF := hide (faults_no hq).2
  have hl100 := (faults_no hq).1
  have RM := hide (fun (k : Nat) hk => text_room (faults_no hq).2 (faults_no hq).1 (k := k) hk)
  clear hq
  go_wp2_with fail
  go_loopg [4, 5] l.length (fun gh s4 s5 wr => ∃ (k : Nat) (o : ByteArray), Hid (gh = l.length - k) ∧ s4 = .string o ∧ s5 = .int .i64 k ∧ k ≤ l.length ∧ Hid (o = J.bytes (textK l k)) ∧ Below w1.heap.size w1 wr)
  case atStart => exact ⟨0, _, rfl, rfl, rfl, by omega, rfl, Below.refl _ _⟩
  case round =>
    obtain ⟨k, o, hg, rfl, rfl, hk, ho, hbel⟩ := hrel
    have BW : Below w.heap.size w wr := B1.trans (hbel.mono B1.size)
    have hX := hX1.below hbel hX1.lt
    have hosz : o.size ≤ 16001100 := by rw [ho.out, J.bytes_size]; exact (unhide RM) k hk
    by_cases hlt : k < l.length
    · have hltI : (k : Int) < (l.length : Int) := by omega
      obtain ⟨_, _, _, h4⟩ := (unhide HA) _ B1
      obtain ⟨lb, lo, rfl, hlb, hr⟩ : ∃ b off, a = some ⟨b, off, none⟩ ∧ b < w1.heap.size ∧ ∀ i, i < l.length → ArgAt w1 b (off + i * 3) (l.getD i zero) := by
        rcases h4 with e | e
        · rw [e] at hlt; simp at hlt
        · exact e
      obtain ⟨f0', ⟨va, vc, f1', hc⟩, vb, vd, f2', hd⟩ := hr k hlt
      have hft := (unhide HF) k hlt
      have f0 := (hbel.cell hlb).trans f0'
      have f1 := (hbel.cell hlb).trans f1'
      have f2 := (hbel.cell hlb).trans f2'
      have hll := line_len hft
      have hline : Hid (J.bytes (textK l (k + 1)) = o ++ J.bytes (lineL (l.getD k zero)) ++ { data := #[10] }) := by
        show _ = _
        rw [ho.out, textK, bytes_two, bytes_two, ByteArray.append_assoc]
        rfl
      have HLT := hide hlt
      clear hr f0' f1' f2' hlt
      generalize l.getD k zero = n at *
      have HE := hide (line_any n va vb vc vd wr (hc.below hbel) (hd.below hbel) hft)
      have hes : (J.bytes (lineL n)).size ≤ 160010 := by rw [J.bytes_size]; exact hll
      clear hc hd hft hll
      generalize J.bytes (lineL n) = E at *
      have hs1 : (o ++ E).size ≤ 20000000 := by rw [ByteArray.size_append]; omega
      have hs2 : (o ++ E ++ ({ data := #[10] } : ByteArray)).size ≤ 20000001 := by rw [ByteArray.size_append]; show _ + 1 ≤ _; omega
      go_wp2_with fail
      refine (unhide HE).mono ?_
      rintro e w3 ⟨rfl, hb3⟩
      have B3 : Below w1.heap.size w1 w3 := hbel.trans (hb3.mono hbel.size)
      clear hb3 HE f0 f1 f2
      go_wp2_with fail
      go_roundg (l.length - (k + 1))
      case rel => exact ⟨k + 1, _, rfl, rfl, by go_num, by have := unhide HLT; omega, by (show _ = _; rw [hline.out]), B3⟩
      case measure => have := hg.out; have := unhide HLT; omega
    · have hge : ¬ (k : Int) < (l.length : Int) := by omega
      have hke : k = l.length := by omega
      have hq : Hid (J.bytes (textK l l.length) = o) := by show _ = _; rw [ho.out, hke]
      rw [hq.out] at fin
      clear hke
      have r0 := hX.cell 0
      have r1 := hX.cell 1
      simp only [List.getElem?_cons_zero, List.getElem?_cons_succ] at r0 r1
      have z0 := hX.frozen 0
      have z1 := hX.frozen 1
      go_wp2_with fail
      refine bodyPost_ret (v := .agg #[.int .i64 0, .string o]) (by simp [results, Tryd.results5, go_sem, r0, r1]) rfl ⟨by rw [unhide fin], ?_⟩
      exact (BW.setCell (Nat.le_refl _) _).setCell (Nat.le_refl _) _

set_option maxRecDepth 100000 in
set_option maxHeartbeats 2000000 in
theorem implFormatEdits_any (a : Option Addr) (cap : Nat) (l : List Ed) (w : World) (hA : Arg w a cap l) (hn : l.length ≤ 1048576) (hsm : ∀ i, i < l.length → (l.getD i zero).small) (htab : Lib.TabBelow Tryd.prog w.heap.size w "internal/strconv.uint64pow10" .u64 Lib.pow10Tab) :
    Calls Tryd.prog 7 #[.slice a l.length cap] w fun e w' => e = .returned (.agg #[.int .i64 (textOut l).1, .string (textOut l).2]) ∧ Below w.heap.size w w' := by
  obtain ⟨w0, hw0⟩ : ∃ w0, w0 = w.alloc (.cells #[.int .i64 0, .string ByteArray.empty] 25) := ⟨_, rfl⟩
  have B0 : Below w.heap.size w w0 := by rw [hw0]; exact (Below.refl _ _).alloc (Nat.le_refl _) _
  have hX0 : Own w0 w.heap.size 25 [.int .i64 0, .string ByteArray.empty] := by rw [hw0]; exact ⟨_, heap_alloc_new _ _, rfl⟩
  have HE := hide (implEdits_any a cap l w0 (hA.below B0) hn hsm)
  have HA := hide (fun W (h : Below w.heap.size w W) => hA.below h)
  have hcap := hA.2.1
  have hcm := hA.1
  have HB0 := hide B0
  have HT := hide htab
  obtain ⟨i0, hi, hz0, hz1, hz2⟩ := info_parts Tryd.info5
  clear hA hsm htab
  go_enter Tryd.func7, Tryd.ntmps7
  go_wp2_with fail
  try (rw [show (w.alloc (.cells #[.int .i64 0, .string { data := #[] }] 25)) = w0 from hw0.symm])
  refine (unhide HE).mono ?_
  rintro e1 w1 ⟨rfl, hb1⟩
  have B1 : Below w.heap.size w w1 := (unhide HB0).trans (hb1.mono (unhide HB0).size)
  have hX1 := hX0.below hb1 hX0.lt
  clear hb1 HE hX0 hw0 HB0 B0
  generalize hq : faults l = q
  by_cases hz : q = 0
  case neg =>
    have fin := hide ((text_no (by rw [hq]; exact hz)).trans (by rw [hq]))
    have hz' : (q == 0) = false := by simp [hz]
    have r0 := hX1.cell 0
    have r1 := hX1.cell 1
    simp only [List.getElem?_cons_zero, List.getElem?_cons_succ] at r0 r1
    have z0 := hX1.frozen 0
    have z1 := hX1.frozen 1
    clear hq hz HA
    go_wp2_with fail
    refine bodyPost_ret (v := .agg #[.int .i64 q, .string ByteArray.empty]) (by simp [results, Tryd.results7, go_sem, r0, r1]; try rfl) rfl ⟨by rw [unhide fin], ?_⟩
    exact (B1.setCell (Nat.le_refl _) _).setCell (Nat.le_refl _) _
  subst hz
  have fin := hide (text_ok hq)
  have HF := hide (faults_no hq).2
  have hl100 := (faults_no hq).1
  have RM := hide (fun (k : Nat) hk => text_room (faults_no hq).2 (faults_no hq).1 (k := k) hk)
  clear hq
  obtain ⟨base, hbe⟩ : ∃ base, base = w1.heap.size := ⟨_, rfl⟩
  have HBE := hide hbe
  have hbs : w.heap.size ≤ base := by rw [hbe]; exact B1.size
  clear hbe
  go_wp2_with fail
  go_loopg [4, 15] l.length (fun gh s4 s15 wr => ∃ k : Nat, Hid (gh = l.length - k) ∧ s15 = .int .i64 k ∧ k ≤ l.length ∧ wr.ownsRow base 5 1 s4 (textK l k).length (J.bv (textK l k)) ∧ Bk base w1 wr)
  case atStart => exact ⟨0, rfl, rfl, by omega, World.ownsRow_nil _ _ _ _, Bk.refl _ _⟩
  case round =>
    obtain ⟨k, hg, rfl, hk, hown, hbel⟩ := hrel
    have hll := (unhide RM) k hk
    have BW : Below w.heap.size w wr := B1.trans (hbel.1.mono hbs)
    have hX := hX1.below hbel.1 (by have := hX1.lt; have := unhide HBE; omega)
    obtain ⟨L, hL⟩ : ∃ L, L = textK l k := ⟨_, rfl⟩
    rw [← hL] at hown hll
    have HL := hide hL
    clear hL
    obtain ⟨xa, xn, xc, rfl⟩ := owns_shape hown
    by_cases hlt : k < l.length
    · have hltI : (k : Int) < (l.length : Int) := by omega
      obtain ⟨_, _, _, h4⟩ := (unhide HA) _ B1
      obtain ⟨lb, lo, rfl, hlb, hr⟩ : ∃ b off, a = some ⟨b, off, none⟩ ∧ b < w1.heap.size ∧ ∀ i, i < l.length → ArgAt w1 b (off + i * 3) (l.getD i zero) := by
        rcases h4 with e | e
        · rw [e] at hlt; simp at hlt
        · exact e
      obtain ⟨f0', ⟨va, vc, f1', hc⟩, vb, vd, f2', hd⟩ := hr k hlt
      have hft := (unhide HF) k hlt
      have hlbb : lb < base := by rw [unhide HBE]; exact hlb
      have f0 := (hbel.1.cell (by exact hlbb)).trans f0'
      have f1 := (hbel.1.cell (by exact hlbb)).trans f1'
      have f2 := (hbel.1.cell (by exact hlbb)).trans f2'
      have hps := hide (show textK l (k + 1) = textK l k ++ (lineL (l.getD k zero) ++ [10]) from rfl)
      have hln := line_len hft
      have HLT := hide hlt
      have hbw : base ≤ wr.heap.size := by have := hbel.size; have := unhide HBE; omega
      clear hr f0' f1' f2' hlt
      generalize l.getD k zero = n at *
      have hvb : ∀ {v : Option Addr} {c : Nat} {m : List M.Cl}, Cells w1 v c m → 1 ≤ m.length → ∀ ad, v = some ad → ad.block < base := fun h hm ad e => by
        obtain ⟨b, o, e2, hb, _⟩ := row_of h hm
        rw [e] at e2
        cases e2
        rw [unhide HBE]; exact hb
      have HC := hide (fun W (h : Bk base w1 W) (ho : W.ownsRow base 5 1 (.slice xa xn xc) L.length (J.bv L)) => appendEdit_at n va vb vc vd base (.slice xa xn xc) L w1 W hc hd (by rw [unhide HBE]; exact Nat.le_refl _) h hft (by have := h.size; have := unhide HBE; omega) hll ho (fun w' hb' => (unhide HT) w' (B1.trans ((h.1.trans hb').mono hbs))))
      obtain ⟨W2, hW2⟩ : ∃ W2, W2 = wr.alloc (.cells #[.int .i64 n.op, .slice va n.path.length vc, .slice vb n.x.length vd] 40) := ⟨_, rfl⟩
      have K2 : Bk base wr W2 := by rw [hW2]; exact (Bk.refl _ _).alloc hbw _
      have O2 : Own W2 wr.heap.size 40 [.int .i64 n.op, .slice va n.path.length vc, .slice vb n.x.length vd] := by rw [hW2]; exact ⟨_, heap_alloc_new _ _, rfl⟩
      have HC2 := hide ((unhide HC) W2 (hbel.trans K2) (by rw [hW2]; exact hown.alloc _))
      have q0 := O2.cell 0
      have q1 := O2.cell 1
      have q2 := O2.cell 2
      simp only [List.getElem?_cons_zero, List.getElem?_cons_succ] at q0 q1 q2
      clear hc hd hft hvb HC hown O2
      go_upto_region 8 with fail
      rw [← hW2]
      clear hW2 f0 f1 f2
      go_wp2_with fail
      refine (unhide HC2).mono ?_
      rintro e w3 ⟨v3, rfl, ho3, hk3⟩
      have K3 : Bk base wr w3 := K2.trans hk3
      obtain ⟨P3, hP3⟩ : ∃ P3, P3 = L ++ lineL n := ⟨_, rfl⟩
      rw [← hP3] at ho3
      have HP3 := hide hP3
      have l3 : P3.length ≤ 20000000 := by rw [hP3, List.length_append]; omega
      clear hP3
      obtain ⟨ya, yn, yc, rfl⟩ := owns_shape ho3
      have hown1 := hide (fun o => ho3.alloc o)
      have hone := hide (J.one_word w3 10)
      have honep := hide (J.one_plain 10)
      have hb63 : P3.length + 1 ≤ maxLen := by unfold maxLen; omega
      have hby : (P3.length + 1) * 1 ≤ 140737488355328 := by omega
      have hb3 : base ≤ w3.heap.size + 1 := by have := K3.size; omega
      have hbse := hide (J.owns_base ho3)
      have hbsr := hide (fun o => J.owns_row (ho3.alloc o))
      clear ho3 hk3 HC2 q0 q1 q2
      go_wp2_with (at_builtin; refine wpList_append_own _ rfl (.tmp 21) (.tmp 22) 42 rfl base 5 i0 (.int .u8 0) 1 1 Tryd.underlying42 hi hz0 hz1 hz2 rfl (by decide) _ P3.length _ rfl ((unhide hown1) _) ⟨w3.heap.size, 0, none⟩ 1 1 [.int .u8 10] rfl rfl (unhide hone) (unhide honep) hb63 hby (by simpa using hb3) ?_)
      intro vz w4 ho4 hg4 _
      have K4 : Bk base wr w4 := (K3.alloc (by have := K3.size; omega) _).grown hg4 (by simpa using hb3) (unhide hbse) ((unhide hbsr) _)
      have x3n := hide (show w4.ownsRow base 5 1 vz (textK l (k + 1)).length (J.bv (textK l (k + 1))) by
        have e : P3 ++ [10] = textK l (k + 1) := by
          rw [unhide hps, ← unhide HL, unhide HP3]
          simp only [List.append_assoc]
        rw [← e, List.length_append, ← J.bv_snoc]
        exact ho4)
      have hsh := owns_shape (unhide x3n)
      obtain ⟨xa3, xn3, xc3, rfl⟩ := hsh
      clear hg4 ho4 hown1 hone honep hb63 hby hbse hbsr K2 K3
      go_wp2_with fail
      go_roundg (l.length - (k + 1))
      case rel => exact ⟨k + 1, rfl, by go_num, by have := unhide HLT; omega, unhide x3n, hbel.trans K4⟩
      case measure => have := hg.out; have := unhide HLT; omega
    · have hge : ¬ (k : Int) < (l.length : Int) := by omega
      have hke : k = l.length := by omega
      have hLe : L = textK l l.length := by rw [unhide HL, hke]
      rw [← hLe] at fin
      have r0 := hX.cell 0
      have r1 := hX.cell 1
      simp only [List.getElem?_cons_zero, List.getElem?_cons_succ] at r0 r1
      have z0 := hX.frozen 0
      have z1 := hX.frozen 1
      rcases hown.2 with ⟨hnil, h0⟩ | ⟨g2, cap2, cur, hsome, hgb, _⟩
      · cases hnil
        have hL0 : L = [] := List.length_eq_zero_iff.1 h0
        rw [hL0] at fin
        have hcv : (convert 42 9 (.slice none 0 0)).run Tryd.prog wr = .ok (.string ByteArray.empty) wr := Lib.run_convert_nil_bytes wr 42 9 5 0 Tryd.underlying42 Tryd.underlying5 Tryd.underlying9
        clear hLe hL0 h0 HL hke hll hown
        go_wp2_with fail
        refine bodyPost_ret (v := .agg #[.int .i64 0, .string ByteArray.empty]) (by simp [results, Tryd.results7, go_sem, r0, r1]; try rfl) rfl ⟨by rw [unhide fin]; rfl, ?_⟩
        exact (BW.setCell (Nat.le_refl _) _).setCell (Nat.le_refl _) _
      · obtain ⟨rfl, rfl, rfl⟩ : xa = some ⟨g2, 0, none⟩ ∧ xn = L.length ∧ xc = cap2 := by injection hsome with e1 e2 e3; exact ⟨e1, e2, e3⟩
        have hcv := show (convert 42 9 (.slice (some ⟨g2, 0, none⟩) L.length xc)).run Tryd.prog wr = .ok (.string (J.bytes L)) wr from
          run_convert_bytes_back _ _ _ 5 _ xc _ Tryd.underlying42 Tryd.underlying5 Tryd.underlying9 (J.owns_cells hown)
        clear hown hLe HL hke hll
        generalize L.length = n at *
        generalize J.bytes L = q at *
        go_wp2_with fail
        refine bodyPost_ret (v := .agg #[.int .i64 0, .string q]) (by simp [results, Tryd.results7, go_sem, r0, r1]) rfl ⟨by rw [unhide fin], ?_⟩
        exact (BW.setCell (Nat.le_refl _) _).setCell (Nat.le_refl _) _
end Ed
end Go.Proofs.YtakdlcgiieaieaaDoor
