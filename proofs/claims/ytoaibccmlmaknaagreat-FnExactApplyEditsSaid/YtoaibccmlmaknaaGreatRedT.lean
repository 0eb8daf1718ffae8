/-
  A slice of edits that came in as an argument; laws.sz.., to.., eq.. over it.
  A row of edits made of an argument: how great it is together, its rows, and what marks leave of it.
  An answer of a code, a place and cells: what the laws' helpers find, mark and find again in it.
-/
import Derived.Test.YtoaibccmlmaknaaGreatArg
import Derived.Test.YtoaibccmlmaknaaGreatMarkC
import Derived.Test.YtoaibccmlmaknaaGreatRes
import Derived.ProofKit
import Derived.OpenShut
import Derived.Deep.Slices
import Derived.Deep.RegionWith
import Derived.Deep.Cut
namespace Go.Proofs.YtoaibccmlmaknaaGreat
open Go.RowKit Go.ChangeShapes Go.WideShapes
set_option linter.unusedVariables false
set_option linter.unusedSimpArgs false

/-- An edit, by its fields. -/
structure Ed where
  op : Int
  path : List M.Cl
  x : List M.Cl
namespace Ed
def zero : Ed := ⟨0, [], []⟩
def ok (e : Ed) : Prop := (-9223372036854775808 ≤ e.op ∧ e.op ≤ 9223372036854775807) ∧ (∀ c ∈ e.path, c.ok) ∧ ∀ c ∈ e.x, c.ok
def small (e : Ed) : Prop := e.path.length ≤ 1048576 ∧ e.x.length ≤ 1048576
def At (w : World) (b o : Nat) (e : Ed) : Prop := w.cell? ⟨b, o, none⟩ = some (.int .i64 e.op) ∧ (∃ g : Nat, w.cell? ⟨b, o + 1, none⟩ = some (.slice (some ⟨g, 0, none⟩) e.path.length e.path.length) ∧ g < w.heap.size ∧ Row w g 0 e.path) ∧ ∃ g : Nat, w.cell? ⟨b, o + 2, none⟩ = some (.slice (some ⟨g, 0, none⟩) e.x.length e.x.length) ∧ g < w.heap.size ∧ Row w g 0 e.x
def Row (w : World) (b : Nat) (l : List Ed) : Prop := ∀ i, i < l.length → At w b (i * 3) (l.getD i zero)
theorem Row.below {w w' : World} {b : Nat} {l : List Ed} (h : Row w b l) (hb : Below w.heap.size w w') (hB : b < w.heap.size) : Row w' b l := by
  intro i hi
  obtain ⟨h0, ⟨g, h1, hg, hr⟩, k, h2, hk, hs⟩ := h i hi
  exact ⟨(hb.cell hB).trans h0, ⟨g, (hb.cell hB).trans h1, Nat.lt_of_lt_of_le hg hb.size, hr.below hb hg⟩, k, (hb.cell hB).trans h2, Nat.lt_of_lt_of_le hk hb.size, hs.below hb hk⟩
def ArgAt (w : World) (b o : Nat) (e : Ed) : Prop := w.cell? ⟨b, o, none⟩ = some (.int .i64 e.op) ∧ (∃ (va : Option Addr) (vc : Nat), w.cell? ⟨b, o + 1, none⟩ = some (.slice va e.path.length vc) ∧ Cells w va vc e.path) ∧ ∃ (va : Option Addr) (vc : Nat), w.cell? ⟨b, o + 2, none⟩ = some (.slice va e.x.length vc) ∧ Cells w va vc e.x
def Arg (w : World) (a : Option Addr) (cap : Nat) (l : List Ed) : Prop :=
  cap ≤ 9223372036854775807 ∧ l.length ≤ cap ∧ (∀ e ∈ l, e.ok) ∧ (l = [] ∨ ∃ b off, a = some ⟨b, off, none⟩ ∧ b < w.heap.size ∧ ∀ i, i < l.length → ArgAt w b (off + i * 3) (l.getD i zero))
theorem own_far {w : World} {b c j : Nat} {t : TypeId} {xs : List Value} (h : Own w b t xs) (hne : b ≠ c) (x : Value) : Own (w.setCell ⟨c, j, none⟩ x) b t xs := by
  obtain ⟨r, h1, h2⟩ := h
  exact ⟨r, (heap_setCell_other _ ⟨c, j, none⟩ b x hne).trans h1, h2⟩
theorem OwnRow.far {w : World} {b c j : Nat} {t : TypeId} {l : List M.Cl} (h : OwnRow w b t l) (hne : b ≠ c) (x : Value) : OwnRow (w.setCell ⟨c, j, none⟩ x) b t l := by
  obtain ⟨xs, h1, h2⟩ := h
  exact ⟨xs, own_far h1 hne x, h2⟩
theorem Arg.below {w w' : World} {a : Option Addr} {cap : Nat} {l : List Ed} (h : Arg w a cap l) (hb : Below w.heap.size w w') : Arg w' a cap l := by
  obtain ⟨h1, h2, h3, h4⟩ := h
  refine ⟨h1, h2, h3, ?_⟩
  rcases h4 with h4 | ⟨b, off, e, hlt, hr⟩
  · exact .inl h4
  · refine .inr ⟨b, off, e, Nat.lt_of_lt_of_le hlt hb.size, fun i hi => ?_⟩
    obtain ⟨f0, ⟨va, vc, f1, hc⟩, vb, vd, f2, hd⟩ := hr i hi
    exact ⟨(hb.cell hlt).trans f0, ⟨va, vc, (hb.cell hlt).trans f1, hc.below hb⟩, vb, vd, (hb.cell hlt).trans f2, hd.below hb⟩

set_option maxHeartbeats 1000000 in
theorem sz_any (c : Ed) (va vb : Option Addr) (vc vd : Nat) (left : Int) (w : World) (hc : Cells w va vc c.path) (hd : Cells w vb vd c.x) (h0 : 0 ≤ left) (h1 : left ≤ 1048576) :
    Calls Tryz.prog 18 #[.agg #[.int .i64 c.op, .slice va c.path.length vc, .slice vb c.x.length vd], .int .i64 left] w fun e w' => ∃ r : Int, e = .returned (.int .i64 r) ∧ (r = -1 ∨ (0 ≤ r ∧ r ≤ left ∧ c.small)) ∧ Below w.heap.size w w' := by
  obtain ⟨W0, hW0⟩ : ∃ W0, W0 = w.alloc (.cells #[.int .i64 c.op, .slice va c.path.length vc, .slice vb c.x.length vd] 45) := ⟨_, rfl⟩
  have B0 : Below w.heap.size w W0 := by rw [hW0]; exact (Below.refl w.heap.size w).alloc (Nat.le_refl _) _
  have O0 : Own W0 w.heap.size 45 [.int .i64 c.op, .slice va c.path.length vc, .slice vb c.x.length vd] := by rw [hW0]; exact ⟨_, heap_alloc_new _ _, rfl⟩
  have q1 := O0.cell 1
  simp only [List.getElem?_cons_zero, List.getElem?_cons_succ] at q1
  have H := hide (_root_.Go.Proofs.YtoaibccmlmaknaaGreat.sz_arg va vc c.path left W0 (hc.below B0) h0 h1)
  have HD := hide hd
  clear hc hd
  go_enter Tryz.func18, Tryz.ntmps18
  go_upto_region 1 with fail
  rw [← hW0]
  clear hW0
  go_wp2_with fail
  refine (unhide H).mono ?_
  rintro e w1 ⟨r, rfl, hr, hb1⟩
  have B1 : Below w.heap.size w w1 := B0.trans (hb1.mono B0.size)
  have O1 := O0.below hb1 O0.lt
  have q2 := O1.cell 2
  simp only [List.getElem?_cons_zero, List.getElem?_cons_succ] at q2
  clear H hb1 O0 O1 q1
  by_cases hneg : r < 0
  · have g1 : decide (r < 0) = true := decide_eq_true hneg
    go_wp2_with fail
    go_ret
    exact ⟨_, rfl, .inl rfl, B1⟩
  have g1 : decide (r < 0) = false := decide_eq_false hneg
  have hr2 : 0 ≤ r ∧ r ≤ left ∧ c.path.length ≤ 1048576 := by
    rcases hr with hr | ⟨h2, h3⟩
    · exact absurd hr hneg
    · omega
  obtain ⟨hr0, hr1, hr3⟩ := hr2
  have H := hide (_root_.Go.Proofs.YtoaibccmlmaknaaGreat.sz_arg vb vd c.x r w1 ((unhide HD).below B1) hr0 (by omega))
  clear hr hneg HD
  go_wp2_with fail
  refine (unhide H).mono ?_
  rintro e w2 ⟨s, rfl, hs, hb2⟩
  have B2 : Below w.heap.size w w2 := B1.trans (hb2.mono B1.size)
  clear H hb2 q2 g1 B1
  by_cases hneg : s < 0
  · have g1 : decide (s < 0) = true := decide_eq_true hneg
    go_wp2_with fail
    go_ret
    exact ⟨_, rfl, .inl rfl, B2⟩
  · have g1 : decide (s < 0) = false := decide_eq_false hneg
    have hs2 : 0 ≤ s ∧ s ≤ left ∧ c.small := by
      rcases hs with hs | ⟨h2, h3⟩
      · exact absurd hs hneg
      · exact ⟨by omega, by omega, hr3, by omega⟩
    clear hs hneg
    go_wp2_with fail
    go_ret
    exact ⟨_, rfl, .inr hs2, B2⟩

set_option maxHeartbeats 2000000 in
theorem szS_any (b off cap : Nat) (l : List Ed) (left : Int) (w : World) (hrow : ∀ W, Below w.heap.size w W → ∀ i, i < l.length → ArgAt W b (off + i * 3) (l.getD i zero)) (hcap : cap ≤ 9223372036854775807) (hl : l.length ≤ cap) (h0 : 0 ≤ left) (h1 : left ≤ 1048576) :
    Calls Tryz.prog 5 #[.slice (some ⟨b, off, none⟩) l.length cap, .int .i64 left] w fun e w' => ∃ r : Int, e = .returned (.int .i64 r) ∧ (r < 0 ∨ (0 ≤ r ∧ l.length ≤ 1048576 ∧ ∀ i, i < l.length → (l.getD i zero).small)) ∧ Below w.heap.size w w' := by
  have HR := hide hrow
  clear hrow
  by_cases hbig : left - (l.length : Int) < 0
  · have g1 : decide (left - (l.length : Int) < 0) = true := decide_eq_true hbig
    go_enter Tryz.func5, Tryz.ntmps5
    go_wp2_with fail
    go_ret
    exact ⟨_, rfl, .inl (by decide), Below.refl _ _⟩
  have g1 : decide (left - (l.length : Int) < 0) = false := decide_eq_false hbig
  have hl2 : l.length ≤ 1048576 := by omega
  go_enter Tryz.func5, Tryz.ntmps5
  go_wp2_with fail
  go_loopg [1, 5] l.length (fun gh s1 s5 wr => ∃ (k : Nat) (q : Int), Hid (gh = l.length - k) ∧ s5 = .int .i64 k ∧ s1 = .int .i64 q ∧ k ≤ l.length ∧ 0 ≤ q ∧ q ≤ 1048576 ∧ Hid (∀ i, i < k → (l.getD i zero).small) ∧ Below w.heap.size w wr)
  case atStart => exact ⟨0, _, rfl, rfl, rfl, by omega, by omega, by omega, fun i hi => absurd hi (by omega), Below.refl _ _⟩
  case round =>
    obtain ⟨k, q, hg, rfl, rfl, hk, hq0, hq1, hall, hbel⟩ := hrel
    by_cases hlt : k < l.length
    · have hltI : (k : Int) < (l.length : Int) := by omega
      obtain ⟨f0, ⟨va, vc, f1, hc⟩, vb, vd, f2, hd⟩ := (unhide HR) wr hbel k hlt
      have HQ := hide (sz_any (l.getD k zero) va vb vc vd q wr hc hd hq0 hq1)
      have hnext : Hid ((l.getD k zero).small → ∀ i, i < k + 1 → (l.getD i zero).small) := fun h i hi => by
        by_cases e : i = k
        · subst e; exact h
        · exact hall.out i (by omega)
      clear hc hd hlt
      generalize l.getD k zero = n at *
      go_wp2_with fail
      refine (unhide HQ).mono ?_
      rintro e w1 ⟨r, rfl, hr, hb1⟩
      have B1 : Below w.heap.size w w1 := hbel.trans (hb1.mono hbel.size)
      clear HQ hb1 f0 f1 f2
      rcases hr with hr | ⟨hr0, hr1, hr2⟩
      · subst hr
        go_wp2_with fail
        go_ret
        exact ⟨_, rfl, .inl (by decide), B1⟩
      · have g2 : decide (r < 0) = false := decide_eq_false (by omega)
        have hn2 := hide (hnext.out hr2)
        clear hnext hr2
        go_wp2_with fail
        go_roundg (l.length - (k + 1))
        case rel => exact ⟨k + 1, r, rfl, by go_num, rfl, by omega, hr0, by omega, unhide hn2, B1⟩
        case measure => have := hg.out; omega
    · have hke : k = l.length := by omega
      have fin := hide (show ∀ i, i < l.length → (l.getD i zero).small by rw [← hke]; exact hall.out)
      clear hke
      go_wp2_with fail
      go_ret
      exact ⟨_, rfl, .inr ⟨hq0, hl2, unhide fin⟩, hbel⟩
set_option maxHeartbeats 1000000 in
theorem szS_none (a : Option Addr) (cap : Nat) (left : Int) (w : World) (h0 : 0 ≤ left) (h1 : left ≤ 1048576) :
    Calls Tryz.prog 5 #[.slice a 0 cap, .int .i64 left] w fun e w' => e = .returned (.int .i64 left) ∧ Below w.heap.size w w' := by
  have g1 : decide (left < 0) = false := decide_eq_false (by omega)
  go_enter Tryz.func5, Tryz.ntmps5
  go_wp2_with fail
  refine wp_loop_rounds 1 ?_
  rw [rounds_succ]
  go_wp2_with fail
  go_ret
  exact ⟨by simp, Below.refl _ _⟩
theorem sz_arg (a : Option Addr) (cap : Nat) (l : List Ed) (left : Int) (w : World) (h : Arg w a cap l) (h0 : 0 ≤ left) (h1 : left ≤ 1048576) :
    Calls Tryz.prog 5 #[.slice a l.length cap, .int .i64 left] w fun e w' => ∃ r : Int, e = .returned (.int .i64 r) ∧ (r < 0 ∨ (0 ≤ r ∧ l.length ≤ 1048576 ∧ ∀ i, i < l.length → (l.getD i zero).small)) ∧ Below w.heap.size w w' := by
  have hA := h
  obtain ⟨c1, c2, c3, rfl | ⟨b, off, rfl, hb, hr⟩⟩ := h
  · refine (szS_none a cap left w h0 h1).mono ?_
    rintro e w' ⟨rfl, hb⟩
    exact ⟨_, rfl, .inr ⟨h0, by simp, fun i hi => by simp at hi⟩, hb⟩
  · refine szS_any b off cap l left w (fun W hW i hi => ?_) c1 c2 h0 h1
    obtain ⟨_, _, _, h4 | ⟨b', off', e, _, hr'⟩⟩ := hA.below hW
    · subst h4; simp at hi
    · cases e; exact hr' i hi

set_option maxRecDepth 100000 in
set_option maxHeartbeats 1000000 in
theorem to_any (c : Ed) (va vb : Option Addr) (vc vd : Nat) (w : World) (hc : Cells w va vc c.path) (hd : Cells w vb vd c.x) (hn : c.small) :
    Calls Tryz.prog 25 #[.agg #[.int .i64 c.op, .slice va c.path.length vc, .slice vb c.x.length vd]] w fun e w' => ∃ g h : Nat, e = .returned (.agg #[.int .i64 c.op, .slice (some ⟨g, 0, none⟩) c.path.length c.path.length, .slice (some ⟨h, 0, none⟩) c.x.length c.x.length]) ∧ w.heap.size ≤ g ∧ g < h ∧ OwnRow w' g 56 c.path ∧ OwnRow w' h 56 c.x ∧ Below w.heap.size w w' := by
  obtain ⟨w3, hw3⟩ : ∃ w3, w3 = ((w.alloc (.cells #[.int .i64 c.op, .slice va c.path.length vc, .slice vb c.x.length vd] 45)).alloc (.cells #[.int .i64 0, .slice none 0 0, .slice none 0 0] 51)).alloc (.cells #[.int .i64 c.op, .slice none 0 0, .slice none 0 0] 51) := ⟨_, rfl⟩
  have B3 : Below w.heap.size w w3 := by rw [hw3]; exact (((Below.refl _ _).alloc (Nat.le_refl _) _).alloc (by simp) _).alloc (by simp <;> omega) _
  have hs3 : w3.heap.size = w.heap.size + 3 := by rw [hw3]; simp
  have O1 : Own w3 w.heap.size 45 [.int .i64 c.op, .slice va c.path.length vc, .slice vb c.x.length vd] := by
    rw [hw3]
    exact Own.alloc (Own.alloc ⟨_, heap_alloc_new _ _, rfl⟩ _) _
  have O2 : Own w3 (w.heap.size + 1) 51 [.int .i64 0, .slice none 0 0, .slice none 0 0] := by
    rw [hw3]
    refine Own.alloc ⟨_, ?_, rfl⟩ _
    simpa using heap_alloc_new (w.alloc (.cells #[.int .i64 c.op, .slice va c.path.length vc, .slice vb c.x.length vd] 45)) (.cells #[.int .i64 0, .slice none 0 0, .slice none 0 0] 51)
  have O3 : Own w3 (w.heap.size + 2) 51 [.int .i64 c.op, .slice none 0 0, .slice none 0 0] := by
    rw [hw3]
    refine ⟨_, ?_, rfl⟩
    simpa using heap_alloc_new ((w.alloc (.cells #[.int .i64 c.op, .slice va c.path.length vc, .slice vb c.x.length vd] 45)).alloc (.cells #[.int .i64 0, .slice none 0 0, .slice none 0 0] 51)) (.cells #[.int .i64 c.op, .slice none 0 0, .slice none 0 0] 51)
  have HT := hide (_root_.Go.Proofs.YtoaibccmlmaknaaGreat.to_arg va vc c.path w3 (hc.below B3) hn.1)
  have HD := hide hd
  have hn2 := hn.2
  have o1 := O1.cell 1
  simp only [List.getElem?_cons_zero, List.getElem?_cons_succ] at o1
  have HS3 := hide hs3
  clear hc hd hn hs3
  go_enter Tryz.func25, Tryz.ntmps25
  go_upto_region 3 with fail
  rw [← hw3]
  clear hw3
  go_wp2_with fail
  refine (unhide HT).mono ?_
  rintro e w4 ⟨rfl, ho4, hb4⟩
  have P1 := O1.below hb4 O1.lt
  have P2 := O2.below hb4 O2.lt
  have P3 := O3.below hb4 O3.lt
  have B4 : Below w.heap.size w w4 := B3.trans (hb4.mono B3.size)
  clear HT hb4 O1 O2 O3 o1
  obtain ⟨g, hg⟩ : ∃ g, g = w3.heap.size := ⟨_, rfl⟩
  have hg3 : g = w.heap.size + 3 := hg.trans (unhide HS3)
  rw [← hg] at ho4 ⊢
  have HG := hide hg3
  clear hg HS3
  obtain ⟨w5, hw5⟩ : ∃ w5, w5 = w4.setCell ⟨w.heap.size + 1 + 1, 1, none⟩ (.slice (some ⟨g, 0, none⟩) c.path.length c.path.length) := ⟨_, rfl⟩
  have Q1 : Own w5 w.heap.size 45 [.int .i64 c.op, .slice va c.path.length vc, .slice vb c.x.length vd] := by rw [hw5]; exact own_far P1 (by omega) _
  have Q2 : Own w5 (w.heap.size + 1) 51 [.int .i64 0, .slice none 0 0, .slice none 0 0] := by rw [hw5]; exact own_far P2 (by omega) _
  have Q3 : Own w5 (w.heap.size + 2) 51 [.int .i64 c.op, .slice (some ⟨g, 0, none⟩) c.path.length c.path.length, .slice none 0 0] := by rw [hw5]; exact P3.set 1 _
  have HR5 : OwnRow w5 g 56 c.path := by rw [hw5]; exact OwnRow.far ho4 (by omega) _
  have B5 : Below w.heap.size w w5 := by rw [hw5]; exact B4.setCell (show w.heap.size ≤ w.heap.size + 1 + 1 by omega) _
  have HT := hide (_root_.Go.Proofs.YtoaibccmlmaknaaGreat.to_arg vb vd c.x w5 ((unhide HD).below B5) hn2)
  have o3 := P3.cell 1
  have o4 := P3.frozen 1
  have o2 := Q1.cell 2
  simp only [List.getElem?_cons_zero, List.getElem?_cons_succ] at o2 o3
  clear P1 P2 P3 B4 HD hn2 ho4 hg3
  go_upto_region 4 with fail
  rw [← hw5]
  clear hw5 o3 o4
  go_wp2_with fail
  refine (unhide HT).mono ?_
  rintro e w6 ⟨rfl, ho6, hb6⟩
  have P2 := Q2.below hb6 Q2.lt
  have P3 := Q3.below hb6 Q3.lt
  have B6 : Below w.heap.size w w6 := B5.trans (hb6.mono B5.size)
  have hg5 := HR5.lt
  have HR6 := HR5.below hb6 HR5.lt
  have hg3 := unhide HG
  clear HT hb6 Q1 Q2 Q3 o2 B5 HR5 HG
  generalize w5.heap.size = h at *
  have HGH := hide (show w.heap.size ≤ g ∧ g < h from ⟨by omega, hg5⟩)
  have a0 := P2.cell 0
  have y0 := P2.frozen 0
  have b0 := P3.cell 0
  have z0 := P3.frozen 0
  have a1 := P2.cell 1
  have y1 := P2.frozen 1
  have b1 := P3.cell 1
  have z1 := P3.frozen 1
  have a2 := P2.cell 2
  have y2 := P2.frozen 2
  have b2 := P3.cell 2
  have z2 := P3.frozen 2
  simp only [List.getElem?_cons_zero, List.getElem?_cons_succ] at a0 a1 a2 b0 b1 b2
  obtain ⟨W, hW⟩ : ∃ W, W = ((((w6.setCell ⟨w.heap.size + 1 + 1, 2, none⟩ (.slice (some ⟨h, 0, none⟩) c.x.length c.x.length)).setCell ⟨w.heap.size + 1, 0, none⟩ (.int .i64 c.op)).setCell ⟨w.heap.size + 1, 1, none⟩ (.slice (some ⟨g, 0, none⟩) c.path.length c.path.length)).setCell ⟨w.heap.size + 1, 2, none⟩ (.slice (some ⟨h, 0, none⟩) c.x.length c.x.length)) := ⟨_, rfl⟩
  have RX : Own W (w.heap.size + 1) 51 [.int .i64 c.op, .slice (some ⟨g, 0, none⟩) c.path.length c.path.length, .slice (some ⟨h, 0, none⟩) c.x.length c.x.length] := by rw [hW]; exact (((own_far P2 (by omega) _).set 0 _).set 1 _).set 2 _
  have HRW := hide (show OwnRow W g 56 c.path by rw [hW]; exact OwnRow.far (OwnRow.far (OwnRow.far (OwnRow.far HR6 (by omega) _) (by omega) _) (by omega) _) (by omega) _)
  have HRX := hide (show OwnRow W h 56 c.x by rw [hW]; exact OwnRow.far (OwnRow.far (OwnRow.far (OwnRow.far ho6 (by omega) _) (by omega) _) (by omega) _) (by omega) _)
  have HBL := hide (show Below w.heap.size w W by rw [hW]; exact (((B6.setCell (show w.heap.size ≤ w.heap.size + 1 + 1 by omega) _).setCell (show w.heap.size ≤ w.heap.size + 1 by omega) _).setCell (show w.heap.size ≤ w.heap.size + 1 by omega) _).setCell (show w.heap.size ≤ w.heap.size + 1 by omega) _)
  clear P2 P3 ho6 HR6 B6 hg5 hg3
  go_wp2_with fail
  rw [← hW]
  have q0 := RX.cell 0
  have q1 := RX.cell 1
  have q2 := RX.cell 2
  simp only [List.getElem?_cons_zero, List.getElem?_cons_succ] at q0 q1 q2
  clear a0 a1 a2 b0 b1 b2 y0 y1 y2 z0 z1 z2 RX hW
  refine bodyPost_ret (v := .agg #[.int .i64 c.op, .slice (some ⟨g, 0, none⟩) c.path.length c.path.length, .slice (some ⟨h, 0, none⟩) c.x.length c.x.length]) (by simp [results, Tryz.results25, go_sem, q0, q1, q2]; try rfl) rfl ⟨g, h, rfl, (unhide HGH).1, (unhide HGH).2, unhide HRW, unhide HRX, unhide HBL⟩

/-- The first k edits lie in the words xs, each with two rows of its own behind the block B. -/
def Laid (w : World) (B : Nat) (xs : List Value) (l : List Ed) (k : Nat) : Prop := ∀ i, i < k → ∃ g h : Nat, xs[i * 3]? = some (.int .i64 (l.getD i zero).op) ∧ xs[i * 3 + 1]? = some (.slice (some ⟨g, 0, none⟩) (l.getD i zero).path.length (l.getD i zero).path.length) ∧ xs[i * 3 + 2]? = some (.slice (some ⟨h, 0, none⟩) (l.getD i zero).x.length (l.getD i zero).x.length) ∧ B < g ∧ B < h ∧ OwnRow w g 56 (l.getD i zero).path ∧ OwnRow w h 56 (l.getD i zero).x
theorem Laid.below {w w' : World} {B : Nat} {xs : List Value} {l : List Ed} {k : Nat} (h : Laid w B xs l k) (hb : Below w.heap.size w w') : Laid w' B xs l k := fun i hi => by
  obtain ⟨g, h, h0, h1, h2, hg, hh, ho, hp⟩ := h i hi
  exact ⟨g, h, h0, h1, h2, hg, hh, ho.below hb ho.lt, hp.below hb hp.lt⟩
theorem Laid.far {w : World} {B j : Nat} {xs : List Value} {l : List Ed} {k : Nat} (h : Laid w B xs l k) (x : Value) : Laid (w.setCell ⟨B, j, none⟩ x) B xs l k := fun i hi => by
  obtain ⟨g, h, h0, h1, h2, hg, hh, ho, hp⟩ := h i hi
  exact ⟨g, h, h0, h1, h2, hg, hh, OwnRow.far ho (by omega) x, OwnRow.far hp (by omega) x⟩
theorem Laid.step {w : World} {B : Nat} {xs : List Value} {l : List Ed} {k : Nat} (h : Laid w B xs l k) (hl : xs.length = l.length * 3) (hk : k < l.length) (n : Ed) (hn : n = l.getD k zero) (g g2 : Nat) (hg : B < g) (hg2 : B < g2) (ho : OwnRow w g 56 n.path) (hp : OwnRow w g2 56 n.x) : Laid w B (((xs.set (k * 3) (.int .i64 n.op)).set (k * 3 + 1) (.slice (some ⟨g, 0, none⟩) n.path.length n.path.length)).set (k * 3 + 2) (.slice (some ⟨g2, 0, none⟩) n.x.length n.x.length)) l (k + 1) := by
  intro i hi
  by_cases e : i = k
  · subst e
    refine ⟨g, g2, ?_, ?_, ?_, hg, hg2, by rw [← hn]; exact ho, by rw [← hn]; exact hp⟩
    all_goals rw [← hn]
    all_goals simp only [List.getElem?_set, List.length_set]
    all_goals simp
    all_goals omega
  · obtain ⟨g', h', h0, h1, h2, hg', hh', ho', hp'⟩ := h i (by omega)
    refine ⟨g', h', ?_, ?_, ?_, hg', hh', ho', hp'⟩
    · rw [List.getElem?_set_ne (by omega), List.getElem?_set_ne (by omega), List.getElem?_set_ne (by omega)]; exact h0
    · rw [List.getElem?_set_ne (by omega), List.getElem?_set_ne (by omega), List.getElem?_set_ne (by omega)]; exact h1
    · rw [List.getElem?_set_ne (by omega), List.getElem?_set_ne (by omega), List.getElem?_set_ne (by omega)]; exact h2
theorem Laid.row {w : World} {B : Nat} {xs : List Value} {l : List Ed} (h : Laid w B xs l l.length) (ho : Own w B 51 xs) : Row w B l := fun i hi => by
  obtain ⟨g, k, h0, h1, h2, hg, hh, hr, hp⟩ := h i hi
  exact ⟨(ho.cell _).trans h0, ⟨g, (ho.cell _).trans h1, hr.lt, hr.row⟩, k, (ho.cell _).trans h2, hp.lt, hp.row⟩
theorem info : (Tryz.prog.info? 51).map (fun i => (i.zero, i.size, i.bytes)) = some (some (.agg #[.int .i64 0, .slice none 0 0, .slice none 0 0]), 3, 56) := by kernel_rfl
def mkW (m : Nat) : Array Value := madeCells #[.int .i64 0, .slice none 0 0, .slice none 0 0] (m * 3)
theorem size_mk (m : Nat) : (mkW m).size = m * 3 := by simp [mkW, size_madeCells]
theorem make_run (n : Nat) (hn : n ≤ 1048576) (w : World) :
    (Instr.makeSlice 31 (.int .i64 (n : Int)) (.int .i64 (n : Int))).run Tryz.prog w = .ok (.slice (some ⟨w.heap.size, 0, none⟩) n n) (w.alloc (.cells (mkW n) 51)) := by
  obtain ⟨i, hi, hz⟩ := Option.map_eq_some_iff.1 info
  simp only [Prod.mk.injEq] at hz
  obtain ⟨h1, h2, h3⟩ := hz
  have := run_make (P := Tryz.prog) w 31 51 i _ Tryz.underlying31 hi h1 .i64 .i64 (n : Int) (n : Int) (by omega) (by omega) (by rw [h3]; omega) (by omega)
  rw [this, h2]
  simp only [Int.toNat_natCast]
  rfl

set_option maxRecDepth 100000 in
set_option maxHeartbeats 2000000 in
theorem toS_any (b off cap : Nat) (l : List Ed) (w : World) (hrow : ∀ W, Below w.heap.size w W → ∀ i, i < l.length → ArgAt W b (off + i * 3) (l.getD i zero)) (hcap : cap ≤ 9223372036854775807) (hl : l.length ≤ cap) (hn : l.length ≤ 1048576) (hv : ∀ i, i < l.length → (l.getD i zero).small) :
    Calls Tryz.prog 8 #[.slice (some ⟨b, off, none⟩) l.length cap] w fun e w' => e = .returned (.slice (some ⟨w.heap.size, 0, none⟩) l.length l.length) ∧ Row w' w.heap.size l ∧ w.heap.size < w'.heap.size ∧ Below w.heap.size w w' := by
  have HR := hide hrow
  have HV := hide hv
  clear hrow hv
  have hmk := make_run l.length hn
  go_enter Tryz.func8, Tryz.ntmps8
  go_wp2_with fail
  go_loopg [4] l.length (fun gh s4 wr => ∃ (k : Nat) (xs : List Value), Hid (gh = l.length - k) ∧ s4 = .int .i64 k ∧ k ≤ l.length ∧ Own wr w.heap.size 51 xs ∧ Hid (xs.length = l.length * 3) ∧ Hid (Laid wr w.heap.size xs l k) ∧ Below w.heap.size w wr)
  case atStart => exact ⟨0, (mkW l.length).toList, rfl, rfl, by omega, ⟨_, heap_alloc_new _ _, rfl⟩, by simp [Hid, size_mk], fun i hi => absurd hi (by omega), (Below.refl _ _).alloc (Nat.le_refl _) _⟩
  case round =>
    clear hmk
    obtain ⟨k, xs, hg, rfl, hk, hown, hlen, hlaid, hbel⟩ := hrel
    by_cases hlt : k < l.length
    · have hltI : (k : Int) < (l.length : Int) := by omega
      obtain ⟨f0, ⟨va, vc, f1, hc⟩, vb, vd, f2, hd⟩ := (unhide HR) wr hbel k hlt
      have HQ := hide (to_any (l.getD k zero) va vb vc vd wr hc hd ((unhide HV) k hlt))
      obtain ⟨n, hn2⟩ : ∃ n, n = l.getD k zero := ⟨_, rfl⟩
      have HN := hide hn2
      rw [← hn2] at f0 f1 f2 HQ
      clear hn2 hc hd
      go_wp2_with fail
      refine (unhide HQ).mono ?_
      rintro e w1 ⟨g, h, rfl, hg1, hgh, ho1, ho2, hb1⟩
      have hown1 := hown.below hb1 hown.lt
      have hlaid1 := hlaid.out.below hb1
      have hwlt := hown.lt
      have hlen3 := hlen.out
      have hst := hide (hlaid1.step hlen3 hlt n (unhide HN) g h (by omega) (by omega) ho1 ho2)
      obtain ⟨v0, g0⟩ := some_of_lt (xs := xs) (j := k * 3) (by omega)
      have i0 := (hown1.cell (k * 3)).trans g0
      have z0 := hown1.frozen (k * 3)
      obtain ⟨v1, g1⟩ := some_of_lt (xs := xs) (j := k * 3 + 1) (by omega)
      have i1 := (hown1.cell (k * 3 + 1)).trans g1
      have z1 := hown1.frozen (k * 3 + 1)
      obtain ⟨v2, g2⟩ := some_of_lt (xs := xs) (j := k * 3 + 2) (by omega)
      have i2 := (hown1.cell (k * 3 + 2)).trans g2
      have z2 := hown1.frozen (k * 3 + 2)
      have HL3 := hide (show (((xs.set (k * 3) (.int .i64 n.op)).set (k * 3 + 1) (.slice (some ⟨g, 0, none⟩) n.path.length n.path.length)).set (k * 3 + 2) (.slice (some ⟨h, 0, none⟩) n.x.length n.x.length)).length = l.length * 3 by simp only [List.length_set]; exact hlen3)
      clear g0 g1 g2 f0 f1 f2 HQ hlaid1 ho1 ho2 hlen3
      go_wp2_with fail
      go_roundg (l.length - (k + 1))
      case rel => exact ⟨k + 1, _, rfl, by go_num, by omega, ((hown1.set _ _).set _ _).set _ _, unhide HL3, (((unhide hst).far _).far _).far _, (((hbel.trans (hb1.mono hbel.size)).setCell (Nat.le_refl _) _).setCell (Nat.le_refl _) _).setCell (Nat.le_refl _) _⟩
      case measure => have := hg.out; omega
    · have hke : k = l.length := by omega
      have fin := hide (Laid.row (by have := hlaid.out; rw [hke] at this; exact this) hown)
      have hlt2 := hown.lt
      clear hke
      go_wp2_with fail
      go_ret
      exact ⟨rfl, unhide fin, hlt2, hbel⟩
set_option maxHeartbeats 1000000 in
theorem toS_none (a : Option Addr) (cap : Nat) (w : World) :
    Calls Tryz.prog 8 #[.slice a 0 cap] w fun e w' => e = .returned (.slice (some ⟨w.heap.size, 0, none⟩) 0 0) ∧ Row w' w.heap.size [] ∧ w.heap.size < w'.heap.size ∧ Below w.heap.size w w' := by
  have hmk := make_run 0 (by omega)
  simp only [Int.natCast_zero] at hmk
  have HB := hide (fun o => (Below.refl w.heap.size w).alloc (Nat.le_refl _) o)
  go_enter Tryz.func8, Tryz.ntmps8
  go_wp2_with fail
  refine wp_loop_rounds 1 ?_
  rw [rounds_succ]
  go_wp2_with fail
  go_ret
  exact ⟨rfl, fun i hi => by simp at hi, by simp, (unhide HB) _⟩
theorem to_arg (a : Option Addr) (cap : Nat) (l : List Ed) (w : World) (h : Arg w a cap l) (hn : l.length ≤ 1048576) (hv : ∀ i, i < l.length → (l.getD i zero).small) :
    Calls Tryz.prog 8 #[.slice a l.length cap] w fun e w' => e = .returned (.slice (some ⟨w.heap.size, 0, none⟩) l.length l.length) ∧ Row w' w.heap.size l ∧ w.heap.size < w'.heap.size ∧ Below w.heap.size w w' := by
  have hA := h
  obtain ⟨c1, c2, c3, rfl | ⟨b, off, rfl, hb, hr⟩⟩ := h
  · exact toS_none a cap w
  · refine toS_any b off cap l w (fun W hW i hi => ?_) c1 c2 hn hv
    obtain ⟨_, _, _, h4 | ⟨b', off', e, _, hr'⟩⟩ := hA.below hW
    · subst h4; simp at hi
    · cases e; exact hr' i hi

set_option maxHeartbeats 1000000 in
theorem eq_same (n : Ed) (g g' h h' : Nat) (w : World) (hr : _root_.Go.Proofs.YtoaibccmlmaknaaGreat.Row w g 0 n.path) (hg : g < w.heap.size) (hr' : _root_.Go.Proofs.YtoaibccmlmaknaaGreat.Row w g' 0 n.path) (hg' : g' < w.heap.size) (hs : _root_.Go.Proofs.YtoaibccmlmaknaaGreat.Row w h 0 n.x) (hh : h < w.heap.size) (hs' : _root_.Go.Proofs.YtoaibccmlmaknaaGreat.Row w h' 0 n.x) (hh' : h' < w.heap.size) (hn : n.small) :
    Calls Tryz.prog 31 #[.agg #[.int .i64 n.op, .slice (some ⟨g, 0, none⟩) n.path.length n.path.length, .slice (some ⟨h, 0, none⟩) n.x.length n.x.length], .agg #[.int .i64 n.op, .slice (some ⟨g', 0, none⟩) n.path.length n.path.length, .slice (some ⟨h', 0, none⟩) n.x.length n.x.length]] w fun e w' => e = .returned (.bool true) ∧ Below w.heap.size w w' := by
  obtain ⟨W, hW⟩ : ∃ W, W = (w.alloc (.cells #[.int .i64 n.op, .slice (some ⟨g, 0, none⟩) n.path.length n.path.length, .slice (some ⟨h, 0, none⟩) n.x.length n.x.length] 51)).alloc (.cells #[.int .i64 n.op, .slice (some ⟨g', 0, none⟩) n.path.length n.path.length, .slice (some ⟨h', 0, none⟩) n.x.length n.x.length] 51) := ⟨_, rfl⟩
  have B0 : Below w.heap.size w W := by rw [hW]; exact ((Below.refl w.heap.size w).alloc (Nat.le_refl _) _).alloc (by simp) _
  have O1 : Own W w.heap.size 51 [.int .i64 n.op, .slice (some ⟨g, 0, none⟩) n.path.length n.path.length, .slice (some ⟨h, 0, none⟩) n.x.length n.x.length] := by rw [hW]; exact Own.alloc ⟨_, heap_alloc_new _ _, rfl⟩ _
  have O2 : Own W (w.heap.size + 1) 51 [.int .i64 n.op, .slice (some ⟨g', 0, none⟩) n.path.length n.path.length, .slice (some ⟨h', 0, none⟩) n.x.length n.x.length] := by
    rw [hW]
    refine ⟨_, ?_, rfl⟩
    simpa using heap_alloc_new (w.alloc (.cells #[.int .i64 n.op, .slice (some ⟨g, 0, none⟩) n.path.length n.path.length, .slice (some ⟨h, 0, none⟩) n.x.length n.x.length] 51)) (.cells #[.int .i64 n.op, .slice (some ⟨g', 0, none⟩) n.path.length n.path.length, .slice (some ⟨h', 0, none⟩) n.x.length n.x.length] 51)
  have H1 := hide (eqCellS_same g 0 n.path.length g' 0 n.path.length n.path W (hr.below B0 hg) (Nat.lt_of_lt_of_le hg B0.size) (hr'.below B0 hg') (Nat.lt_of_lt_of_le hg' B0.size) hn.1 (Nat.le_refl _) (Nat.le_refl _))
  have H2 := hide (fun w1 (hb : Below w.heap.size w w1) => eqCellS_same h 0 n.x.length h' 0 n.x.length n.x w1 (hs.below hb hh) (Nat.lt_of_lt_of_le hh hb.size) (hs'.below hb hh') (Nat.lt_of_lt_of_le hh' hb.size) hn.2 (Nat.le_refl _) (Nat.le_refl _))
  clear hr hr' hs hs' hn
  have a0 := O1.cell 0
  have a1 := O1.cell 1
  have b0 := O2.cell 0
  have b1 := O2.cell 1
  simp only [List.getElem?_cons_zero, List.getElem?_cons_succ] at a0 a1 b0 b1
  go_enter Tryz.func31, Tryz.ntmps31
  go_upto_region 1 with fail
  rw [← hW]
  clear hW
  go_wp2_with fail
  refine (unhide H1).mono ?_
  rintro e w1 ⟨rfl, hb1⟩
  have B1 : Below w.heap.size w w1 := B0.trans (hb1.mono B0.size)
  have a2 := (O1.below hb1 O1.lt).cell 2
  have b2 := (O2.below hb1 O2.lt).cell 2
  simp only [List.getElem?_cons_zero, List.getElem?_cons_succ] at a2 b2
  clear a0 a1 b0 b1 O1 O2 H1 B0 hb1
  go_wp2_with fail
  refine ((unhide H2) _ B1).mono ?_
  rintro e w2 ⟨rfl, hb2⟩
  have B2 : Below w.heap.size w w2 := B1.trans (hb2.mono B1.size)
  clear H2 hb2 a2 b2 B1
  go_wp2_with fail
  go_ret
  exact ⟨rfl, B2⟩

set_option maxHeartbeats 2000000 in
theorem eqS_same (b b' : Nat) (l : List Ed) (w : World) (hrow : Row w b l) (hb : b < w.heap.size) (hrow' : Row w b' l) (hb' : b' < w.heap.size) (hn : l.length ≤ 1048576) (hv : ∀ i, i < l.length → (l.getD i zero).small) :
    Calls Tryz.prog 12 #[.slice (some ⟨b, 0, none⟩) l.length l.length, .slice (some ⟨b', 0, none⟩) l.length l.length] w fun e w' => e = .returned (.bool true) ∧ Below w.heap.size w w' := by
  have HR := hide hrow
  have HR' := hide hrow'
  have HV := hide hv
  clear hrow hrow' hv
  go_enter Tryz.func12, Tryz.ntmps12
  go_wp2_with fail
  go_loopg [5] l.length (fun gh s5 wr => ∃ k : Nat, Hid (gh = l.length - k) ∧ s5 = .int .i64 k ∧ k ≤ l.length ∧ Below w.heap.size w wr)
  case atStart => exact ⟨0, rfl, rfl, by omega, Below.refl _ _⟩
  case round =>
    obtain ⟨k, hg, rfl, hk, hbel⟩ := hrel
    by_cases hlt : k < l.length
    · have hltI : (k : Int) < (l.length : Int) := by omega
      obtain ⟨f0, ⟨vg, f1, hvg, hvr⟩, vh, f2, hvh, hvs⟩ := ((unhide HR).below hbel hb) k hlt
      obtain ⟨g0, ⟨vg', g1, hvg', hvr'⟩, vh', g2, hvh', hvs'⟩ := ((unhide HR').below hbel hb') k hlt
      have HQ := hide (fun W (hW : Below wr.heap.size wr W) => eq_same (l.getD k zero) vg vg' vh vh' W (hvr.below hW hvg) (Nat.lt_of_lt_of_le hvg hW.size) (hvr'.below hW hvg') (Nat.lt_of_lt_of_le hvg' hW.size) (hvs.below hW hvh) (Nat.lt_of_lt_of_le hvh hW.size) (hvs'.below hW hvh') (Nat.lt_of_lt_of_le hvh' hW.size) ((unhide HV) k hlt))
      have BD : Below wr.heap.size wr wr.drew := (Below.refl _ _).drew
      clear hvr hvr' hvs hvs' hlt
      generalize l.getD k zero = n at *
      go_wp2_with fail
      go_region_with (go_at_call 31; refine ((unhide HQ) _ BD).mono ?_; rintro e w1 ⟨rfl, hb1⟩)
      all_goals
        go_wp2_with fail
        go_roundg (l.length - (k + 1))
        case rel => exact ⟨k + 1, rfl, by go_num, by omega, hbel.drew.trans (hb1.mono (by exact hbel.size))⟩
        case measure => have := hg.out; omega
    · go_wp2_with fail
      go_ret
      exact ⟨rfl, hbel⟩

theorem cellsOf_ : Tryz.prog.cellsOf 45 = 3 := by kernel_rfl
theorem cellsI : Tryz.prog.cellsOf 2 = 1 := by kernel_rfl
theorem cellsV : Tryz.prog.cellsOf 22 = 1 := by kernel_rfl
section
variable {H : Type} {enc : TypeId × Value → H} {w : World} {base : Nat} {spare : Nat → Bool} {held : Bool}
theorem slice_of {n : Nat} {c5 : Value} {x : DataW H × List MemPlace} (h5 : DataW.trod enc Tryz.prog w base spare held n 22 [c5] = some x) : ∃ (va : Option Addr) (vc : Nat) (vl : List M.Cl), c5 = .slice va vl.length vc ∧ Cells w va vc vl := by
  obtain ⟨va, len, vc, e5⟩ : ∃ va len vc, c5 = .slice va len vc := by
    rcases Go.Deep.open_slice Tryz.underlying22 h5 with ⟨hcs, _⟩ | ⟨ad, len', cap', m', n', D, Pl, hcs, _⟩
    · simp only [List.cons.injEq, and_true] at hcs
      exact ⟨_, _, _, hcs⟩
    · simp only [List.cons.injEq, and_true] at hcs
      exact ⟨_, _, _, hcs⟩
  subst e5
  obtain ⟨vl, hvl, hcl⟩ := open_cells h5 (fun p hp => DataW.trod_lt _ _ _ _ h5 p hp)
  subst hvl
  exact ⟨va, vc, vl, rfl, hcl⟩
set_option maxRecDepth 100000 in
theorem open_one {n : Nat} {cs : List Value} {x : DataW H × List MemPlace} (h : DataW.trod enc Tryz.prog w base spare held n 45 cs = some x) :
    ∃ (c : Ed) (va vb : Option Addr) (vc vd : Nat), cs = [.int .i64 c.op, .slice va c.path.length vc, .slice vb c.x.length vd] ∧ Cells w va vc c.path ∧ Cells w vb vd c.x ∧ c.ok := by
  obtain ⟨xs, m, _, _, hl, hlen, hf⟩ := DataW.trod_struct Tryz.underlying45 h
  rw [cellsOf_] at hl
  match cs, hl, xs, hlen with
  | [c0, c1, c2], _, [y0, y1, y2], _ =>
    have a0 : DataW.trod enc Tryz.prog w base spare held m 2 (([c0, c1, c2].drop 0).take (Tryz.prog.cellsOf 2)) = some y0 := hf 0 _ rfl
    rw [cellsI] at a0
    have h0 : DataW.trod enc Tryz.prog w base spare held m 2 [c0] = some y0 := a0
    have a1 : DataW.trod enc Tryz.prog w base spare held m 22 (([c0, c1, c2].drop 1).take (Tryz.prog.cellsOf 22)) = some y1 := hf 1 _ rfl
    rw [cellsV] at a1
    have h1 : DataW.trod enc Tryz.prog w base spare held m 22 [c1] = some y1 := a1
    have a2 : DataW.trod enc Tryz.prog w base spare held m 22 (([c0, c1, c2].drop 2).take (Tryz.prog.cellsOf 22)) = some y2 := hf 2 _ rfl
    rw [cellsV] at a2
    have h2 : DataW.trod enc Tryz.prog w base spare held m 22 [c2] = some y2 := a2
    obtain ⟨n0, e0, _, w0⟩ := DataW.trod_int Tryz.underlying2 h0
    obtain ⟨va, vc, vl, e1, hc⟩ := slice_of h1
    obtain ⟨vb, vd, vm, e2, hd⟩ := slice_of h2
    simp only [List.cons.injEq, and_true] at e0
    subst e0 e1 e2
    exact ⟨⟨n0, vl, vm⟩, va, vb, vc, vd, rfl, hc, hd, bounds_i64 w0, hc.2.2.1, hd.2.2.1⟩

set_option maxRecDepth 100000 in
theorem open_arg {a : Option Addr} {len cap fuel : Nat} {x : DataW H × List MemPlace} (h : DataW.trod enc Tryz.prog w base spare held fuel 23 [.slice a len cap] = some x) :
    ∃ l : List Ed, l.length = len ∧ Arg w a cap l := by
  rcases Go.Deep.open_slice Tryz.underlying23 h with ⟨hcs, _⟩ | ⟨ad, len', cap', m, n, D, Pl, hcs, _, hl, hm, hmm, hx, hel⟩
  · simp only [List.cons.injEq, Value.slice.injEq, and_true] at hcs
    obtain ⟨rfl, rfl, rfl⟩ := hcs
    exact ⟨[], rfl, by omega, by simp, by simp, .inl rfl⟩
  · simp only [List.cons.injEq, Value.slice.injEq, and_true] at hcs
    obtain ⟨rfl, rfl, rfl⟩ := hcs
    unfold maxLen at hm
    rw [cellsOf_] at hel
    have hlm : len ≤ m := by rw [hmm]; split <;> omega
    have key : ∀ i, i < len → ∃ c : Ed × (Option Addr × Option Addr) × Nat × Nat, w.cells? base (ad.add (i * 3)) 3 = some [.int .i64 c.1.op, .slice c.2.1.1 c.1.path.length c.2.2.1, .slice c.2.1.2 c.1.x.length c.2.2.2] ∧ Cells w c.2.1.1 c.2.2.1 c.1.path ∧ Cells w c.2.1.2 c.2.2.2 c.1.x ∧ c.1.ok := by
      intro i hi
      obtain ⟨cs', h1, h2⟩ := hel i (by omega)
      obtain ⟨c, va, vb, vc, vd, rfl, hc, hd, ho⟩ := open_one h2
      exact ⟨(c, (va, vb), vc, vd), h1, hc, hd, ho⟩
    haveI : Inhabited (Ed × (Option Addr × Option Addr) × Nat × Nat) := ⟨(zero, (none, none), 0, 0)⟩
    obtain ⟨C, hC⟩ := Go.Deep.choose_lt key
    refine ⟨(List.range len).map (fun i => (C i).1), by simp, hm, by simpa using hl, ?_, ?_⟩
    · intro c hc
      simp only [List.mem_map, List.mem_range] at hc
      obtain ⟨i, hi, rfl⟩ := hc
      exact (hC i hi).2.2.2
    · by_cases h0 : len = 0
      · left; subst h0; rfl
      · right
        obtain ⟨b, off, spot⟩ := ad
        have c0 := (World.cells?_some (hC 0 (by omega)).1).2.2 0 (by omega)
        have hs : spot = none := by
          have := World.cell?_spot (c0.trans rfl)
          simpa [Addr.add] using this
        subst hs
        have hblk : b < w.heap.size := by
          have := block_lt_of_cell (c0.trans rfl)
          rw [add_plain, add_plain] at this
          exact this
        refine ⟨b, off, rfl, hblk, ?_⟩
        intro i hi
        have hi' : i < len := by simpa using hi
        have e : ((List.range len).map (fun i => (C i).1)).getD i zero = (C i).1 := by simp [List.getD_eq_getElem?_getD, hi']
        rw [e]
        have cc := (World.cells?_some (hC i hi').1).2.2
        simp only [add_plain] at cc
        exact ⟨cc 0 (by omega), ⟨(C i).2.1.1, (C i).2.2.1, cc 1 (by omega), (hC i hi').2.1⟩, (C i).2.1.2, (C i).2.2.2, cc 2 (by omega), (hC i hi').2.2.1⟩
end
end Ed

end Go.Proofs.YtoaibccmlmaknaaGreat

namespace Go.Proofs.YtoaibccmlmaknaaGreat
open Go.RowKit
set_option linter.unusedVariables false
set_option linter.unusedSimpArgs false

namespace Ed
/-- How many cells the first k edits have. -/
def tot (l : List Ed) : Nat → Nat
  | 0 => 0
  | k + 1 => tot l k + ((l.getD k zero).path.length + (l.getD k zero).x.length)
theorem tot_mono (l : List Ed) : ∀ k n, k ≤ n → tot l k ≤ tot l n := by
  intro k n h
  induction n with
  | zero => rw [show k = 0 by omega]; exact Nat.le_refl _
  | succ n ih =>
    by_cases e : k = n + 1
    · rw [e]; exact Nat.le_refl _
    · have := ih (by omega); rw [tot]; omega
theorem tot_one (l : List Ed) (i : Nat) (hi : i < l.length) : (l.getD i zero).path.length + (l.getD i zero).x.length ≤ tot l l.length := by
  have := tot_mono l (i + 1) l.length (by omega)
  rw [tot] at this
  omega
theorem tot_small {l : List Ed} (h : tot l l.length ≤ 1048576) : ∀ i, i < l.length → (l.getD i zero).small := fun i hi => by
  have := tot_one l i hi
  exact ⟨by omega, by omega⟩
set_option maxHeartbeats 1000000 in
theorem sz2_any (c : Ed) (va vb : Option Addr) (vc vd : Nat) (left : Int) (w : World) (hc : Cells w va vc c.path) (hd : Cells w vb vd c.x) (h0 : 0 ≤ left) (h1 : left ≤ 1048576) :
    Calls Tryz.prog 18 #[.agg #[.int .i64 c.op, .slice va c.path.length vc, .slice vb c.x.length vd], .int .i64 left] w fun e w' => ∃ r : Int, e = .returned (.int .i64 r) ∧ (r = -1 ∨ (0 ≤ r ∧ r + (c.path.length + c.x.length : Nat) ≤ left)) ∧ Below w.heap.size w w' := by
  obtain ⟨W0, hW0⟩ : ∃ W0, W0 = w.alloc (.cells #[.int .i64 c.op, .slice va c.path.length vc, .slice vb c.x.length vd] 45) := ⟨_, rfl⟩
  have B0 : Below w.heap.size w W0 := by rw [hW0]; exact (Below.refl w.heap.size w).alloc (Nat.le_refl _) _
  have O0 : Own W0 w.heap.size 45 [.int .i64 c.op, .slice va c.path.length vc, .slice vb c.x.length vd] := by rw [hW0]; exact ⟨_, heap_alloc_new _ _, rfl⟩
  have q1 := O0.cell 1
  simp only [List.getElem?_cons_zero, List.getElem?_cons_succ] at q1
  have H := hide (_root_.Go.Proofs.YtoaibccmlmaknaaGreat.sz_arg va vc c.path left W0 (hc.below B0) h0 h1)
  have HD := hide hd
  clear hc hd
  go_enter Tryz.func18, Tryz.ntmps18
  go_upto_region 1 with fail
  rw [← hW0]
  clear hW0
  go_wp2_with fail
  refine (unhide H).mono ?_
  rintro e w1 ⟨r, rfl, hr, hb1⟩
  have B1 : Below w.heap.size w w1 := B0.trans (hb1.mono B0.size)
  have O1 := O0.below hb1 O0.lt
  have q2 := O1.cell 2
  simp only [List.getElem?_cons_zero, List.getElem?_cons_succ] at q2
  clear H hb1 O0 O1 q1
  by_cases hneg : r < 0
  · have g1 : decide (r < 0) = true := decide_eq_true hneg
    go_wp2_with fail
    go_ret
    exact ⟨_, rfl, .inl rfl, B1⟩
  have g1 : decide (r < 0) = false := decide_eq_false hneg
  have hr2 : 0 ≤ r ∧ r ≤ left ∧ r + c.path.length ≤ left := by
    rcases hr with hr | ⟨h2, h3⟩
    · exact absurd hr hneg
    · omega
  obtain ⟨hr0, hr1, hr3⟩ := hr2
  have H := hide (_root_.Go.Proofs.YtoaibccmlmaknaaGreat.sz_arg vb vd c.x r w1 ((unhide HD).below B1) hr0 (by omega))
  clear hr hneg HD
  go_wp2_with fail
  refine (unhide H).mono ?_
  rintro e w2 ⟨s, rfl, hs, hb2⟩
  have B2 : Below w.heap.size w w2 := B1.trans (hb2.mono B1.size)
  clear H hb2 q2 g1 B1
  by_cases hneg : s < 0
  · have g1 : decide (s < 0) = true := decide_eq_true hneg
    go_wp2_with fail
    go_ret
    exact ⟨_, rfl, .inl rfl, B2⟩
  · have g1 : decide (s < 0) = false := decide_eq_false hneg
    have hs2 : 0 ≤ s ∧ s + (c.path.length + c.x.length : Nat) ≤ left := by
      rcases hs with hs | ⟨h2, h3⟩
      · exact absurd hs hneg
      · exact ⟨by omega, by push_cast; omega⟩
    clear hs hneg
    go_wp2_with fail
    go_ret
    exact ⟨_, rfl, .inr hs2, B2⟩

set_option maxHeartbeats 2000000 in
theorem sz2S_any (b off cap : Nat) (l : List Ed) (left : Int) (w : World) (hrow : ∀ W, Below w.heap.size w W → ∀ i, i < l.length → ArgAt W b (off + i * 3) (l.getD i zero)) (hcap : cap ≤ 9223372036854775807) (hl : l.length ≤ cap) (h0 : 0 ≤ left) (h1 : left ≤ 1048576) :
    Calls Tryz.prog 5 #[.slice (some ⟨b, off, none⟩) l.length cap, .int .i64 left] w fun e w' => ∃ r : Int, e = .returned (.int .i64 r) ∧ (r < 0 ∨ (0 ≤ r ∧ l.length ≤ 1048576 ∧ tot l l.length ≤ 1048576)) ∧ Below w.heap.size w w' := by
  have HR := hide hrow
  clear hrow
  by_cases hbig : left - (l.length : Int) < 0
  · have g1 : decide (left - (l.length : Int) < 0) = true := decide_eq_true hbig
    go_enter Tryz.func5, Tryz.ntmps5
    go_wp2_with fail
    go_ret
    exact ⟨_, rfl, .inl (by decide), Below.refl _ _⟩
  have g1 : decide (left - (l.length : Int) < 0) = false := decide_eq_false hbig
  have hl2 : l.length ≤ 1048576 := by omega
  go_enter Tryz.func5, Tryz.ntmps5
  go_wp2_with fail
  go_loopg [1, 5] l.length (fun gh s1 s5 wr => ∃ (k : Nat) (q : Int), Hid (gh = l.length - k) ∧ s5 = .int .i64 k ∧ s1 = .int .i64 q ∧ k ≤ l.length ∧ 0 ≤ q ∧ q ≤ 1048576 ∧ Hid (q + (tot l k : Int) ≤ 1048576) ∧ Below w.heap.size w wr)
  case atStart => exact ⟨0, _, rfl, rfl, rfl, by omega, by omega, by omega, (by show _ + ((0 : Nat) : Int) ≤ _; omega), Below.refl _ _⟩
  case round =>
    obtain ⟨k, q, hg, rfl, rfl, hk, hq0, hq1, hall, hbel⟩ := hrel
    by_cases hlt : k < l.length
    · have hltI : (k : Int) < (l.length : Int) := by omega
      obtain ⟨f0, ⟨va, vc, f1, hc⟩, vb, vd, f2, hd⟩ := (unhide HR) wr hbel k hlt
      have HQ := hide (sz2_any (l.getD k zero) va vb vc vd q wr hc hd hq0 hq1)
      have htk := hide (show tot l (k + 1) = tot l k + ((l.getD k zero).path.length + (l.getD k zero).x.length) from rfl)
      have HALL := hide hall.out
      clear hc hd hlt
      generalize l.getD k zero = n at *
      go_wp2_with fail
      refine (unhide HQ).mono ?_
      rintro e w1 ⟨r, rfl, hr, hb1⟩
      have B1 : Below w.heap.size w w1 := hbel.trans (hb1.mono hbel.size)
      clear HQ hb1 f0 f1 f2
      rcases hr with hr | ⟨hr0, hr1⟩
      · subst hr
        go_wp2_with fail
        go_ret
        exact ⟨_, rfl, .inl (by decide), B1⟩
      · have g2 : decide (r < 0) = false := decide_eq_false (by omega)
        have hn2 := hide (show r + (tot l (k + 1) : Int) ≤ 1048576 by rw [unhide htk]; have := unhide HALL; push_cast at *; omega)
        go_wp2_with fail
        go_roundg (l.length - (k + 1))
        case rel => exact ⟨k + 1, r, rfl, by go_num, rfl, by omega, hr0, by push_cast at hr1; omega, unhide hn2, B1⟩
        case measure => have := hg.out; omega
    · have hke : k = l.length := by omega
      have fin := hide (show tot l l.length ≤ 1048576 by have := hall.out; rw [hke] at this; omega)
      clear hke
      go_wp2_with fail
      go_ret
      exact ⟨_, rfl, .inr ⟨hq0, hl2, unhide fin⟩, hbel⟩
theorem sz2_arg (a : Option Addr) (cap : Nat) (l : List Ed) (left : Int) (w : World) (h : Arg w a cap l) (h0 : 0 ≤ left) (h1 : left ≤ 1048576) :
    Calls Tryz.prog 5 #[.slice a l.length cap, .int .i64 left] w fun e w' => ∃ r : Int, e = .returned (.int .i64 r) ∧ (r < 0 ∨ (0 ≤ r ∧ l.length ≤ 1048576 ∧ tot l l.length ≤ 1048576)) ∧ Below w.heap.size w w' := by
  have hA := h
  obtain ⟨c1, c2, c3, rfl | ⟨b, off, rfl, hb, hr⟩⟩ := h
  · refine (szS_none a cap left w h0 h1).mono ?_
    rintro e w' ⟨rfl, hb⟩
    exact ⟨_, rfl, .inr ⟨h0, by simp, (by show (0 : Nat) ≤ _; omega)⟩, hb⟩
  · refine sz2S_any b off cap l left w (fun W hW i hi => ?_) c1 c2 h0 h1
    obtain ⟨_, _, _, h4 | ⟨b', off', e, _, hr'⟩⟩ := hA.below hW
    · subst h4; simp at hi
    · cases e; exact hr' i hi

/-- A row of edits, each with two rows of cells of its own, in blocks below E. -/
def LaidRow (w : World) (B E : Nat) (l : List Ed) : Prop := ∃ xs, Own w B 51 xs ∧ xs.length = l.length * 3 ∧ Laid w B xs l l.length ∧ ∀ i, i < l.length → ∃ g h : Nat, xs[i * 3 + 1]? = some (.slice (some ⟨g, 0, none⟩) (l.getD i zero).path.length (l.getD i zero).path.length) ∧ xs[i * 3 + 2]? = some (.slice (some ⟨h, 0, none⟩) (l.getD i zero).x.length (l.getD i zero).x.length) ∧ (B < g ∧ g < E ∧ OwnRow w g 56 (l.getD i zero).path) ∧ B < h ∧ h < E ∧ OwnRow w h 56 (l.getD i zero).x
theorem LaidRow.of {w : World} {B : Nat} {xs : List Value} {l : List Ed} (h1 : Own w B 51 xs) (h2 : xs.length = l.length * 3) (h3 : Laid w B xs l l.length) : LaidRow w B w.heap.size l := by
  refine ⟨xs, h1, h2, h3, fun i hi => ?_⟩
  obtain ⟨g, h, q0, q1, q2, q3, q4, q5, q6⟩ := h3 i hi
  exact ⟨g, h, q1, q2, ⟨q3, by obtain ⟨ys, o, _⟩ := q5; exact o.lt, q5⟩, q4, by obtain ⟨ys, o, _⟩ := q6; exact o.lt, q6⟩
theorem LaidRow.row {w : World} {B E : Nat} {l : List Ed} (h : LaidRow w B E l) : Row w B l := by obtain ⟨xs, h1, _, h3, _⟩ := h; exact h3.row h1
theorem LaidRow.lt {w : World} {B E : Nat} {l : List Ed} (h : LaidRow w B E l) : B < w.heap.size := by obtain ⟨xs, h1, _⟩ := h; exact h1.lt
theorem OwnRow.bel {w w' : World} {b : Nat} {l : List M.Cl} (h : OwnRow w b 56 l) (hb : Below w.heap.size w w') : OwnRow w' b 56 l := by
  obtain ⟨ys, o, q⟩ := h
  exact ⟨ys, o.below hb o.lt, q⟩
theorem LaidRow.below {w w' : World} {B E : Nat} {l : List Ed} (h : LaidRow w B E l) (hb : Below w.heap.size w w') : LaidRow w' B E l := by
  obtain ⟨xs, h1, h2, h3, h4⟩ := h
  refine ⟨xs, h1.below hb h1.lt, h2, h3.below hb, fun i hi => ?_⟩
  obtain ⟨g, h, q1, q2, ⟨q3, q4, q5⟩, q6, q7, q8⟩ := h4 i hi
  exact ⟨g, h, q1, q2, ⟨q3, q4, OwnRow.bel q5 hb⟩, q6, q7, OwnRow.bel q8 hb⟩
set_option maxRecDepth 100000 in
set_option maxHeartbeats 2000000 in
theorem toS2_any (b off cap : Nat) (l : List Ed) (w : World) (hrow : ∀ W, Below w.heap.size w W → ∀ i, i < l.length → ArgAt W b (off + i * 3) (l.getD i zero)) (hcap : cap ≤ 9223372036854775807) (hl : l.length ≤ cap) (hn : l.length ≤ 1048576) (hv : ∀ i, i < l.length → (l.getD i zero).small) :
    Calls Tryz.prog 8 #[.slice (some ⟨b, off, none⟩) l.length cap] w fun e w' => e = .returned (.slice (some ⟨w.heap.size, 0, none⟩) l.length l.length) ∧ LaidRow w' w.heap.size w'.heap.size l ∧ w.heap.size < w'.heap.size ∧ Below w.heap.size w w' := by
  have HR := hide hrow
  have HV := hide hv
  clear hrow hv
  have hmk := make_run l.length hn
  go_enter Tryz.func8, Tryz.ntmps8
  go_wp2_with fail
  go_loopg [4] l.length (fun gh s4 wr => ∃ (k : Nat) (xs : List Value), Hid (gh = l.length - k) ∧ s4 = .int .i64 k ∧ k ≤ l.length ∧ Own wr w.heap.size 51 xs ∧ Hid (xs.length = l.length * 3) ∧ Hid (Laid wr w.heap.size xs l k) ∧ Below w.heap.size w wr)
  case atStart => exact ⟨0, (mkW l.length).toList, rfl, rfl, by omega, ⟨_, heap_alloc_new _ _, rfl⟩, by simp [Hid, size_mk], fun i hi => absurd hi (by omega), (Below.refl _ _).alloc (Nat.le_refl _) _⟩
  case round =>
    clear hmk
    obtain ⟨k, xs, hg, rfl, hk, hown, hlen, hlaid, hbel⟩ := hrel
    by_cases hlt : k < l.length
    · have hltI : (k : Int) < (l.length : Int) := by omega
      obtain ⟨f0, ⟨va, vc, f1, hc⟩, vb, vd, f2, hd⟩ := (unhide HR) wr hbel k hlt
      have HQ := hide (to_any (l.getD k zero) va vb vc vd wr hc hd ((unhide HV) k hlt))
      obtain ⟨n, hn2⟩ : ∃ n, n = l.getD k zero := ⟨_, rfl⟩
      have HN := hide hn2
      rw [← hn2] at f0 f1 f2 HQ
      clear hn2 hc hd
      go_wp2_with fail
      refine (unhide HQ).mono ?_
      rintro e w1 ⟨g, h, rfl, hg1, hgh, ho1, ho2, hb1⟩
      have hown1 := hown.below hb1 hown.lt
      have hlaid1 := hlaid.out.below hb1
      have hwlt := hown.lt
      have hlen3 := hlen.out
      have hst := hide (hlaid1.step hlen3 hlt n (unhide HN) g h (by omega) (by omega) ho1 ho2)
      obtain ⟨v0, g0⟩ := some_of_lt (xs := xs) (j := k * 3) (by omega)
      have i0 := (hown1.cell (k * 3)).trans g0
      have z0 := hown1.frozen (k * 3)
      obtain ⟨v1, g1⟩ := some_of_lt (xs := xs) (j := k * 3 + 1) (by omega)
      have i1 := (hown1.cell (k * 3 + 1)).trans g1
      have z1 := hown1.frozen (k * 3 + 1)
      obtain ⟨v2, g2⟩ := some_of_lt (xs := xs) (j := k * 3 + 2) (by omega)
      have i2 := (hown1.cell (k * 3 + 2)).trans g2
      have z2 := hown1.frozen (k * 3 + 2)
      have HL3 := hide (show (((xs.set (k * 3) (.int .i64 n.op)).set (k * 3 + 1) (.slice (some ⟨g, 0, none⟩) n.path.length n.path.length)).set (k * 3 + 2) (.slice (some ⟨h, 0, none⟩) n.x.length n.x.length)).length = l.length * 3 by simp only [List.length_set]; exact hlen3)
      clear g0 g1 g2 f0 f1 f2 HQ hlaid1 ho1 ho2 hlen3
      go_wp2_with fail
      go_roundg (l.length - (k + 1))
      case rel => exact ⟨k + 1, _, rfl, by go_num, by omega, ((hown1.set _ _).set _ _).set _ _, unhide HL3, (((unhide hst).far _).far _).far _, (((hbel.trans (hb1.mono hbel.size)).setCell (Nat.le_refl _) _).setCell (Nat.le_refl _) _).setCell (Nat.le_refl _) _⟩
      case measure => have := hg.out; omega
    · have hke : k = l.length := by omega
      have fin := hide (LaidRow.of hown hlen.out (by have := hlaid.out; rw [hke] at this; exact this))
      have hlt2 := hown.lt
      clear hke
      go_wp2_with fail
      go_ret
      exact ⟨rfl, unhide fin, hlt2, hbel⟩
set_option maxHeartbeats 1000000 in
theorem toS2_none (a : Option Addr) (cap : Nat) (w : World) :
    Calls Tryz.prog 8 #[.slice a 0 cap] w fun e w' => e = .returned (.slice (some ⟨w.heap.size, 0, none⟩) 0 0) ∧ LaidRow w' w.heap.size w'.heap.size [] ∧ w.heap.size < w'.heap.size ∧ Below w.heap.size w w' := by
  have hmk := make_run 0 (by omega)
  simp only [Int.natCast_zero] at hmk
  have HB := hide (fun o => (Below.refl w.heap.size w).alloc (Nat.le_refl _) o)
  go_enter Tryz.func8, Tryz.ntmps8
  go_wp2_with fail
  refine wp_loop_rounds 1 ?_
  rw [rounds_succ]
  go_wp2_with fail
  go_ret
  exact ⟨rfl, ⟨_, ⟨_, heap_alloc_new _ _, rfl⟩, by simp [size_mk], fun i hi => by simp at hi, fun i hi => by simp at hi⟩, by simp, (unhide HB) _⟩
theorem to2_arg (a : Option Addr) (cap : Nat) (l : List Ed) (w : World) (h : Arg w a cap l) (hn : l.length ≤ 1048576) (hv : ∀ i, i < l.length → (l.getD i zero).small) :
    Calls Tryz.prog 8 #[.slice a l.length cap] w fun e w' => e = .returned (.slice (some ⟨w.heap.size, 0, none⟩) l.length l.length) ∧ LaidRow w' w.heap.size w'.heap.size l ∧ w.heap.size < w'.heap.size ∧ Below w.heap.size w w' := by
  have hA := h
  obtain ⟨c1, c2, c3, rfl | ⟨b, off, rfl, hb, hr⟩⟩ := h
  · exact toS2_none a cap w
  · refine toS2_any b off cap l w (fun W hW i hi => ?_) c1 c2 hn hv
    obtain ⟨_, _, _, h4 | ⟨b', off', e, _, hr'⟩⟩ := hA.below hW
    · subst h4; simp at hi
    · cases e; exact hr' i hi

theorem LaidRow.alloc {w : World} {B E : Nat} {l : List Ed} (h : LaidRow w B E l) (o : Obj) : LaidRow (w.alloc o) B E l := h.below ((Below.refl _ _).alloc (Nat.le_refl _) o)
theorem LaidRow.but {w w' : World} {B E c : Nat} {l : List Ed} (h : LaidRow w B E l) (hm : But w.heap.size c w w') (hc : c < B) : LaidRow w' B E l := by
  obtain ⟨xs, h1, h2, h3, h4⟩ := h
  have key : ∀ {g : Nat} {m : List M.Cl}, B < g → OwnRow w g 56 m → OwnRow w' g 56 m := fun hg ho => hm.ownRow ho (by obtain ⟨ys, o, _⟩ := ho; exact o.lt) (by omega)
  refine ⟨xs, hm.own h1 h1.lt (by omega), h2, fun i hi => ?_, fun i hi => ?_⟩
  · obtain ⟨g, h, q0, q1, q2, q3, q4, q5, q6⟩ := h3 i hi
    exact ⟨g, h, q0, q1, q2, q3, q4, key q3 q5, key q4 q6⟩
  · obtain ⟨g, h, q1, q2, ⟨q3, q4, q5⟩, q6, q7, q8⟩ := h4 i hi
    exact ⟨g, h, q1, q2, ⟨q3, q4, key q3 q5⟩, q6, q7, key q6 q8⟩
/-- The rows of cells of edits: paths at even places, values at odd ones. -/
def rw2 (l : List Ed) (j : Nat) : List M.Cl := if j % 2 = 0 then (l.getD (j / 2) zero).path else (l.getD (j / 2) zero).x
theorem rw2_even (l : List Ed) (i : Nat) : rw2 l (2 * i) = (l.getD i zero).path := by
  unfold rw2; rw [if_pos (by omega), show 2 * i / 2 = i by omega]
theorem rw2_odd (l : List Ed) (i : Nat) : rw2 l (2 * i + 1) = (l.getD i zero).x := by
  unfold rw2; rw [if_neg (by omega), show (2 * i + 1) / 2 = i by omega]
/-- Blocks from E on are kept. -/
def Kt (E : Nat) (w w' : World) : Prop := ∀ k, E ≤ k → k < w.heap.size → w'.heap[k]? = w.heap[k]?
theorem own_kt {E c : Nat} {w w' : World} {t : TypeId} {xs : List Value} (ho : Own w c t xs) (hk : Kt E w w') (hc : E ≤ c) : Own w' c t xs := by
  have hl := ho.lt
  obtain ⟨r, h1, h2⟩ := ho
  exact ⟨r, (hk c hc hl).trans h1, h2⟩
theorem res_kt {E B : Nat} {w w' : World} {s : Value} {l : List M.Cl} (hr : Res w B s l) (hk : Kt E w w') (hB : E ≤ B) : Res w' B s l := by
  obtain ⟨hn, h1 | ⟨b, cap, h1, h2, h3, xs, ho, h5⟩⟩ := hr
  · exact ⟨hn, .inl h1⟩
  · exact ⟨hn, .inr ⟨b, cap, h1, h2, h3, xs, own_kt ho hk (by omega), h5⟩⟩
theorem res_low {B c : Nat} {w w' : World} {s : Value} {l : List M.Cl} (hr : Res w B s l) (hb : Below c w w') (hlt : ∀ b, s.ownBlock = some b → b < c) : Res w' B s l := by
  obtain ⟨hn, h1 | ⟨b, cap, h1, h2, h3, xs, ho, h5⟩⟩ := hr
  · exact ⟨hn, .inl h1⟩
  · exact ⟨hn, .inr ⟨b, cap, h1, h2, h3, xs, ho.below hb (hlt b (by rw [h1]; rfl)), h5⟩⟩
/-- The row while it is marked: its rows lie apart or are the same. -/
structure Mk (w wr : World) (b E : Nat) (l : List Ed) (G : Nat → Nat) : Prop where
  bel : Below b w wr
  oth : Kt E w wr
  bE : b < E
  row : ∃ xs, Own wr b 51 xs ∧ xs.length = l.length * 3 ∧ ∀ i, i < l.length → xs[i * 3 + 1]? = some (.slice (some ⟨G (2 * i), 0, none⟩) (l.getD i zero).path.length (l.getD i zero).path.length) ∧ xs[i * 3 + 2]? = some (.slice (some ⟨G (2 * i + 1), 0, none⟩) (l.getD i zero).x.length (l.getD i zero).x.length)
  apart : ∀ j, j < 2 * l.length → b < G j ∧ G j < E
  same : ∀ i j, i < 2 * l.length → j < 2 * l.length → G i = G j → (rw2 l i).length = (rw2 l j).length
  own : ∀ j, j < 2 * l.length → ∃ m : List M.Cl, m.length = (rw2 l j).length ∧ OwnG wr (G j) 56 m
theorem Mk.first {w : World} {b E : Nat} {l : List Ed} (h : LaidRow w b E l) (hE : b < E) : ∃ G, Mk w w b E l G := by
  obtain ⟨xs, h1, h2, _, h3⟩ := h
  obtain ⟨g, hg⟩ := Go.Deep.choose_lt h3
  obtain ⟨h, hh⟩ := Go.Deep.choose_lt hg
  have key : ∀ j, j < 2 * l.length → b < (if j % 2 = 0 then g (j / 2) else h (j / 2)) ∧ (if j % 2 = 0 then g (j / 2) else h (j / 2)) < E ∧ OwnRow w (if j % 2 = 0 then g (j / 2) else h (j / 2)) 56 (rw2 l j) := fun j hj => by
    have q := hh (j / 2) (by omega)
    unfold rw2
    split
    · exact q.2.2.1
    · exact q.2.2.2
  refine ⟨fun j => if j % 2 = 0 then g (j / 2) else h (j / 2), ⟨Below.refl _ _, fun _ _ _ => rfl, hE, ⟨xs, h1, h2, fun i hi => ?_⟩, fun j hj => ⟨(key j hj).1, (key j hj).2.1⟩, fun i j hi hj e => ?_, fun j hj => ⟨_, rfl, ((key j hj).2.2).wide⟩⟩⟩
  · have q := hh i hi
    simp only [show 2 * i % 2 = 0 by omega, show (2 * i + 1) % 2 = 1 by omega, show 2 * i / 2 = i by omega, show (2 * i + 1) / 2 = i by omega, if_true, if_neg (show ¬ (1 : Nat) = 0 by omega)]
    exact ⟨q.1, q.2.1⟩
  · obtain ⟨_, _, ⟨x1, o1, y1, _⟩⟩ := key i hi
    obtain ⟨_, _, ⟨x2, o2, y2, _⟩⟩ := key j hj
    obtain ⟨c1, q1, e1⟩ := o1
    obtain ⟨c2, q2, e2⟩ := o2
    rw [e, q2] at q1
    simp only [Option.some.injEq, Obj.cells.injEq] at q1
    have : x1 = x2 := by rw [← e1, ← e2, q1.1]
    rw [this] at y1
    omega
/-- The number of an edit written. -/
theorem Mk.one {w wr : World} {b E : Nat} {l : List Ed} {G : Nat → Nat} (h : Mk w wr b E l G) (i : Nat) (x : Value) : Mk w (wr.setCell ⟨b, i * 3, none⟩ x) b E l G := by
  have hbE := h.bE
  obtain ⟨xs, h1, h2, h3⟩ := h.row
  refine ⟨h.bel.setCell (Nat.le_refl _) _, fun k q1 q2 => (heap_setCell_other _ ⟨b, i * 3, none⟩ k x (by show k ≠ b; omega)).trans (h.oth k q1 q2), h.bE, ⟨xs.set (i * 3) x, h1.set _ _, by simpa using h2, fun j hj => ?_⟩, h.apart, h.same, fun j hj => ?_⟩
  · rw [List.getElem?_set_ne (by omega), List.getElem?_set_ne (by omega)]
    exact h3 j hj
  · obtain ⟨m, hm, xs', o1, o2⟩ := h.own j hj
    have hne := (h.apart j hj).1
    exact ⟨m, hm, xs', own_far o1 (by omega) _, o2⟩
/-- .. and a row of it. -/
theorem Mk.vals {w wr w2 : World} {b E : Nat} {l : List Ed} {G : Nat → Nat} (h : Mk w wr b E l G) (i : Nat) (hi : i < 2 * l.length) {m : List M.Cl} (hm : m.length = (rw2 l i).length) (ho : OwnG w2 (G i) 56 m) (hb : But wr.heap.size (G i) wr w2) (hbs : b ≤ wr.heap.size) : Mk w w2 b E l G := by
  have hne := h.apart i hi
  have hsz := h.bel.size
  obtain ⟨xs, h1, h2, h3⟩ := h.row
  refine ⟨h.bel.trans (hb.below hbs (by omega)), fun k q1 q2 => (hb.block k (by omega) (by omega)).trans (h.oth k q1 q2), h.bE, ⟨xs, hb.own h1 h1.lt (by omega), h2, h3⟩, h.apart, h.same, fun j hj => ?_⟩
  by_cases e : G j = G i
  · exact ⟨m, by rw [hm]; exact h.same i j hi hj e.symm, by rw [e]; exact ho⟩
  · obtain ⟨m', hm', o'⟩ := h.own j hj
    exact ⟨m', hm', hb.ownG o' o'.lt e⟩
/-- A row of it is marked. -/
theorem Mk.call {w wr : World} {b E : Nat} {l : List Ed} {G : Nat → Nat} (h : Mk w wr b E l G) (i : Nat) (hi : i < 2 * l.length) (N : Nat) (hN : N = (rw2 l i).length) (hn : N ≤ 1048576) (q : Int) (q0 : 0 ≤ q) (q1 : q ≤ 100000000000) (hbs : b ≤ wr.heap.size) :
    Calls Tryz.prog 13 #[.slice (some ⟨G i, 0, none⟩) N N, .int .i64 q] wr (fun e w' => e = .returned (.int .i64 (q + 5 * (N : Int))) ∧ Mk w w' b E l G) := by
  obtain ⟨m, hm, om⟩ := h.own i hi
  have e1 : m.length = N := hm.trans hN.symm
  have := markCellS_any (G i) N m q _ om (by omega) (by omega) q0 q1
  rw [e1] at this
  refine this.mono ?_
  rintro e w' ⟨he, hown, hbut⟩
  exact ⟨he, h.vals i hi (by rw [marked_length]; exact hN) hown hbut hbs⟩
set_option maxRecDepth 100000 in
set_option maxHeartbeats 2000000 in
theorem mark_arg (b E : Nat) (l : List Ed) (s : Int) (w : World) (h : LaidRow w b E l) (hE : b < E) (hn : l.length ≤ 1048576) (ht : tot l l.length ≤ 1048576) (s0 : 0 ≤ s) (s1 : s ≤ 10000000) :
    Calls Tryz.prog 14 #[.slice (some ⟨b, 0, none⟩) l.length l.length, .int .i64 s] w fun e w' => ∃ r : Int, e = .returned (.int .i64 r) ∧ 0 ≤ r ∧ Below b w w' ∧ Kt E w w' := by
  obtain ⟨G, M0⟩ := Mk.first h hE
  have H0 := hide M0
  clear h M0 hE
  go_enter Tryz.func14, Tryz.ntmps14
  go_wp2_with fail
  go_loopg [1, 5] l.length (fun gh s1 s5 wr => ∃ (k : Nat) (q : Int), Hid (gh = l.length - k) ∧ s5 = .int .i64 (k : Int) ∧ s1 = .int .i64 q ∧ k ≤ l.length ∧ 0 ≤ q ∧ q ≤ 10000000 + (k : Int) + 5 * (tot l k : Int) ∧ Hid (Mk w wr b E l G))
  case atStart => exact ⟨0, s, rfl, rfl, rfl, by omega, by omega, by show s ≤ 10000000 + ((0 : Nat) : Int) + 5 * ((0 : Nat) : Int); omega, unhide H0⟩
  case round =>
    obtain ⟨k, q, hg, rfl, rfl, hk, hq0, hq1, HM⟩ := hrel
    clear H0
    by_cases hlt : k < l.length
    · have hltI : (k : Int) < (l.length : Int) := by omega
      have hk0 : (0 : Int) ≤ (k : Int) := by omega
      have htk := tot_mono l k l.length hk
      have htk1 : tot l (k + 1) = tot l k + ((l.getD k zero).path.length + (l.getD k zero).x.length) := rfl
      have htk2 := tot_mono l (k + 1) l.length hlt
      obtain ⟨xs, h1, h2, h3⟩ := (unhide HM).row
      obtain ⟨v0, g0⟩ := some_of_lt (xs := xs) (j := k * 3) (by omega)
      have c0 := (h1.cell (k * 3)).trans g0
      have z0 := h1.frozen (k * 3)
      have hbs : b ≤ wr.heap.size := by have := h1.lt; omega
      have c1 : ∀ u, (wr.setCell ⟨b, k * 3, none⟩ u).cell? ⟨b, k * 3 + 1, none⟩ = some (.slice (some ⟨G (2 * k), 0, none⟩) (l.getD k zero).path.length (l.getD k zero).path.length) := fun u => ((h1.set (k * 3) u).cell (k * 3 + 1)).trans (by rw [List.getElem?_set_ne (by omega)]; exact (h3 k hlt).1)
      obtain ⟨N, hN⟩ : ∃ N, N = (l.getD k zero).path.length := ⟨_, rfl⟩
      obtain ⟨N2, hN2⟩ : ∃ N2, N2 = (l.getD k zero).x.length := ⟨_, rfl⟩
      rw [← hN] at htk1
      rw [← hN2] at htk1
      simp only [← hN] at c1
      have HLT := hide hlt
      have HBS := hide hbs
      have hqB : q ≤ 20000000 := by omega
      have hN6 : N ≤ 1048576 := by omega
      have hN26 : N2 ≤ 1048576 := by omega
      have HCALL := hide (fun x => ((unhide HM).one k x).call (2 * k) (by omega) N (by rw [rw2_even]; exact hN) hN6 (q + 1) (by omega) (by omega) (by simpa using hbs))
      have HCALL2 := hide (fun W (h : Mk w W b E l G) (hb : b ≤ W.heap.size) => h.call (2 * k + 1) (by omega) N2 (by rw [rw2_odd]; exact hN2) hN26 (q + 1 + 5 * (N : Int)) (by omega) (by omega) hb)
      have wq1 : IntKind.i64.wrap (q + 1) = q + 1 := IntWalk.i64_in _ ⟨by omega, by omega⟩
      have HTK1 := hide htk1
      have HQ1 := hide hq1
      have HN2 := hide hN2
      clear HM h1 h2 h3 g0 hN hN2 htk htk2 hlt htk1 hq1 hbs
      go_wp2_with fail
      refine ((unhide HCALL) _).mono ?_
      rintro e w2 ⟨rfl, M2⟩
      have HM2 := hide M2
      obtain ⟨ys, k1, k2, k3⟩ := M2.row
      have d2 := (k1.cell (k * 3 + 2)).trans (k3 k (unhide HLT)).2
      rw [← unhide HN2] at d2
      have hb2 : b ≤ w2.heap.size := by have := k1.lt; omega
      have HC2 := hide ((unhide HCALL2) w2 M2 hb2)
      clear M2 HCALL HCALL2 c0 z0 c1 k1 k2 k3 hb2
      go_wp2_with fail
      refine (unhide HC2).mono ?_
      rintro e w3 ⟨rfl, M3⟩
      have HM3 := hide M3
      clear M3 HC2 d2 HM2
      go_wp2_with fail
      go_roundg (l.length - (k + 1))
      case rel => exact ⟨k + 1, _, rfl, by go_num, rfl, by have := unhide HLT; omega, by omega, by rw [unhide HTK1]; have := unhide HQ1; push_cast; omega, unhide HM3⟩
      case measure => have := hg.out; have := unhide HLT; omega
    · have hltI : ¬ (k : Int) < (l.length : Int) := by omega
      go_wp2_with fail
      go_ret
      exact ⟨_, rfl, hq0, (unhide HM).bel, (unhide HM).oth⟩
end Ed

end Go.Proofs.YtoaibccmlmaknaaGreat

namespace Go.Proofs.YtoaibccmlmaknaaGreat
open Go.RowKit
set_option linter.unusedVariables false
set_option linter.unusedSimpArgs false


set_option maxHeartbeats 1000000 in
theorem eqReadResult_any (code at_ : Int) (s s' : Value) (B B' : Nat) (l : List M.Cl) (w : World) (h : Res w B s l) (h' : Res w B' s' l) :
    Calls Tryz.prog 10 #[.agg #[.int .i64 code, .int .i64 at_, s], .agg #[.int .i64 code, .int .i64 at_, s']] w fun e w' => e = .returned (.bool true) ∧ Below w.heap.size w w' := by
  have HB : ∀ o o', Below w.heap.size w ((w.alloc o).alloc o') := fun o o' => ((Below.refl _ _).alloc (Nat.le_refl _) _).alloc (by simp) _
  have H := hide (fun o o' => eqCellS_res s s' B B' l ((w.alloc o).alloc o') ((h.alloc o).alloc o') ((h'.alloc o).alloc o'))
  obtain ⟨a, n, cap, rfl⟩ := h.shape
  obtain ⟨a', n', cap', rfl⟩ := h'.shape
  clear h h'
  have HB' := hide HB
  clear HB
  go_enter Tryz.func10, Tryz.ntmps10
  go_wp2_with fail
  refine ((unhide H) _ _).mono ?_
  rintro e w1 ⟨rfl, hb1⟩
  go_wp2_with fail
  go_ret
  exact ⟨rfl, ((unhide HB') _ _).trans (hb1.mono (by simp <;> omega))⟩

set_option maxHeartbeats 1000000 in
theorem markReadResult_any (code at_ : Int) (s : Value) (B : Nat) (l : List M.Cl) (k : Int) (w : World) (h : Res w B s l) (k0 : 0 ≤ k) (k1 : k ≤ 100000000000) :
    Calls Tryz.prog 15 #[.agg #[.int .i64 code, .int .i64 at_, s], .int .i64 k] w fun e w' => e = .returned (.int .i64 (k + 5 * l.length)) ∧ Res w' B s (marked l.length k) ∧ ButV s w w' := by
  have H := hide (fun o => markCellS_res s B l k (w.alloc o) (h.alloc o) k0 k1)
  have hs := hide h.shape
  obtain ⟨a, n, cap, rfl⟩ := h.shape
  clear h hs
  go_enter Tryz.func15, Tryz.ntmps15
  go_wp2_with fail
  refine ((unhide H) _).mono ?_
  rintro e w1 ⟨rfl, hr, hb⟩
  go_wp2_with fail
  go_ret
  refine ⟨rfl, hr, ⟨hb.os, hb.tape, hb.output, by have := hb.size; simp at this; omega, fun i hi hne => ?_⟩⟩
  rw [hb.block i (by simp; omega) hne]
  exact Below.heap_alloc _ _ _ hi

set_option maxHeartbeats 1000000 in
theorem heldReadResult_any (code at_ : Int) (s : Value) (B n : Nat) (k : Int) (w : World) (h : Res w B s (marked n k)) (k0 : 0 ≤ k) (k1 : k ≤ 100000000000) (hn : n ≤ 1048576) :
    Calls Tryz.prog 16 #[.agg #[.int .i64 code, .int .i64 at_, s], .int .i64 k] w fun e w' => e = .returned (.int .i64 (k + 5 * n)) ∧ Below w.heap.size w w' := by
  have H := hide (fun o => heldCellS_res s B n k (w.alloc o) (h.alloc o) k0 k1)
  obtain ⟨a, m, cap, rfl⟩ := h.shape
  clear h
  go_enter Tryz.func16, Tryz.ntmps16
  go_wp2_with fail
  refine ((unhide H) _).mono ?_
  rintro e w1 ⟨rfl, hb⟩
  go_wp2_with fail
  go_ret
  exact ⟨rfl, ((Below.refl _ _).alloc (Nat.le_refl _) _).trans (hb.mono (by simp))⟩

end Go.Proofs.YtoaibccmlmaknaaGreat
