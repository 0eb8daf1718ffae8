/-
  A slice of nodes of a core that came in as an argument; laws.sz.., to.., eq.. over it.
-/
import Derived.Test.YtbaanpgbfncdnaaGreatQ11
import Derived.Test.YtbaanpgbfncdnaaGreatQ16
import Derived.Deep.RegionWith
import Derived.Deep.Slices
import Derived.OpenShut
import Derived.ProofKit
namespace Go.Proofs.YtbaanpgbfncdnaaGreat
open Go.RowKit Go.ChangeShapes Go.WideShapes
set_option linter.unusedVariables false
set_option linter.unusedSimpArgs false

namespace Co
def ArgAt (w : World) (b o : Nat) (c : Co) : Prop := w.cell? ⟨b, o, none⟩ = some (.int .i64 c.op) ∧ w.cell? ⟨b, o + 1, none⟩ = some (.int .i64 c.a) ∧ w.cell? ⟨b, o + 2, none⟩ = some (.int .i64 c.b) ∧ w.cell? ⟨b, o + 3, none⟩ = some (.int .i64 c.c) ∧ w.cell? ⟨b, o + 4, none⟩ = some (.int .i64 c.num) ∧ ∃ (va : Option Addr) (vc : Nat), w.cell? ⟨b, o + 5, none⟩ = some (.slice va c.val.length vc) ∧ Cells w va vc c.val
def Arg (w : World) (a : Option Addr) (cap : Nat) (l : List Co) : Prop :=
  cap ≤ 9223372036854775807 ∧ l.length ≤ cap ∧ (∀ c ∈ l, c.ok) ∧ (l = [] ∨ ∃ b off, a = some ⟨b, off, none⟩ ∧ b < w.heap.size ∧ ∀ i, i < l.length → ArgAt w b (off + i * 6) (l.getD i zero))
theorem own_far {w : World} {b c j : Nat} {t : TypeId} {xs : List Value} (h : Own w b t xs) (hne : b ≠ c) (x : Value) : Own (w.setCell ⟨c, j, none⟩ x) b t xs := by
  obtain ⟨r, h1, h2⟩ := h
  exact ⟨r, (heap_setCell_other _ ⟨c, j, none⟩ b x hne).trans h1, h2⟩
theorem Arg.below {w w' : World} {a : Option Addr} {cap : Nat} {l : List Co} (h : Arg w a cap l) (hb : Below w.heap.size w w') : Arg w' a cap l := by
  obtain ⟨h1, h2, h3, h4⟩ := h
  refine ⟨h1, h2, h3, ?_⟩
  rcases h4 with h4 | ⟨b, off, e, hlt, hr⟩
  · exact .inl h4
  · refine .inr ⟨b, off, e, Nat.lt_of_lt_of_le hlt hb.size, fun i hi => ?_⟩
    obtain ⟨f0, f1, f2, f3, f4, va, vc, f5, hc⟩ := hr i hi
    exact ⟨(hb.cell hlt).trans f0, (hb.cell hlt).trans f1, (hb.cell hlt).trans f2, (hb.cell hlt).trans f3, (hb.cell hlt).trans f4, va, vc, (hb.cell hlt).trans f5, hc.below hb⟩

set_option maxHeartbeats 1000000 in
theorem szS_none (a : Option Addr) (cap : Nat) (left : Int) (w : World) (h0 : 0 ≤ left) (h1 : left ≤ 1048576) :
    Calls Tryz.prog 8 #[.slice a 0 cap, .int .i64 left] w fun e w' => e = .returned (.int .i64 left) ∧ Below w.heap.size w w' := by
  have g1 : decide (left < 0) = false := decide_eq_false (by omega)
  go_enter Tryz.func8, Tryz.ntmps8
  go_wp2_with fail
  refine wp_loop_rounds 1 ?_
  rw [rounds_succ]
  go_wp2_with fail
  go_ret
  exact ⟨by simp, Below.refl _ _⟩
set_option maxRecDepth 100000 in
set_option maxHeartbeats 1000000 in
theorem to_any (c : Co) (va : Option Addr) (vc : Nat) (w : World) (hc : Cells w va vc c.val) (hn : c.val.length ≤ 1048576) :
    Calls Tryz.prog 30 #[.agg #[.int .i64 c.op, .int .i64 c.a, .int .i64 c.b, .int .i64 c.c, .int .i64 c.num, .slice va c.val.length vc]] w fun e w' => ∃ g : Nat, e = .returned (.agg #[.int .i64 c.op, .int .i64 c.a, .int .i64 c.b, .int .i64 c.c, .int .i64 c.num, .slice (some ⟨g, 0, none⟩) c.val.length c.val.length]) ∧ w.heap.size ≤ g ∧ OwnRow w' g 71 c.val ∧ Below w.heap.size w w' := by
  obtain ⟨w3, hw3⟩ : ∃ w3, w3 = ((w.alloc (.cells #[.int .i64 c.op, .int .i64 c.a, .int .i64 c.b, .int .i64 c.c, .int .i64 c.num, .slice va c.val.length vc] 43)).alloc (.cells #[.int .i64 0, .int .i64 0, .int .i64 0, .int .i64 0, .int .i64 0, .slice none 0 0] 47)).alloc (.cells #[.int .i64 c.op, .int .i64 c.a, .int .i64 c.b, .int .i64 c.c, .int .i64 c.num, .slice none 0 0] 47) := ⟨_, rfl⟩
  have B3 : Below w.heap.size w w3 := by rw [hw3]; exact (((Below.refl _ _).alloc (Nat.le_refl _) _).alloc (by simp) _).alloc (by simp <;> omega) _
  have hs3 : w3.heap.size = w.heap.size + 3 := by rw [hw3]; simp
  have O2 : Own w3 (w.heap.size + 1) 47 [.int .i64 0, .int .i64 0, .int .i64 0, .int .i64 0, .int .i64 0, .slice none 0 0] := by
    rw [hw3]
    refine Own.alloc ⟨_, ?_, rfl⟩ _
    simpa using heap_alloc_new (w.alloc (.cells #[.int .i64 c.op, .int .i64 c.a, .int .i64 c.b, .int .i64 c.c, .int .i64 c.num, .slice va c.val.length vc] 43)) (.cells #[.int .i64 0, .int .i64 0, .int .i64 0, .int .i64 0, .int .i64 0, .slice none 0 0] 47)
  have O3 : Own w3 (w.heap.size + 2) 47 [.int .i64 c.op, .int .i64 c.a, .int .i64 c.b, .int .i64 c.c, .int .i64 c.num, .slice none 0 0] := by
    rw [hw3]
    refine ⟨_, ?_, rfl⟩
    simpa using heap_alloc_new ((w.alloc (.cells #[.int .i64 c.op, .int .i64 c.a, .int .i64 c.b, .int .i64 c.c, .int .i64 c.num, .slice va c.val.length vc] 43)).alloc (.cells #[.int .i64 0, .int .i64 0, .int .i64 0, .int .i64 0, .int .i64 0, .slice none 0 0] 47)) (.cells #[.int .i64 c.op, .int .i64 c.a, .int .i64 c.b, .int .i64 c.c, .int .i64 c.num, .slice none 0 0] 47)
  have HT := hide (_root_.Go.Proofs.YtbaanpgbfncdnaaGreat.to_arg va vc c.val w3 (hc.below B3) hn)
  clear hc
  go_enter Tryz.func30, Tryz.ntmps30
  go_wp2_with fail
  rw [← hw3]
  clear hw3
  refine (unhide HT).mono ?_
  rintro e w4 ⟨rfl, ho4, hb4⟩
  have P2 := O2.below hb4 O2.lt
  have P3 := O3.below hb4 O3.lt
  have B4 : Below w.heap.size w w4 := B3.trans (hb4.mono B3.size)
  have hs4 := hb4.size
  have hro := ho4.row
  have hlt4 := ho4.lt
  have Q3 := hide (P3.set 5 (.slice (some ⟨w3.heap.size, 0, none⟩) c.val.length c.val.length))
  clear HT hb4 O2 O3 B3
  have a0 := P2.cell 0
  have y0 := P2.frozen 0
  have b0 := P3.cell 0
  have z0 := P3.frozen 0
  have a1 := P2.cell 1
  have y1 := P2.frozen 1
  have b1 := P3.cell 1
  have z1 := P3.frozen 1
  have a2 := P2.cell 2
  have y2 := P2.frozen 2
  have b2 := P3.cell 2
  have z2 := P3.frozen 2
  have a3 := P2.cell 3
  have y3 := P2.frozen 3
  have b3 := P3.cell 3
  have z3 := P3.frozen 3
  have a4 := P2.cell 4
  have y4 := P2.frozen 4
  have b4 := P3.cell 4
  have z4 := P3.frozen 4
  have a5 := P2.cell 5
  have y5 := P2.frozen 5
  have b5 := P3.cell 5
  have z5 := P3.frozen 5
  simp only [List.getElem?_cons_zero, List.getElem?_cons_succ] at a0 a1 a2 a3 a4 a5 b0 b1 b2 b3 b4 b5
  rw [hs3] at *
  have RX := hide (show Own (((((((w4.setCell ⟨w.heap.size + 1 + 1, 5, none⟩ (.slice (some ⟨w.heap.size + 3, 0, none⟩) c.val.length c.val.length)).setCell ⟨w.heap.size + 1, 0, none⟩ (.int .i64 c.op)).setCell ⟨w.heap.size + 1, 1, none⟩ (.int .i64 c.a)).setCell ⟨w.heap.size + 1, 2, none⟩ (.int .i64 c.b)).setCell ⟨w.heap.size + 1, 3, none⟩ (.int .i64 c.c)).setCell ⟨w.heap.size + 1, 4, none⟩ (.int .i64 c.num)).setCell ⟨w.heap.size + 1, 5, none⟩ (.slice (some ⟨w.heap.size + 3, 0, none⟩) c.val.length c.val.length)) (w.heap.size + 1) 47 _ from (((((((own_far P2 (by omega) _).set 0 (.int .i64 c.op)).set 1 (.int .i64 c.a)).set 2 (.int .i64 c.b)).set 3 (.int .i64 c.c)).set 4 (.int .i64 c.num)).set 5 (.slice (some ⟨w.heap.size + 3, 0, none⟩) c.val.length c.val.length)))
  have HRW := hide (show OwnRow (((((((w4.setCell ⟨w.heap.size + 1 + 1, 5, none⟩ (.slice (some ⟨w.heap.size + 3, 0, none⟩) c.val.length c.val.length)).setCell ⟨w.heap.size + 1, 0, none⟩ (.int .i64 c.op)).setCell ⟨w.heap.size + 1, 1, none⟩ (.int .i64 c.a)).setCell ⟨w.heap.size + 1, 2, none⟩ (.int .i64 c.b)).setCell ⟨w.heap.size + 1, 3, none⟩ (.int .i64 c.c)).setCell ⟨w.heap.size + 1, 4, none⟩ (.int .i64 c.num)).setCell ⟨w.heap.size + 1, 5, none⟩ (.slice (some ⟨w.heap.size + 3, 0, none⟩) c.val.length c.val.length)) (w.heap.size + 3) 71 c.val by
    obtain ⟨xs, ho, hw⟩ := ho4
    exact ⟨xs, (own_far (own_far (own_far (own_far (own_far (own_far (own_far ho (by omega) _) (by omega) _) (by omega) _) (by omega) _) (by omega) _) (by omega) _) (by omega) _), hw⟩)
  have HBL := hide (show Below w.heap.size w (((((((w4.setCell ⟨w.heap.size + 1 + 1, 5, none⟩ (.slice (some ⟨w.heap.size + 3, 0, none⟩) c.val.length c.val.length)).setCell ⟨w.heap.size + 1, 0, none⟩ (.int .i64 c.op)).setCell ⟨w.heap.size + 1, 1, none⟩ (.int .i64 c.a)).setCell ⟨w.heap.size + 1, 2, none⟩ (.int .i64 c.b)).setCell ⟨w.heap.size + 1, 3, none⟩ (.int .i64 c.c)).setCell ⟨w.heap.size + 1, 4, none⟩ (.int .i64 c.num)).setCell ⟨w.heap.size + 1, 5, none⟩ (.slice (some ⟨w.heap.size + 3, 0, none⟩) c.val.length c.val.length)) from (((((((B4.setCell (show w.heap.size ≤ w.heap.size + 1 + 1 by omega) _).setCell (show w.heap.size ≤ w.heap.size + 1 by omega) _).setCell (show w.heap.size ≤ w.heap.size + 1 by omega) _).setCell (show w.heap.size ≤ w.heap.size + 1 by omega) _).setCell (show w.heap.size ≤ w.heap.size + 1 by omega) _).setCell (show w.heap.size ≤ w.heap.size + 1 by omega) _).setCell (show w.heap.size ≤ w.heap.size + 1 by omega) _))
  clear P2 P3 ho4 hro Q3
  go_wp2_with fail
  have q0 := (unhide RX).cell 0
  have q1 := (unhide RX).cell 1
  have q2 := (unhide RX).cell 2
  have q3 := (unhide RX).cell 3
  have q4 := (unhide RX).cell 4
  have q5 := (unhide RX).cell 5
  simp only [List.set_cons_zero, List.set_cons_succ, List.getElem?_cons_zero, List.getElem?_cons_succ] at q0 q1 q2 q3 q4 q5
  clear a0 a1 a2 a3 a4 a5 b0 b1 b2 b3 b4 b5 y0 y1 y2 y3 y4 y5 z0 z1 z2 z3 z4 z5 RX
  generalize (((((((w4.setCell ⟨w.heap.size + 1 + 1, 5, none⟩ (.slice (some ⟨w.heap.size + 3, 0, none⟩) c.val.length c.val.length)).setCell ⟨w.heap.size + 1, 0, none⟩ (.int .i64 c.op)).setCell ⟨w.heap.size + 1, 1, none⟩ (.int .i64 c.a)).setCell ⟨w.heap.size + 1, 2, none⟩ (.int .i64 c.b)).setCell ⟨w.heap.size + 1, 3, none⟩ (.int .i64 c.c)).setCell ⟨w.heap.size + 1, 4, none⟩ (.int .i64 c.num)).setCell ⟨w.heap.size + 1, 5, none⟩ (.slice (some ⟨w.heap.size + 3, 0, none⟩) c.val.length c.val.length)) = W at *
  refine bodyPost_ret (v := .agg #[.int .i64 c.op, .int .i64 c.a, .int .i64 c.b, .int .i64 c.c, .int .i64 c.num, .slice (some ⟨w.heap.size + 3, 0, none⟩) c.val.length c.val.length]) (by simp [results, Tryz.results30, go_sem, q0, q1, q2, q3, q4, q5]; try rfl) rfl ⟨w.heap.size + 3, rfl, by omega, unhide HRW, unhide HBL⟩

theorem OwnRow.far {w : World} {b c j : Nat} {t : TypeId} {l : List M.Cl} (h : OwnRow w b t l) (hne : b ≠ c) (x : Value) : OwnRow (w.setCell ⟨c, j, none⟩ x) b t l := by
  obtain ⟨xs, h1, h2⟩ := h
  exact ⟨xs, own_far h1 hne x, h2⟩
/-- The first k nodes lie in the words xs, each with a row of its own behind the block B. -/
def Laid (w : World) (B : Nat) (xs : List Value) (l : List Co) (k : Nat) : Prop := ∀ i, i < k → ∃ g : Nat, xs[i * 6]? = some (.int .i64 (l.getD i zero).op) ∧ xs[i * 6 + 1]? = some (.int .i64 (l.getD i zero).a) ∧ xs[i * 6 + 2]? = some (.int .i64 (l.getD i zero).b) ∧ xs[i * 6 + 3]? = some (.int .i64 (l.getD i zero).c) ∧ xs[i * 6 + 4]? = some (.int .i64 (l.getD i zero).num) ∧ xs[i * 6 + 5]? = some (.slice (some ⟨g, 0, none⟩) (l.getD i zero).val.length (l.getD i zero).val.length) ∧ B < g ∧ OwnRow w g 71 (l.getD i zero).val
theorem Laid.below {w w' : World} {B : Nat} {xs : List Value} {l : List Co} {k : Nat} (h : Laid w B xs l k) (hb : Below w.heap.size w w') : Laid w' B xs l k := fun i hi => by
  obtain ⟨g, h0, h1, h2, h3, h4, h5, hg, ho⟩ := h i hi
  exact ⟨g, h0, h1, h2, h3, h4, h5, hg, ho.below hb ho.lt⟩
theorem Laid.far {w : World} {B j : Nat} {xs : List Value} {l : List Co} {k : Nat} (h : Laid w B xs l k) (x : Value) : Laid (w.setCell ⟨B, j, none⟩ x) B xs l k := fun i hi => by
  obtain ⟨g, h0, h1, h2, h3, h4, h5, hg, ho⟩ := h i hi
  exact ⟨g, h0, h1, h2, h3, h4, h5, hg, OwnRow.far ho (by omega) x⟩
theorem Laid.step {w : World} {B : Nat} {xs : List Value} {l : List Co} {k : Nat} (h : Laid w B xs l k) (hl : xs.length = l.length * 6) (hk : k < l.length) (n : Co) (hn : n = l.getD k zero) (g : Nat) (hg : B < g) (ho : OwnRow w g 71 n.val) : Laid w B ((((((xs.set (k * 6) (.int .i64 n.op)).set (k * 6 + 1) (.int .i64 n.a)).set (k * 6 + 2) (.int .i64 n.b)).set (k * 6 + 3) (.int .i64 n.c)).set (k * 6 + 4) (.int .i64 n.num)).set (k * 6 + 5) (.slice (some ⟨g, 0, none⟩) n.val.length n.val.length)) l (k + 1) := by
  intro i hi
  by_cases e : i = k
  · subst e
    refine ⟨g, ?_, ?_, ?_, ?_, ?_, ?_, hg, by rw [← hn]; exact ho⟩
    all_goals rw [← hn]
    all_goals simp only [List.getElem?_set, List.length_set]
    all_goals simp
    all_goals omega
  · obtain ⟨g', h0, h1, h2, h3, h4, h5, hg', ho'⟩ := h i (by omega)
    refine ⟨g', ?_, ?_, ?_, ?_, ?_, ?_, hg', ho'⟩
    · rw [List.getElem?_set_ne (by omega), List.getElem?_set_ne (by omega), List.getElem?_set_ne (by omega), List.getElem?_set_ne (by omega), List.getElem?_set_ne (by omega), List.getElem?_set_ne (by omega)]; exact h0
    · rw [List.getElem?_set_ne (by omega), List.getElem?_set_ne (by omega), List.getElem?_set_ne (by omega), List.getElem?_set_ne (by omega), List.getElem?_set_ne (by omega), List.getElem?_set_ne (by omega)]; exact h1
    · rw [List.getElem?_set_ne (by omega), List.getElem?_set_ne (by omega), List.getElem?_set_ne (by omega), List.getElem?_set_ne (by omega), List.getElem?_set_ne (by omega), List.getElem?_set_ne (by omega)]; exact h2
    · rw [List.getElem?_set_ne (by omega), List.getElem?_set_ne (by omega), List.getElem?_set_ne (by omega), List.getElem?_set_ne (by omega), List.getElem?_set_ne (by omega), List.getElem?_set_ne (by omega)]; exact h3
    · rw [List.getElem?_set_ne (by omega), List.getElem?_set_ne (by omega), List.getElem?_set_ne (by omega), List.getElem?_set_ne (by omega), List.getElem?_set_ne (by omega), List.getElem?_set_ne (by omega)]; exact h4
    · rw [List.getElem?_set_ne (by omega), List.getElem?_set_ne (by omega), List.getElem?_set_ne (by omega), List.getElem?_set_ne (by omega), List.getElem?_set_ne (by omega), List.getElem?_set_ne (by omega)]; exact h5
theorem Laid.row {w : World} {B : Nat} {xs : List Value} {l : List Co} (h : Laid w B xs l l.length) (ho : Own w B 47 xs) : Row w B l := fun i hi => by
  obtain ⟨g, h0, h1, h2, h3, h4, h5, hg, hr⟩ := h i hi
  exact ⟨(ho.cell _).trans h0, (ho.cell _).trans h1, (ho.cell _).trans h2, (ho.cell _).trans h3, (ho.cell _).trans h4, g, (ho.cell _).trans h5, hr.lt, hr.row⟩
theorem info : (Tryz.prog.info? 47).map (fun i => (i.zero, i.size, i.bytes)) = some (some (.agg #[.int .i64 0, .int .i64 0, .int .i64 0, .int .i64 0, .int .i64 0, .slice none 0 0]), 6, 64) := by kernel_rfl
def mkW (m : Nat) : Array Value := madeCells #[.int .i64 0, .int .i64 0, .int .i64 0, .int .i64 0, .int .i64 0, .slice none 0 0] (m * 6)
theorem size_mk (m : Nat) : (mkW m).size = m * 6 := by simp [mkW, size_madeCells]
theorem make_run (n : Nat) (hn : n ≤ 1048576) (w : World) :
    (Instr.makeSlice 24 (.int .i64 (n : Int)) (.int .i64 (n : Int))).run Tryz.prog w = .ok (.slice (some ⟨w.heap.size, 0, none⟩) n n) (w.alloc (.cells (mkW n) 47)) := by
  obtain ⟨i, hi, hz⟩ := Option.map_eq_some_iff.1 info
  simp only [Prod.mk.injEq] at hz
  obtain ⟨h1, h2, h3⟩ := hz
  have := run_make (P := Tryz.prog) w 24 47 i _ Tryz.underlying24 hi h1 .i64 .i64 (n : Int) (n : Int) (by omega) (by omega) (by rw [h3]; omega) (by omega)
  rw [this, h2]
  simp only [Int.toNat_natCast]
  rfl

set_option maxHeartbeats 1000000 in
theorem eq_same (n : Co) (g g' : Nat) (w : World) (hr : _root_.Go.Proofs.YtbaanpgbfncdnaaGreat.Row w g 0 n.val) (hg : g < w.heap.size) (hr' : _root_.Go.Proofs.YtbaanpgbfncdnaaGreat.Row w g' 0 n.val) (hg' : g' < w.heap.size) (hn : n.val.length ≤ 1048576) :
    Calls Tryz.prog 31 #[.agg #[.int .i64 n.op, .int .i64 n.a, .int .i64 n.b, .int .i64 n.c, .int .i64 n.num, .slice (some ⟨g, 0, none⟩) n.val.length n.val.length], .agg #[.int .i64 n.op, .int .i64 n.a, .int .i64 n.b, .int .i64 n.c, .int .i64 n.num, .slice (some ⟨g', 0, none⟩) n.val.length n.val.length]] w fun e w' => e = .returned (.bool true) ∧ Below w.heap.size w w' := by
  have HB := hide (fun o o' => ((Below.refl w.heap.size w).alloc (Nat.le_refl _) o).alloc (by simp) o')
  have H := hide (fun o o' => eqCellS_same g 0 n.val.length g' 0 n.val.length n.val ((w.alloc o).alloc o') (hr.below ((unhide HB) o o') hg) (by simp; omega) (hr'.below ((unhide HB) o o') hg') (by simp; omega) hn (Nat.le_refl _) (Nat.le_refl _))
  clear hr hr'
  go_enter Tryz.func31, Tryz.ntmps31
  go_wp2_with fail
  refine ((unhide H) _ _).mono ?_
  rintro e w1 ⟨rfl, hb1⟩
  go_wp2_with fail
  go_ret
  exact ⟨rfl, ((unhide HB) _ _).trans (hb1.mono (by simp <;> omega))⟩

set_option maxHeartbeats 2000000 in
theorem eqS_same (b b' : Nat) (l : List Co) (w : World) (hrow : Row w b l) (hb : b < w.heap.size) (hrow' : Row w b' l) (hb' : b' < w.heap.size) (hn : l.length ≤ 1048576) (hv : ∀ i, i < l.length → (l.getD i zero).val.length ≤ 1048576) :
    Calls Tryz.prog 13 #[.slice (some ⟨b, 0, none⟩) l.length l.length, .slice (some ⟨b', 0, none⟩) l.length l.length] w fun e w' => e = .returned (.bool true) ∧ Below w.heap.size w w' := by
  have HR := hide hrow
  have HR' := hide hrow'
  have HV := hide hv
  clear hrow hrow' hv
  go_enter Tryz.func13, Tryz.ntmps13
  go_wp2_with fail
  go_loopg [5] l.length (fun gh s5 wr => ∃ k : Nat, Hid (gh = l.length - k) ∧ s5 = .int .i64 k ∧ k ≤ l.length ∧ Below w.heap.size w wr)
  case atStart => exact ⟨0, rfl, rfl, by omega, Below.refl _ _⟩
  case round =>
    obtain ⟨k, hg, rfl, hk, hbel⟩ := hrel
    by_cases hlt : k < l.length
    · have hltI : (k : Int) < (l.length : Int) := by omega
      obtain ⟨f0, f1, f2, f3, f4, vg, f5, hvg, hvr⟩ := ((unhide HR).below hbel hb) k hlt
      obtain ⟨g0, g1, g2, g3, g4, vg', g5, hvg', hvr'⟩ := ((unhide HR').below hbel hb') k hlt
      have HQ := hide (fun W (hW : Below wr.heap.size wr W) => eq_same (l.getD k zero) vg vg' W (hvr.below hW hvg) (Nat.lt_of_lt_of_le hvg hW.size) (hvr'.below hW hvg') (Nat.lt_of_lt_of_le hvg' hW.size) ((unhide HV) k hlt))
      have BD : Below wr.heap.size wr wr.drew := (Below.refl _ _).drew
      clear hvr hvr' hlt
      generalize l.getD k zero = n at *
      go_wp2_with fail
      go_region_with (go_at_call 31; refine ((unhide HQ) _ BD).mono ?_; rintro e w1 ⟨rfl, hb1⟩)
      all_goals
        go_wp2_with fail
        go_roundg (l.length - (k + 1))
        case rel => exact ⟨k + 1, rfl, by go_num, by omega, hbel.drew.trans (hb1.mono (by exact hbel.size))⟩
        case measure => have := hg.out; omega
    · go_wp2_with fail
      go_ret
      exact ⟨rfl, hbel⟩

theorem cellsOf_ : Tryz.prog.cellsOf 43 = 6 := by kernel_rfl
theorem cellsI : Tryz.prog.cellsOf 2 = 1 := by kernel_rfl
theorem cellsV : Tryz.prog.cellsOf 41 = 1 := by kernel_rfl
section
variable {H : Type} {enc : TypeId × Value → H} {w : World} {base : Nat} {spare : Nat → Bool} {held : Bool}
set_option maxRecDepth 100000 in
theorem open_one {n : Nat} {cs : List Value} {x : DataW H × List MemPlace} (h : DataW.trod enc Tryz.prog w base spare held n 43 cs = some x) :
    ∃ (c : Co) (va : Option Addr) (vc : Nat), cs = [.int .i64 c.op, .int .i64 c.a, .int .i64 c.b, .int .i64 c.c, .int .i64 c.num, .slice va c.val.length vc] ∧ Cells w va vc c.val ∧ c.ok := by
  obtain ⟨xs, m, _, _, hl, hlen, hf⟩ := DataW.trod_struct Tryz.underlying43 h
  rw [cellsOf_] at hl
  match cs, hl, xs, hlen with
  | [c0, c1, c2, c3, c4, c5], _, [y0, y1, y2, y3, y4, y5], _ =>
    have a0 : DataW.trod enc Tryz.prog w base spare held m 2 (([c0, c1, c2, c3, c4, c5].drop 0).take (Tryz.prog.cellsOf 2)) = some y0 := hf 0 _ rfl
    rw [cellsI] at a0
    have h0 : DataW.trod enc Tryz.prog w base spare held m 2 [c0] = some y0 := a0
    have a1 : DataW.trod enc Tryz.prog w base spare held m 2 (([c0, c1, c2, c3, c4, c5].drop 1).take (Tryz.prog.cellsOf 2)) = some y1 := hf 1 _ rfl
    rw [cellsI] at a1
    have h1 : DataW.trod enc Tryz.prog w base spare held m 2 [c1] = some y1 := a1
    have a2 : DataW.trod enc Tryz.prog w base spare held m 2 (([c0, c1, c2, c3, c4, c5].drop 2).take (Tryz.prog.cellsOf 2)) = some y2 := hf 2 _ rfl
    rw [cellsI] at a2
    have h2 : DataW.trod enc Tryz.prog w base spare held m 2 [c2] = some y2 := a2
    have a3 : DataW.trod enc Tryz.prog w base spare held m 2 (([c0, c1, c2, c3, c4, c5].drop 3).take (Tryz.prog.cellsOf 2)) = some y3 := hf 3 _ rfl
    rw [cellsI] at a3
    have h3 : DataW.trod enc Tryz.prog w base spare held m 2 [c3] = some y3 := a3
    have a4 : DataW.trod enc Tryz.prog w base spare held m 2 (([c0, c1, c2, c3, c4, c5].drop 4).take (Tryz.prog.cellsOf 2)) = some y4 := hf 4 _ rfl
    rw [cellsI] at a4
    have h4 : DataW.trod enc Tryz.prog w base spare held m 2 [c4] = some y4 := a4
    have a5 : DataW.trod enc Tryz.prog w base spare held m 41 (([c0, c1, c2, c3, c4, c5].drop 5).take (Tryz.prog.cellsOf 41)) = some y5 := hf 5 _ rfl
    rw [cellsV] at a5
    have h5 : DataW.trod enc Tryz.prog w base spare held m 41 [c5] = some y5 := a5
    obtain ⟨n0, e0, _, w0⟩ := DataW.trod_int Tryz.underlying2 h0
    obtain ⟨n1, e1, _, w1⟩ := DataW.trod_int Tryz.underlying2 h1
    obtain ⟨n2, e2, _, w2⟩ := DataW.trod_int Tryz.underlying2 h2
    obtain ⟨n3, e3, _, w3⟩ := DataW.trod_int Tryz.underlying2 h3
    obtain ⟨n4, e4, _, w4⟩ := DataW.trod_int Tryz.underlying2 h4
    obtain ⟨va, len, vc, e5⟩ : ∃ va len vc, c5 = .slice va len vc := by
      rcases Go.Deep.open_slice Tryz.underlying41 h5 with ⟨hcs, _⟩ | ⟨ad, len', cap', m', n', D, Pl, hcs, _⟩
      · simp only [List.cons.injEq, and_true] at hcs
        exact ⟨_, _, _, hcs⟩
      · simp only [List.cons.injEq, and_true] at hcs
        exact ⟨_, _, _, hcs⟩
    subst e5
    obtain ⟨vl, hvl, hcl⟩ := open_cells h5 (fun p hp => DataW.trod_lt _ _ _ _ h5 p hp)
    simp only [List.cons.injEq, and_true] at e0 e1 e2 e3 e4
    subst e0 e1 e2 e3 e4 hvl
    exact ⟨⟨n0, n1, n2, n3, n4, vl⟩, va, vc, rfl, hcl, bounds_i64 w0, bounds_i64 w1, bounds_i64 w2, bounds_i64 w3, bounds_i64 w4, hcl.2.2.1⟩

set_option maxRecDepth 100000 in
theorem open_arg {a : Option Addr} {len cap fuel : Nat} {x : DataW H × List MemPlace} (h : DataW.trod enc Tryz.prog w base spare held fuel 22 [.slice a len cap] = some x) :
    ∃ l : List Co, l.length = len ∧ Arg w a cap l := by
  rcases Go.Deep.open_slice Tryz.underlying22 h with ⟨hcs, _⟩ | ⟨ad, len', cap', m, n, D, Pl, hcs, _, hl, hm, hmm, hx, hel⟩
  · simp only [List.cons.injEq, Value.slice.injEq, and_true] at hcs
    obtain ⟨rfl, rfl, rfl⟩ := hcs
    exact ⟨[], rfl, by omega, by simp, by simp, .inl rfl⟩
  · simp only [List.cons.injEq, Value.slice.injEq, and_true] at hcs
    obtain ⟨rfl, rfl, rfl⟩ := hcs
    unfold maxLen at hm
    rw [cellsOf_] at hel
    have hlm : len ≤ m := by rw [hmm]; split <;> omega
    have key : ∀ i, i < len → ∃ c : Co × Option Addr × Nat, w.cells? base (ad.add (i * 6)) 6 = some [.int .i64 c.1.op, .int .i64 c.1.a, .int .i64 c.1.b, .int .i64 c.1.c, .int .i64 c.1.num, .slice c.2.1 c.1.val.length c.2.2] ∧ Cells w c.2.1 c.2.2 c.1.val ∧ c.1.ok := by
      intro i hi
      obtain ⟨cs', h1, h2⟩ := hel i (by omega)
      obtain ⟨c, va, vc, rfl, hc, ho⟩ := open_one h2
      exact ⟨(c, va, vc), h1, hc, ho⟩
    haveI : Inhabited (Co × Option Addr × Nat) := ⟨(zero, none, 0)⟩
    obtain ⟨C, hC⟩ := Go.Deep.choose_lt key
    refine ⟨(List.range len).map (fun i => (C i).1), by simp, hm, by simpa using hl, ?_, ?_⟩
    · intro c hc
      simp only [List.mem_map, List.mem_range] at hc
      obtain ⟨i, hi, rfl⟩ := hc
      exact (hC i hi).2.2
    · by_cases h0 : len = 0
      · left; subst h0; rfl
      · right
        obtain ⟨b, off, spot⟩ := ad
        have c0 := (World.cells?_some (hC 0 (by omega)).1).2.2 0 (by omega)
        have hs : spot = none := by
          have := World.cell?_spot (c0.trans rfl)
          simpa [Addr.add] using this
        subst hs
        have hblk : b < w.heap.size := by
          have := block_lt_of_cell (c0.trans rfl)
          rw [add_plain, add_plain] at this
          exact this
        refine ⟨b, off, rfl, hblk, ?_⟩
        intro i hi
        have hi' : i < len := by simpa using hi
        have e : ((List.range len).map (fun i => (C i).1)).getD i zero = (C i).1 := by simp [List.getD_eq_getElem?_getD, hi']
        rw [e]
        have cc := (World.cells?_some (hC i hi').1).2.2
        simp only [add_plain] at cc
        exact ⟨cc 0 (by omega), cc 1 (by omega), cc 2 (by omega), cc 3 (by omega), cc 4 (by omega), (C i).2.1, (C i).2.2, cc 5 (by omega), (hC i hi').2.1⟩
end
end Co

end Go.Proofs.YtbaanpgbfncdnaaGreat
