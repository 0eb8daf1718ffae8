/-
  What is known of a core ahead of running it, plainly: how many at least and at most, whether it may fail, how many nodes of each kind.
  impl's counts: bounds, how two are joined.
  impl's counts: either, triedBounds, altBounds, orFails.
  Rows of what is known; impl.joined.
  impl.joined of Booleans; of no parts.
-/
import Derived.Test.YtkjmnkbiflkpdaaCorS
import Derived.Deep.RegionWith
import Derived.Deep.LoopGhost
import Derived.Deep.MidRow
import Derived.Deep.WholeRow
namespace Go.Proofs.Ytkjmnkbiflkpdaa
open Go.RowKit
set_option linter.unusedVariables false
set_option linter.unusedSimpArgs false
/-- What is told of a node and all that is in it. -/
structure Kn where
  lo : Int
  hi : Int
  fa : Bool
  ki : Nat → Int
namespace Kn
def z : Kn := ⟨0, 0, false, fun _ => 0⟩
/-- At most 1000. -/
def cp (x : Int) : Int := if x ≤ 1000 then x else 1000
def lt (x y : Int) : Int := if x ≤ y then x else y
def gt (x y : Int) : Int := if y ≤ x then x else y
theorem cp_le (x : Int) : cp x ≤ 1000 := by unfold cp; split <;> omega
theorem cp_ge {x : Int} (h : 0 ≤ x) : 0 ≤ cp x := by unfold cp; split <;> omega
theorem cp_id {x : Int} (h : x ≤ 1000) : cp x = x := by unfold cp; rw [if_pos h]
/-- Neither is below 0 nor above 1000. -/
structure Fit (k : Kn) : Prop where
  l0 : 0 ≤ k.lo
  l1 : k.lo ≤ 1000
  h0 : 0 ≤ k.hi
  h1 : k.hi ≤ 1000
def plus (b : Int × Int) (k : Kn) : Int × Int := (cp (b.1 + k.lo), cp (b.2 + k.hi))
def times (b : Int × Int) (k : Kn) : Int × Int := (cp (b.1 * k.lo), cp (b.2 * k.hi))
def either (b : Int × Int) (k : Kn) : Int × Int := (lt b.1 k.lo, gt b.2 k.hi)
def g (L : List Kn) (i : Nat) : Kn := L.getD i z
def tried (k : Kn) : Int × Int := (if k.fa = true then 0 else k.lo, k.hi)
def alt (a b : Kn) : Int × Int := (if 0 < a.hi then lt b.lo 1 else b.lo, gt a.hi b.hi)
def bd (c : Co) (L : List Kn) : Int × Int :=
  if c.op = 17 then (0, 0) else if c.op = 4 then L.foldl plus (0, 0) else if c.op = 3 ∨ c.op = 14 ∨ c.op = 6 ∨ c.op = 7 ∨ c.op = 11 then L.foldl times (1, 1)
  else if c.op = 12 then times (either ((g L 1).lo, (g L 1).hi) (g L 2)) (g L 0) else if c.op = 8 then times (0, 1000) (g L 0) else if c.op = 9 then tried (g L 0)
  else if c.op = 13 then ((g L 1).lo, (g L 1).hi) else if c.op = 5 then alt (g L 0) (g L 1) else (1, 1)
/-- Just one node, and that makes nothing. -/
def isEmpty (k : Kn) : Bool := (List.range 17).all fun j => k.ki j == if j = 16 then 1 else 0
def own (c : Co) (L : List Kn) : Bool :=
  if c.op = 16 then c.num != 3 else if c.op = 6 then decide (c.num < 4) || decide (9 < c.num) else if c.op = 7 ∨ c.op = 11 then true
  else if c.op = 8 then decide (0 < (g L 0).hi) else if c.op = 10 then !isEmpty (g L 0) else false
def mf (c : Co) (L : List Kn) : Bool := if c.op = 9 ∨ c.op = 5 then (L.drop 1).any Kn.fa else own c L || L.any Kn.fa
def kd (c : Co) (L : List Kn) (j : Nat) : Int := L.foldl (fun s k => s + k.ki j) (if c.op = (j : Int) + 1 then 1 else 0)
def node (c : Co) (L : List Kn) : Kn := ⟨(bd c L).1, (bd c L).2, mf c L, kd c L⟩
/-- The places that a node names. -/
def lks (c : Co) : List Nat := ([c.a, c.b, c.c].take (Co.kids c.op)).map Int.toNat
theorem lks_len (c : Co) : (lks c).length = Co.kids c.op := by
  unfold lks
  rw [List.length_map, List.length_take]
  have := Co.kids_le c.op
  simp
  omega
theorem lks_fine {l : List Co} (hf : Tr.Fine (Co.tree l)) {i : Nat} (hi : i < l.length) : ∀ x ∈ lks (l.getD i Co.zero), x < i := by
  intro x hx
  unfold lks at hx
  obtain ⟨y, hy, rfl⟩ := List.mem_map.1 hx
  have := hf i (by rw [Co.tree_length]; exact hi) y (by rw [Co.tree_links l hi]; exact hy)
  omega
def kn (l : List Co) : Nat → Nat → Kn
  | 0, _ => z
  | f + 1, i => node (l.getD i Co.zero) ((lks (l.getD i Co.zero)).map (kn l f))
theorem kn_fuel {l : List Co} (hf : Tr.Fine (Co.tree l)) : ∀ (f g i : Nat), i < l.length → i < f → i < g → kn l f i = kn l g i := by
  intro f
  induction f with
  | zero => intro g i _ h; omega
  | succ f ih =>
    intro g i hi h1 h2
    obtain ⟨g, rfl⟩ : ∃ k, g = k + 1 := ⟨g - 1, by omega⟩
    rw [kn, kn]
    congr 1
    refine List.map_congr_left fun x hx => ?_
    have := lks_fine hf hi x hx
    exact ih g x (by omega) (by omega) (by omega)
/-- What is known of the node at a place. -/
def at' (l : List Co) (i : Nat) : Kn := kn l (i + 1) i
theorem at_eq {l : List Co} (hf : Tr.Fine (Co.tree l)) {i : Nat} (hi : i < l.length) : at' l i = node (l.getD i Co.zero) ((lks (l.getD i Co.zero)).map (at' l)) := by
  unfold at'
  rw [kn]
  congr 1
  refine List.map_congr_left fun x hx => ?_
  have := lks_fine hf hi x hx
  exact kn_fuel hf _ _ _ (by omega) (by omega) (by omega)
theorem lt_bd {x y : Int} : lt x y ≤ x ∧ lt x y ≤ y ∧ (lt x y = x ∨ lt x y = y) := by unfold lt; split <;> omega
theorem gt_bd {x y : Int} : x ≤ gt x y ∧ y ≤ gt x y ∧ (gt x y = x ∨ gt x y = y) := by unfold gt; split <;> omega
theorem mul_ge {x y : Int} (hx : 0 ≤ x) (hy : 0 ≤ y) : 0 ≤ x * y := Int.mul_nonneg hx hy
theorem mul_le {x y : Int} (hx : 0 ≤ x) (hx1 : x ≤ 1000) (hy : 0 ≤ y) (hy1 : y ≤ 1000) : x * y ≤ 1000000 := by
  have := Int.mul_le_mul hx1 hy1 hy (by omega : (0 : Int) ≤ 1000)
  omega
/-- A pair that is fit. -/
def F2 (b : Int × Int) : Prop := (0 ≤ b.1 ∧ b.1 ≤ 1000) ∧ (0 ≤ b.2 ∧ b.2 ≤ 1000)
theorem plus_fit {b : Int × Int} {k : Kn} (hb : F2 b) (hk : Fit k) : F2 (plus b k) := ⟨⟨cp_ge (by have := hb.1.1; have := hk.l0; omega), cp_le _⟩, ⟨cp_ge (by have := hb.2.1; have := hk.h0; omega), cp_le _⟩⟩
theorem times_fit {b : Int × Int} {k : Kn} (hb : F2 b) (hk : Fit k) : F2 (times b k) := ⟨⟨cp_ge (mul_ge hb.1.1 hk.l0), cp_le _⟩, ⟨cp_ge (mul_ge hb.2.1 hk.h0), cp_le _⟩⟩
theorem either_fit {b : Int × Int} {k : Kn} (hb : F2 b) (hk : Fit k) : F2 (either b k) := by
  unfold either F2
  have h1 := lt_bd (x := b.1) (y := k.lo)
  have h2 := gt_bd (x := b.2) (y := k.hi)
  have := hb.1; have := hb.2; have := hk.l0; have := hk.l1; have := hk.h0; have := hk.h1
  constructor
  · show 0 ≤ lt b.1 k.lo ∧ lt b.1 k.lo ≤ 1000
    omega
  · show 0 ≤ gt b.2 k.hi ∧ gt b.2 k.hi ≤ 1000
    omega
theorem fold_plus {L : List Kn} (hL : ∀ k ∈ L, Fit k) : ∀ b, F2 b → F2 (L.foldl plus b) := by
  induction L with
  | nil => intro b hb; exact hb
  | cons k r ih => intro b hb; exact ih (fun x hx => hL x (List.mem_cons_of_mem _ hx)) _ (plus_fit hb (hL k (List.mem_cons_self ..)))
theorem fold_times {L : List Kn} (hL : ∀ k ∈ L, Fit k) : ∀ b, F2 b → F2 (L.foldl times b) := by
  induction L with
  | nil => intro b hb; exact hb
  | cons k r ih => intro b hb; exact ih (fun x hx => hL x (List.mem_cons_of_mem _ hx)) _ (times_fit hb (hL k (List.mem_cons_self ..)))
theorem z_fit : Fit z := ⟨by decide, by decide, by decide, by decide⟩
theorem g_fit {L : List Kn} (hL : ∀ k ∈ L, Fit k) (i : Nat) : Fit (g L i) := by
  unfold g
  by_cases h : i < L.length
  · rw [List.getD_eq_getElem?_getD, List.getElem?_eq_getElem h]; exact hL _ (List.getElem_mem h)
  · rw [List.getD_eq_getElem?_getD, List.getElem?_eq_none (by omega)]; exact z_fit
theorem bd_fit (c : Co) {L : List Kn} (hL : ∀ k ∈ L, Fit k) : F2 (bd c L) := by
  have f0 := g_fit hL 0
  have f1 := g_fit hL 1
  have f2 := g_fit hL 2
  unfold bd
  split
  · exact ⟨⟨by decide, by decide⟩, ⟨by decide, by decide⟩⟩
  split
  · exact fold_plus hL _ ⟨⟨by decide, by decide⟩, ⟨by decide, by decide⟩⟩
  split
  · exact fold_times hL _ ⟨⟨by decide, by decide⟩, ⟨by decide, by decide⟩⟩
  split
  · exact times_fit (either_fit ⟨⟨f1.l0, f1.l1⟩, ⟨f1.h0, f1.h1⟩⟩ f2) f0
  split
  · exact times_fit ⟨⟨by decide, by decide⟩, ⟨by decide, by decide⟩⟩ f0
  split
  · unfold tried
    refine ⟨?_, ⟨f0.h0, f0.h1⟩⟩
    dsimp only
    split
    · exact ⟨by decide, by decide⟩
    · exact ⟨f0.l0, f0.l1⟩
  split
  · exact ⟨⟨f1.l0, f1.l1⟩, ⟨f1.h0, f1.h1⟩⟩
  split
  · unfold alt
    have h1 := lt_bd (x := (g L 1).lo) (y := 1)
    have h2 := gt_bd (x := (g L 0).hi) (y := (g L 1).hi)
    have := f0.h0; have := f0.h1; have := f1.h0; have := f1.h1; have := f1.l0; have := f1.l1
    refine ⟨?_, ?_⟩
    · dsimp only
      split <;> omega
    · dsimp only
      omega
  · exact ⟨⟨by decide, by decide⟩, ⟨by decide, by decide⟩⟩
theorem at_fit {l : List Co} (hf : Tr.Fine (Co.tree l)) : ∀ (n i : Nat), i < n → i < l.length → Fit (at' l i) := by
  intro n
  induction n with
  | zero => intro i h; omega
  | succ n ih =>
    intro i h hi
    rw [at_eq hf hi]
    have hL : ∀ k ∈ (lks (l.getD i Co.zero)).map (at' l), Fit k := fun k hk => by
      obtain ⟨x, hx, rfl⟩ := List.mem_map.1 hk
      have := lks_fine hf hi x hx
      exact ih x (by omega) (by omega)
    have := bd_fit (l.getD i Co.zero) hL
    exact ⟨this.1.1, this.1.2, this.2.1, this.2.2⟩
end Kn
end Go.Proofs.Ytkjmnkbiflkpdaa

namespace Go.Proofs.Ytkjmnkbiflkpdaa
open Go.RowKit
set_option linter.unusedVariables false
set_option linter.unusedSimpArgs false

namespace Kn
/-- What is known, cell by cell. -/
def cells (k : Kn) : List Value := [.int .i64 k.lo, .int .i64 k.hi, .bool k.fa, .int .i64 (k.ki 0), .int .i64 (k.ki 1), .int .i64 (k.ki 2), .int .i64 (k.ki 3), .int .i64 (k.ki 4), .int .i64 (k.ki 5), .int .i64 (k.ki 6), .int .i64 (k.ki 7), .int .i64 (k.ki 8), .int .i64 (k.ki 9), .int .i64 (k.ki 10), .int .i64 (k.ki 11), .int .i64 (k.ki 12), .int .i64 (k.ki 13), .int .i64 (k.ki 14), .int .i64 (k.ki 15), .int .i64 (k.ki 16)]
theorem bel2 (w : World) (o o' : Obj) : Below w.heap.size w ((w.alloc o).alloc o') := ((Below.refl _ _).alloc (Nat.le_refl _) _).alloc (by simp) _
theorem bel3 (w : World) (o o' o'' : Obj) : Below w.heap.size w (((w.alloc o).alloc o').alloc o'') := (((Below.refl _ _).alloc (Nat.le_refl _) _).alloc (by simp) _).alloc (by simp; omega) _
theorem wrap_ok (n : Int) (h1 : -9223372036854775808 ≤ n) (h2 : n ≤ 9223372036854775807) : wrap64 n = n := by unfold wrap64; omega
theorem two_co {w : World} {b : Nat} {x y : Value} (h : Own w b 51 [x, y]) : w.cell? ⟨b, 0, none⟩ = some x ∧ w.cell? ⟨b, 1, none⟩ = some y := ⟨h.cell 0, h.cell 1⟩
theorem new2 (W : World) (o o' : Obj) (x y : Value) : Own (((W.alloc o).alloc o').alloc (.cells #[x, y] 51)) (W.heap.size + 1 + 1) 51 [x, y] := by
  have h : Own (((W.alloc o).alloc o').alloc (.cells #[x, y] 51)) ((W.alloc o).alloc o').heap.size 51 [x, y] := ⟨_, heap_alloc_new _ _, rfl⟩
  simpa using h
theorem agg2 {a b c d : Int} (h1 : a = c) (h2 : b = d) : Ending.returned (.agg #[.int .i64 a, .int .i64 b]) = Ending.returned (.agg #[.int .i64 c, .int .i64 d]) := by rw [h1, h2]
end Kn
set_option maxRecDepth 100000 in
set_option maxHeartbeats 4000000 in
theorem upToMany_any (x y : Int) (w : World) : Calls Try.prog 87 #[.agg #[.int .i64 x, .int .i64 y]] w fun e w' => e = .returned (.agg #[.int .i64 (Kn.cp x), .int .i64 (Kn.cp y)]) ∧ Below w.heap.size w w' := by
  by_cases p1 : x ≤ 1000
  · by_cases p2 : y ≤ 1000
    · have e1 := hide (show x = Kn.cp x by unfold Kn.cp; rw [if_pos p1])
      have e2 := hide (show y = Kn.cp y by unfold Kn.cp; rw [if_pos p2])
      go_enter Try.func87, Try.ntmps87
      go_wp2_with fail
      (refine bodyPost_ret (v := .agg #[.int .i64 x, .int .i64 y]) (by simp [results, Try.results87, go_sem]; try rfl) rfl ?_)
      exact ⟨Kn.agg2 (unhide e1) (unhide e2), Kn.bel2 _ _ _⟩
    · have e1 := hide (show x = Kn.cp x by unfold Kn.cp; rw [if_pos p1])
      have e2 := hide (show (1000 : Int) = Kn.cp y by unfold Kn.cp; rw [if_neg p2])
      go_enter Try.func87, Try.ntmps87
      go_wp2_with fail
      (refine bodyPost_ret (v := .agg #[.int .i64 x, .int .i64 1000]) (by simp [results, Try.results87, go_sem]; try rfl) rfl ?_)
      exact ⟨Kn.agg2 (unhide e1) (unhide e2), Kn.bel2 _ _ _⟩
  · by_cases p2 : y ≤ 1000
    · have e1 := hide (show (1000 : Int) = Kn.cp x by unfold Kn.cp; rw [if_neg p1])
      have e2 := hide (show y = Kn.cp y by unfold Kn.cp; rw [if_pos p2])
      go_enter Try.func87, Try.ntmps87
      go_wp2_with fail
      (refine bodyPost_ret (v := .agg #[.int .i64 1000, .int .i64 y]) (by simp [results, Try.results87, go_sem]; try rfl) rfl ?_)
      exact ⟨Kn.agg2 (unhide e1) (unhide e2), Kn.bel2 _ _ _⟩
    · have e1 := hide (show (1000 : Int) = Kn.cp x by unfold Kn.cp; rw [if_neg p1])
      have e2 := hide (show (1000 : Int) = Kn.cp y by unfold Kn.cp; rw [if_neg p2])
      go_enter Try.func87, Try.ntmps87
      go_wp2_with fail
      (refine bodyPost_ret (v := .agg #[.int .i64 1000, .int .i64 1000]) (by simp [results, Try.results87, go_sem]; try rfl) rfl ?_)
      exact ⟨Kn.agg2 (unhide e1) (unhide e2), Kn.bel2 _ _ _⟩
set_option maxRecDepth 100000 in
set_option maxHeartbeats 4000000 in
theorem times_any (x y : Int) (k : Kn) (w : World) (hb : Kn.F2 (x, y)) (hk : Kn.Fit k) : Calls Try.prog 76 #[.agg #[.int .i64 x, .int .i64 y], .agg #[.int .i64 k.lo, .int .i64 k.hi, .bool k.fa, .int .i64 (k.ki 0), .int .i64 (k.ki 1), .int .i64 (k.ki 2), .int .i64 (k.ki 3), .int .i64 (k.ki 4), .int .i64 (k.ki 5), .int .i64 (k.ki 6), .int .i64 (k.ki 7), .int .i64 (k.ki 8), .int .i64 (k.ki 9), .int .i64 (k.ki 10), .int .i64 (k.ki 11), .int .i64 (k.ki 12), .int .i64 (k.ki 13), .int .i64 (k.ki 14), .int .i64 (k.ki 15), .int .i64 (k.ki 16)]] w fun e w' => e = .returned (.agg #[.int .i64 (Kn.times (x, y) k).1, .int .i64 (Kn.times (x, y) k).2]) ∧ Below w.heap.size w w' := by
  obtain ⟨⟨x0, x1⟩, ⟨y0, y1⟩⟩ := hb
  obtain ⟨l0, l1, h0, h1⟩ := hk
  simp only at x0 x1 y0 y1
  have m1 : 0 ≤ x * k.lo ∧ x * k.lo ≤ 1000000 := ⟨Kn.mul_ge x0 l0, Kn.mul_le x0 x1 l0 l1⟩
  have m2 : 0 ≤ y * k.hi ∧ y * k.hi ≤ 1000000 := ⟨Kn.mul_ge y0 h0, Kn.mul_le y0 y1 h0 h1⟩
  have HU := hide (fun W => upToMany_any (x * k.lo) (y * k.hi) W)
  have FIN := hide (show (Kn.times (x, y) k).1 = Kn.cp (x * k.lo) ∧ (Kn.times (x, y) k).2 = Kn.cp (y * k.hi) from ⟨rfl, rfl⟩)
  obtain ⟨X, hX⟩ : ∃ X, X = x * k.lo := ⟨_, rfl⟩
  obtain ⟨Y, hY⟩ : ∃ Y, Y = y * k.hi := ⟨_, rfl⟩
  rw [← hX] at m1 HU FIN
  rw [← hY] at m2 HU FIN
  generalize Kn.cp X = PX at *
  generalize Kn.cp Y = PY at *
  obtain ⟨kl, kh, kf, kk⟩ := k
  simp only at *
  have wX : wrap64 (x * kl) = X := by rw [← hX]; exact Kn.wrap_ok _ (by omega) (by omega)
  have wY : wrap64 (y * kh) = Y := by rw [← hY]; exact Kn.wrap_ok _ (by omega) (by omega)
  obtain ⟨W, hW⟩ : ∃ W, W = ((w.alloc (.cells #[.int .i64 x, .int .i64 y] 51)).alloc (.cells #[.int .i64 kl, .int .i64 kh, .bool kf, .int .i64 (kk 0), .int .i64 (kk 1), .int .i64 (kk 2), .int .i64 (kk 3), .int .i64 (kk 4), .int .i64 (kk 5), .int .i64 (kk 6), .int .i64 (kk 7), .int .i64 (kk 8), .int .i64 (kk 9), .int .i64 (kk 10), .int .i64 (kk 11), .int .i64 (kk 12), .int .i64 (kk 13), .int .i64 (kk 14), .int .i64 (kk 15), .int .i64 (kk 16)] 55)).alloc (.cells #[.int .i64 0, .int .i64 0] 51) := ⟨_, rfl⟩
  have ON : Own W (w.heap.size + 1 + 1) 51 [.int .i64 0, .int .i64 0] := by rw [hW]; exact Kn.new2 _ _ _ _ _
  have BN : Below w.heap.size w W := by rw [hW]; exact Kn.bel3 _ _ _ _
  have HU2 := hide ((unhide HU) W)
  clear hX hY m1 m2 HU
  go_enter Try.func76, Try.ntmps76
  go_wp2_with fail
  rw [← hW]
  clear hW
  refine (unhide HU2).mono ?_
  rintro e w1 ⟨rfl, hb1⟩
  have O1 := ON.below hb1 ON.lt
  have B1 : Below w.heap.size w w1 := BN.trans (hb1.mono BN.size)
  clear hb1 HU2 ON BN
  obtain ⟨c0, c1⟩ := Kn.two_co O1
  have z0 := O1.frozen 0
  have z1 := O1.frozen 1
  have O2 := hide ((O1.set 0 (.int .i64 PX)).set 1 (.int .i64 PY))
  have B2 := hide (show Below w.heap.size w ((w1.setCell ⟨w.heap.size + 1 + 1, 0, none⟩ (.int .i64 PX)).setCell ⟨w.heap.size + 1 + 1, 1, none⟩ (.int .i64 PY)) from (B1.setCell (by simp only; omega) _).setCell (by simp only; omega) _)
  clear O1 B1
  go_wp2_with fail
  obtain ⟨q0, q1⟩ := Kn.two_co (x := .int .i64 PX) (y := .int .i64 PY) (unhide O2)
  have BF := unhide B2
  clear O2 B2 c0 c1 z0 z1
  generalize (w1.setCell ⟨w.heap.size + 1 + 1, 0, none⟩ (.int .i64 PX)).setCell ⟨w.heap.size + 1 + 1, 1, none⟩ (.int .i64 PY) = WW at *
  refine bodyPost_ret (v := .agg #[.int .i64 PX, .int .i64 PY]) (by simp [results, Try.results76, go_sem, q0, q1]; try rfl) rfl ?_
  exact ⟨Kn.agg2 (unhide FIN).1.symm (unhide FIN).2.symm, BF⟩
set_option maxRecDepth 100000 in
set_option maxHeartbeats 4000000 in
theorem plus_any (x y : Int) (k : Kn) (w : World) (hb : Kn.F2 (x, y)) (hk : Kn.Fit k) : Calls Try.prog 75 #[.agg #[.int .i64 x, .int .i64 y], .agg #[.int .i64 k.lo, .int .i64 k.hi, .bool k.fa, .int .i64 (k.ki 0), .int .i64 (k.ki 1), .int .i64 (k.ki 2), .int .i64 (k.ki 3), .int .i64 (k.ki 4), .int .i64 (k.ki 5), .int .i64 (k.ki 6), .int .i64 (k.ki 7), .int .i64 (k.ki 8), .int .i64 (k.ki 9), .int .i64 (k.ki 10), .int .i64 (k.ki 11), .int .i64 (k.ki 12), .int .i64 (k.ki 13), .int .i64 (k.ki 14), .int .i64 (k.ki 15), .int .i64 (k.ki 16)]] w fun e w' => e = .returned (.agg #[.int .i64 (Kn.plus (x, y) k).1, .int .i64 (Kn.plus (x, y) k).2]) ∧ Below w.heap.size w w' := by
  obtain ⟨⟨x0, x1⟩, ⟨y0, y1⟩⟩ := hb
  obtain ⟨l0, l1, h0, h1⟩ := hk
  simp only at x0 x1 y0 y1
  have m1 : 0 ≤ x + k.lo ∧ x + k.lo ≤ 1000000 := by omega
  have m2 : 0 ≤ y + k.hi ∧ y + k.hi ≤ 1000000 := by omega
  have HU := hide (fun W => upToMany_any (x + k.lo) (y + k.hi) W)
  have FIN := hide (show (Kn.plus (x, y) k).1 = Kn.cp (x + k.lo) ∧ (Kn.plus (x, y) k).2 = Kn.cp (y + k.hi) from ⟨rfl, rfl⟩)
  obtain ⟨X, hX⟩ : ∃ X, X = x + k.lo := ⟨_, rfl⟩
  obtain ⟨Y, hY⟩ : ∃ Y, Y = y + k.hi := ⟨_, rfl⟩
  rw [← hX] at m1 HU FIN
  rw [← hY] at m2 HU FIN
  generalize Kn.cp X = PX at *
  generalize Kn.cp Y = PY at *
  obtain ⟨kl, kh, kf, kk⟩ := k
  simp only at *
  have wX : wrap64 (x + kl) = X := by rw [← hX]; exact Kn.wrap_ok _ (by omega) (by omega)
  have wY : wrap64 (y + kh) = Y := by rw [← hY]; exact Kn.wrap_ok _ (by omega) (by omega)
  obtain ⟨W, hW⟩ : ∃ W, W = ((w.alloc (.cells #[.int .i64 x, .int .i64 y] 51)).alloc (.cells #[.int .i64 kl, .int .i64 kh, .bool kf, .int .i64 (kk 0), .int .i64 (kk 1), .int .i64 (kk 2), .int .i64 (kk 3), .int .i64 (kk 4), .int .i64 (kk 5), .int .i64 (kk 6), .int .i64 (kk 7), .int .i64 (kk 8), .int .i64 (kk 9), .int .i64 (kk 10), .int .i64 (kk 11), .int .i64 (kk 12), .int .i64 (kk 13), .int .i64 (kk 14), .int .i64 (kk 15), .int .i64 (kk 16)] 55)).alloc (.cells #[.int .i64 0, .int .i64 0] 51) := ⟨_, rfl⟩
  have ON : Own W (w.heap.size + 1 + 1) 51 [.int .i64 0, .int .i64 0] := by rw [hW]; exact Kn.new2 _ _ _ _ _
  have BN : Below w.heap.size w W := by rw [hW]; exact Kn.bel3 _ _ _ _
  have HU2 := hide ((unhide HU) W)
  rw [hX, hY] at HU2
  rw [hX] at m1
  rw [hY] at m2
  clear wX wY hX hY HU
  go_enter Try.func75, Try.ntmps75
  go_wp2_with fail
  rw [← hW]
  clear hW
  refine (unhide HU2).mono ?_
  rintro e w1 ⟨rfl, hb1⟩
  have O1 := ON.below hb1 ON.lt
  have B1 : Below w.heap.size w w1 := BN.trans (hb1.mono BN.size)
  clear hb1 HU2 ON BN
  obtain ⟨c0, c1⟩ := Kn.two_co O1
  have z0 := O1.frozen 0
  have z1 := O1.frozen 1
  have O2 := hide ((O1.set 0 (.int .i64 PX)).set 1 (.int .i64 PY))
  have B2 := hide (show Below w.heap.size w ((w1.setCell ⟨w.heap.size + 1 + 1, 0, none⟩ (.int .i64 PX)).setCell ⟨w.heap.size + 1 + 1, 1, none⟩ (.int .i64 PY)) from (B1.setCell (by simp only; omega) _).setCell (by simp only; omega) _)
  clear O1 B1
  go_wp2_with fail
  obtain ⟨q0, q1⟩ := Kn.two_co (x := .int .i64 PX) (y := .int .i64 PY) (unhide O2)
  have BF := unhide B2
  clear O2 B2 c0 c1 z0 z1
  generalize (w1.setCell ⟨w.heap.size + 1 + 1, 0, none⟩ (.int .i64 PX)).setCell ⟨w.heap.size + 1 + 1, 1, none⟩ (.int .i64 PY) = WW at *
  refine bodyPost_ret (v := .agg #[.int .i64 PX, .int .i64 PY]) (by simp [results, Try.results75, go_sem, q0, q1]; try rfl) rfl ?_
  exact ⟨Kn.agg2 (unhide FIN).1.symm (unhide FIN).2.symm, BF⟩

end Go.Proofs.Ytkjmnkbiflkpdaa

namespace Go.Proofs.Ytkjmnkbiflkpdaa
open Go.RowKit
set_option linter.unusedVariables false
set_option linter.unusedSimpArgs false

set_option maxRecDepth 100000 in
set_option maxHeartbeats 4000000 in
theorem either_any (x y : Int) (k : Kn) (w : World) : Calls Try.prog 77 #[.agg #[.int .i64 x, .int .i64 y], .agg #[.int .i64 k.lo, .int .i64 k.hi, .bool k.fa, .int .i64 (k.ki 0), .int .i64 (k.ki 1), .int .i64 (k.ki 2), .int .i64 (k.ki 3), .int .i64 (k.ki 4), .int .i64 (k.ki 5), .int .i64 (k.ki 6), .int .i64 (k.ki 7), .int .i64 (k.ki 8), .int .i64 (k.ki 9), .int .i64 (k.ki 10), .int .i64 (k.ki 11), .int .i64 (k.ki 12), .int .i64 (k.ki 13), .int .i64 (k.ki 14), .int .i64 (k.ki 15), .int .i64 (k.ki 16)]] w fun e w' => e = .returned (.agg #[.int .i64 (Kn.either (x, y) k).1, .int .i64 (Kn.either (x, y) k).2]) ∧ Below w.heap.size w w' := by
  have FIN := hide (show (Kn.either (x, y) k).1 = Kn.lt x k.lo ∧ (Kn.either (x, y) k).2 = Kn.gt y k.hi from ⟨rfl, rfl⟩)
  have HB := hide (fun (o o' o'' : Obj) => Kn.bel3 w o o' o'')
  obtain ⟨kl, kh, kf, kk⟩ := k
  simp only at FIN ⊢
  generalize (Kn.either (x, y) ⟨kl, kh, kf, kk⟩).1 = R1 at *
  generalize (Kn.either (x, y) ⟨kl, kh, kf, kk⟩).2 = R2 at *
  rcases (show (x ≤ kl ∧ kh ≤ y) ∨ (x ≤ kl ∧ ¬ kh ≤ y) ∨ (¬ x ≤ kl ∧ kh ≤ y) ∨ (¬ x ≤ kl ∧ ¬ kh ≤ y) by omega) with ⟨q1, q2⟩ | ⟨q1, q2⟩ | ⟨q1, q2⟩ | ⟨q1, q2⟩
  · -- 1 1
    have e1 := hide (show x = R1 by rw [(unhide FIN).1]; unfold Kn.lt; rw [if_pos q1])
    have e2 := hide (show y = R2 by rw [(unhide FIN).2]; unfold Kn.gt; rw [if_pos q2])
    clear FIN
    go_enter Try.func77, Try.ntmps77
    go_wp2_with fail
    refine bodyPost_ret (v := .agg #[.int .i64 x, .int .i64 y]) (by simp [results, Try.results77, go_sem]; try rfl) rfl ?_
    exact ⟨Kn.agg2 (unhide e1) (unhide e2), (unhide HB) _ _ _⟩
  · -- 1 0
    have e1 := hide (show x = R1 by rw [(unhide FIN).1]; unfold Kn.lt; rw [if_pos q1])
    have e2 := hide (show kh = R2 by rw [(unhide FIN).2]; unfold Kn.gt; rw [if_neg q2])
    have r2 : y ≤ kh := by omega
    have r2b : y < kh := by omega
    clear FIN
    go_enter Try.func77, Try.ntmps77
    go_wp2_with fail
    refine bodyPost_ret (v := .agg #[.int .i64 x, .int .i64 kh]) (by simp [results, Try.results77, go_sem]; try rfl) rfl ?_
    exact ⟨Kn.agg2 (unhide e1) (unhide e2), (unhide HB) _ _ _⟩
  · -- 0 1
    have e1 := hide (show kl = R1 by rw [(unhide FIN).1]; unfold Kn.lt; rw [if_neg q1])
    have e2 := hide (show y = R2 by rw [(unhide FIN).2]; unfold Kn.gt; rw [if_pos q2])
    have r1 : kl ≤ x := by omega
    have r1b : kl < x := by omega
    clear FIN
    go_enter Try.func77, Try.ntmps77
    go_wp2_with fail
    refine bodyPost_ret (v := .agg #[.int .i64 kl, .int .i64 y]) (by simp [results, Try.results77, go_sem]; try rfl) rfl ?_
    exact ⟨Kn.agg2 (unhide e1) (unhide e2), (unhide HB) _ _ _⟩
  · -- 0 0
    have e1 := hide (show kl = R1 by rw [(unhide FIN).1]; unfold Kn.lt; rw [if_neg q1])
    have e2 := hide (show kh = R2 by rw [(unhide FIN).2]; unfold Kn.gt; rw [if_neg q2])
    have r1 : kl ≤ x := by omega
    have r1b : kl < x := by omega
    have r2 : y ≤ kh := by omega
    have r2b : y < kh := by omega
    clear FIN
    go_enter Try.func77, Try.ntmps77
    go_wp2_with fail
    refine bodyPost_ret (v := .agg #[.int .i64 kl, .int .i64 kh]) (by simp [results, Try.results77, go_sem]; try rfl) rfl ?_
    exact ⟨Kn.agg2 (unhide e1) (unhide e2), (unhide HB) _ _ _⟩
set_option maxRecDepth 100000 in
set_option maxHeartbeats 4000000 in
theorem orFails_any (b : Bool) (k : Kn) (w : World) : Calls Try.prog 81 #[.bool b, .agg #[.int .i64 k.lo, .int .i64 k.hi, .bool k.fa, .int .i64 (k.ki 0), .int .i64 (k.ki 1), .int .i64 (k.ki 2), .int .i64 (k.ki 3), .int .i64 (k.ki 4), .int .i64 (k.ki 5), .int .i64 (k.ki 6), .int .i64 (k.ki 7), .int .i64 (k.ki 8), .int .i64 (k.ki 9), .int .i64 (k.ki 10), .int .i64 (k.ki 11), .int .i64 (k.ki 12), .int .i64 (k.ki 13), .int .i64 (k.ki 14), .int .i64 (k.ki 15), .int .i64 (k.ki 16)]] w fun e w' => e = .returned (.bool (b || k.fa)) ∧ Below w.heap.size w w' := by
  have HB := hide (fun (o : Obj) => (Below.refl w.heap.size w).alloc (Nat.le_refl _) o)
  obtain ⟨kl, kh, kf, kk⟩ := k
  simp only
  cases b with
  | true =>
    go_enter Try.func81, Try.ntmps81
    go_wp2_with fail
    go_ret
    exact ⟨rfl, (unhide HB) _⟩
  | false =>
    go_enter Try.func81, Try.ntmps81
    go_wp2_with fail
    go_ret
    exact ⟨by simp, (unhide HB) _⟩
set_option maxRecDepth 100000 in
set_option maxHeartbeats 4000000 in
theorem triedBounds_any (k : Kn) (w : World) : Calls Try.prog 78 #[.agg #[.int .i64 k.lo, .int .i64 k.hi, .bool k.fa, .int .i64 (k.ki 0), .int .i64 (k.ki 1), .int .i64 (k.ki 2), .int .i64 (k.ki 3), .int .i64 (k.ki 4), .int .i64 (k.ki 5), .int .i64 (k.ki 6), .int .i64 (k.ki 7), .int .i64 (k.ki 8), .int .i64 (k.ki 9), .int .i64 (k.ki 10), .int .i64 (k.ki 11), .int .i64 (k.ki 12), .int .i64 (k.ki 13), .int .i64 (k.ki 14), .int .i64 (k.ki 15), .int .i64 (k.ki 16)]] w fun e w' => e = .returned (.agg #[.int .i64 (Kn.tried k).1, .int .i64 (Kn.tried k).2]) ∧ Below w.heap.size w w' := by
  have HB := hide (fun (o o' : Obj) => Kn.bel2 w o o')
  unfold Kn.tried
  obtain ⟨kl, kh, kf, kk⟩ := k
  simp only
  cases kf with
  | true =>
    rw [if_pos rfl]
    go_enter Try.func78, Try.ntmps78
    go_wp2_with fail
    refine bodyPost_ret (v := .agg #[.int .i64 0, .int .i64 kh]) (by simp [results, Try.results78, go_sem]; try rfl) rfl ?_
    exact ⟨rfl, (unhide HB) _ _⟩
  | false =>
    rw [if_neg (by decide)]
    go_enter Try.func78, Try.ntmps78
    go_wp2_with fail
    refine bodyPost_ret (v := .agg #[.int .i64 kl, .int .i64 kh]) (by simp [results, Try.results78, go_sem]; try rfl) rfl ?_
    exact ⟨rfl, (unhide HB) _ _⟩
set_option maxRecDepth 100000 in
set_option maxHeartbeats 4000000 in
theorem altBounds_any (a b : Kn) (w : World) : Calls Try.prog 79 #[.agg #[.int .i64 a.lo, .int .i64 a.hi], .agg #[.int .i64 b.lo, .int .i64 b.hi]] w fun e w' => e = .returned (.agg #[.int .i64 (Kn.alt a b).1, .int .i64 (Kn.alt a b).2]) ∧ Below w.heap.size w w' := by
  have FIN := hide (show (Kn.alt a b).1 = (if 0 < a.hi then Kn.lt b.lo 1 else b.lo) ∧ (Kn.alt a b).2 = Kn.gt a.hi b.hi from ⟨rfl, rfl⟩)
  have HB := hide (fun (o o' o'' : Obj) => Kn.bel3 w o o' o'')
  generalize (Kn.alt a b).1 = R1 at *
  generalize (Kn.alt a b).2 = R2 at *
  generalize a.lo = al at *
  generalize a.hi = ah at *
  generalize b.lo = bl at *
  generalize b.hi = bh at *
  rcases (show (0 < ah ∧ bl ≤ 1 ∧ bh ≤ ah) ∨ (0 < ah ∧ bl ≤ 1 ∧ ¬ bh ≤ ah) ∨ (0 < ah ∧ ¬ bl ≤ 1 ∧ bh ≤ ah) ∨ (0 < ah ∧ ¬ bl ≤ 1 ∧ ¬ bh ≤ ah) ∨ (¬ 0 < ah ∧ bl ≤ bl ∧ bh ≤ ah) ∨ (¬ 0 < ah ∧ bl ≤ bl ∧ ¬ bh ≤ ah) by omega) with ⟨q0, q1, q2⟩ | ⟨q0, q1, q2⟩ | ⟨q0, q1, q2⟩ | ⟨q0, q1, q2⟩ | ⟨q0, q1, q2⟩ | ⟨q0, q1, q2⟩
  · have e1 := hide (show (bl : Int) = R1 by rw [(unhide FIN).1]; rw [if_pos q0]; unfold Kn.lt; rw [if_pos q1])
    have e2 := hide (show ah = R2 by rw [(unhide FIN).2]; unfold Kn.gt; rw [if_pos q2])
    clear FIN
    go_enter Try.func79, Try.ntmps79
    go_wp2_with fail
    refine bodyPost_ret (v := .agg #[.int .i64 bl, .int .i64 ah]) (by simp [results, Try.results79, go_sem]; try rfl) rfl ?_
    exact ⟨Kn.agg2 (unhide e1) (unhide e2), (unhide HB) _ _ _⟩
  · have e1 := hide (show (bl : Int) = R1 by rw [(unhide FIN).1]; rw [if_pos q0]; unfold Kn.lt; rw [if_pos q1])
    have e2 := hide (show bh = R2 by rw [(unhide FIN).2]; unfold Kn.gt; rw [if_neg q2])
    have r2 : ah ≤ bh := by omega
    have r2b : ah < bh := by omega
    clear FIN
    go_enter Try.func79, Try.ntmps79
    go_wp2_with fail
    refine bodyPost_ret (v := .agg #[.int .i64 bl, .int .i64 bh]) (by simp [results, Try.results79, go_sem]; try rfl) rfl ?_
    exact ⟨Kn.agg2 (unhide e1) (unhide e2), (unhide HB) _ _ _⟩
  · have e1 := hide (show (1 : Int) = R1 by rw [(unhide FIN).1]; rw [if_pos q0]; unfold Kn.lt; rw [if_neg q1])
    have e2 := hide (show ah = R2 by rw [(unhide FIN).2]; unfold Kn.gt; rw [if_pos q2])
    have r1 : (1 : Int) ≤ bl := by omega
    have r1b : (1 : Int) < bl := by omega
    clear FIN
    go_enter Try.func79, Try.ntmps79
    go_wp2_with fail
    refine bodyPost_ret (v := .agg #[.int .i64 1, .int .i64 ah]) (by simp [results, Try.results79, go_sem]; try rfl) rfl ?_
    exact ⟨Kn.agg2 (unhide e1) (unhide e2), (unhide HB) _ _ _⟩
  · have e1 := hide (show (1 : Int) = R1 by rw [(unhide FIN).1]; rw [if_pos q0]; unfold Kn.lt; rw [if_neg q1])
    have e2 := hide (show bh = R2 by rw [(unhide FIN).2]; unfold Kn.gt; rw [if_neg q2])
    have r1 : (1 : Int) ≤ bl := by omega
    have r1b : (1 : Int) < bl := by omega
    have r2 : ah ≤ bh := by omega
    have r2b : ah < bh := by omega
    clear FIN
    go_enter Try.func79, Try.ntmps79
    go_wp2_with fail
    refine bodyPost_ret (v := .agg #[.int .i64 1, .int .i64 bh]) (by simp [results, Try.results79, go_sem]; try rfl) rfl ?_
    exact ⟨Kn.agg2 (unhide e1) (unhide e2), (unhide HB) _ _ _⟩
  · have e1 := hide (show (bl : Int) = R1 by rw [(unhide FIN).1]; rw [if_neg q0])
    have e2 := hide (show ah = R2 by rw [(unhide FIN).2]; unfold Kn.gt; rw [if_pos q2])
    have r0 : decide (0 < ah) = false := decide_eq_false q0
    clear FIN
    go_enter Try.func79, Try.ntmps79
    go_wp2_with fail
    refine bodyPost_ret (v := .agg #[.int .i64 bl, .int .i64 ah]) (by simp [results, Try.results79, go_sem]; try rfl) rfl ?_
    exact ⟨Kn.agg2 (unhide e1) (unhide e2), (unhide HB) _ _ _⟩
  · have e1 := hide (show (bl : Int) = R1 by rw [(unhide FIN).1]; rw [if_neg q0])
    have e2 := hide (show bh = R2 by rw [(unhide FIN).2]; unfold Kn.gt; rw [if_neg q2])
    have r2 : ah ≤ bh := by omega
    have r2b : ah < bh := by omega
    have r0 : decide (0 < ah) = false := decide_eq_false q0
    clear FIN
    go_enter Try.func79, Try.ntmps79
    go_wp2_with fail
    refine bodyPost_ret (v := .agg #[.int .i64 bl, .int .i64 bh]) (by simp [results, Try.results79, go_sem]; try rfl) rfl ?_
    exact ⟨Kn.agg2 (unhide e1) (unhide e2), (unhide HB) _ _ _⟩

end Go.Proofs.Ytkjmnkbiflkpdaa

namespace Go.Proofs.Ytkjmnkbiflkpdaa
open Go.RowKit
set_option linter.unusedVariables false
set_option linter.unusedSimpArgs false

namespace Kn
/-- The row at q, from the word o on, holds L. -/
def arr (k : Kn) : Array Value := (cells k).toArray
def zArr : Array Value := (.int .i64 0 :: .int .i64 0 :: .bool false :: List.replicate 17 (Value.int .i64 0)).toArray
theorem arr_size (k : Kn) : (arr k).size = 20 := by simp [arr, cells]
theorem zArr_size : zArr.size = 20 := by simp [zArr]
theorem knInfo : (Try.prog.info? 55).map (·.size) = some 20 := by kernel_rfl
section
variable {P : Program} {ops : Array Oper} {rest : List Oper} {o : Oper} {a : Act} {Q : Exit → Act → World → Prop} {w w' : World} {v : Value}
theorem step_val (hgd : o.guard = none) (hr : (execOp a.eval o).run P w = .ok (.value v) w') (h : wpList P ops Q rest (a.put o.dst v) w') : wpList P ops Q (o :: rest) a w :=
  wpList_plain hgd fun K hK => by unfold Oper.wp; rw [hr]; exact hK _ _ h
theorem step_skip (hgd : o.guard = none) (hr : (execOp a.eval o).run P w = .ok .skip w') (h : wpList P ops Q rest (a.put o.dst undef) w') : wpList P ops Q (o :: rest) a w :=
  wpList_plain hgd fun K hK => by unfold Oper.wp; rw [hr]; exact hK _ _ h
end
theorem kn_store (w : World) (k : Kn) (o : Oper) (a : Act) (x y : Operand) (ho : o.op = .store 55 x y) (hx : a.eval x = .pointer (some ⟨w.heap.size, 0, none⟩)) (hy : a.eval y = .agg (arr k)) :
    (execOp a.eval o).run Try.prog (w.alloc (.cells zArr 55)) = .ok .skip (w.alloc (.cells (arr k) 55)) := by
  have h := run_storeAt_new (P := Try.prog) w 55 zArr (arr k) (by rw [arr_size]; exact knInfo) (by rw [arr_size, zArr_size]) (by simp [arr, cells, Value.oneCell'])
  unfold execOp
  simp only [ho, hx, hy, Sem.run_bind, h, Sem.run_pure, Result.andThen_ok]
def Kr (w : World) (q o : Nat) (L : List Kn) : Prop := q < w.heap.size ∧ ∀ i, i < L.length → ∀ j, j < 20 → w.cell? ⟨q, o + i * 20 + j, none⟩ = (cells (g L i))[j]?
theorem Kr.below {w w' : World} {B q o : Nat} {L : List Kn} (h : Kr w q o L) (hb : Below B w w') (hq : q < B) : Kr w' q o L := ⟨Nat.lt_of_lt_of_le h.1 hb.size, fun i hi j hj => (hb.cell (by exact hq)).trans (h.2 i hi j hj)⟩
theorem fold_take {α : Type} (f : α → Kn → α) (b : α) (L : List Kn) (i : Nat) (hi : i < L.length) : (L.take (i + 1)).foldl f b = f ((L.take i).foldl f b) (g L i) := by
  rw [List.take_add_one, List.getElem?_eq_getElem hi, List.foldl_append]
  have e : g L i = L[i] := by unfold g; rw [List.getD_eq_getElem?_getD, List.getElem?_eq_getElem hi]; rfl
  rw [e]
  rfl
theorem own_far {w : World} {b c j : Nat} {t : TypeId} {xs : List Value} (h : Own w b t xs) (hne : b ≠ c) (x : Value) : Own (w.setCell ⟨c, j, none⟩ x) b t xs := by
  obtain ⟨r, q1, q2⟩ := h
  exact ⟨r, (heap_setCell_other w ⟨c, j, none⟩ b x hne).trans q1, q2⟩
theorem mem_take_fit {L : List Kn} (h : ∀ k ∈ L, Fit k) (i : Nat) : ∀ k ∈ L.take i, Fit k := fun k hk => h k (List.mem_of_mem_take hk)
end Kn
set_option maxRecDepth 100000 in
set_option maxHeartbeats 4000000 in
theorem joined_times (x y : Int) (q o cap : Nat) (L : List Kn) (w : World) (hr : Kn.Kr w q o L) (hL : ∀ k ∈ L, Kn.Fit k) (hb : Kn.F2 (x, y)) (hn : L.length ≤ 3) :
    Calls Try.prog 74 #[.agg #[.int .i64 x, .int .i64 y], .slice (some ⟨q, o, none⟩) L.length cap, .func (.func 76) #[] #[]] w fun e w' => e = .returned (.agg #[.int .i64 (L.foldl Kn.times (x, y)).1, .int .i64 (L.foldl Kn.times (x, y)).2]) ∧ Below w.heap.size w w' := by
  obtain ⟨w0, hw0⟩ : ∃ w0, w0 = (w.alloc (.cells #[.int .i64 x, .int .i64 y] 51)).alloc (.cells #[.int .i64 0, .int .i64 0] 51) := ⟨_, rfl⟩
  have B0 : Below w.heap.size w w0 := by rw [hw0]; exact Kn.bel2 _ _ _
  have hs0 : w0.heap.size = w.heap.size + 1 + 1 := by rw [hw0]; simp
  have OA : Own w0 w.heap.size 51 [.int .i64 x, .int .i64 y] := by
    rw [hw0]
    exact Own.below (w := w.alloc _) ⟨_, heap_alloc_new _ _, rfl⟩ ((Below.refl _ _).alloc (Nat.le_refl _) _) (by simp)
  have OR : Own w0 (w.heap.size + 1) 51 [.int .i64 0, .int .i64 0] := by
    rw [hw0]
    have h : Own ((w.alloc (.cells #[.int .i64 x, .int .i64 y] 51)).alloc (.cells #[.int .i64 0, .int .i64 0] 51)) (w.alloc (.cells #[.int .i64 x, .int .i64 y] 51)).heap.size 51 [.int .i64 0, .int .i64 0] := ⟨_, heap_alloc_new _ _, rfl⟩
    simpa using h
  have HR := hide hr
  have HL := hide hL
  have HF := hide (fun i => Kn.fold_times (Kn.mem_take_fit hL i) (x, y) hb)
  have HFIN := hide (show L.foldl Kn.times (x, y) = (L.take L.length).foldl Kn.times (x, y) by rw [List.take_length])
  have HS0 := hide hs0
  have HST := hide (show ([] : List Kn).foldl Kn.times (x, y) = (x, y) from rfl)
  clear hr hL hb hs0
  go_enter Try.func74, Try.ntmps74
  go_wp2_with fail
  rw [← hw0]
  clear hw0
  go_loopg [11] L.length (fun gh s11 wr => ∃ (i : Nat) (p : Int × Int), Hid (gh = L.length - i) ∧ s11 = .int .i64 i ∧ i ≤ L.length ∧ Hid (p = (L.take i).foldl Kn.times (x, y)) ∧ Hid (Own wr w.heap.size 51 [.int .i64 p.1, .int .i64 p.2]) ∧ Hid (Own wr (w.heap.size + 1) 51 [.int .i64 0, .int .i64 0]) ∧ Hid (Below w.heap.size w wr))
  case atStart => exact ⟨0, (x, y), rfl, rfl, by omega, rfl, OA, OR, B0⟩
  case round =>
  clear OA OR B0
  obtain ⟨i, p, hg, rfl, hi, hp, HOA, HOR, HB⟩ := hrel
  obtain ⟨p1, p2⟩ := p
  have OA := unhide HOA
  simp only at OA
  have hwr : w.heap.size + 1 < wr.heap.size := (unhide HOR).lt
  by_cases hlt : i < L.length
  · have hltI : (i : Int) < (L.length : Int) := by omega
    have hi0I : (0 : Int) ≤ (i : Int) := by omega
    have hc := ((unhide HR).below (unhide HB) (unhide HR).1).2 i hlt
    have hfit := (unhide HF) i
    rw [← hp.out] at hfit
    have hkf := (unhide HL) _ (show Kn.g L i ∈ L by unfold Kn.g; rw [List.getD_eq_getElem?_getD, List.getElem?_eq_getElem hlt]; exact List.getElem_mem hlt)
    have HNX := hide (show (L.take (i + 1)).foldl Kn.times (x, y) = Kn.times (p1, p2) (Kn.g L i) by rw [Kn.fold_take _ _ _ _ hlt, ← hp.out])
    generalize Kn.g L i = k at *
    have hrg : wr.rangeAt q (o + i * 20) (Kn.cells k) := fun j v hv => by
      have hj : j < 20 := by have := (List.getElem?_eq_some_iff.1 hv).1; simpa [Kn.cells] using this
      rw [hc j hj]; exact hv
    have HC := hide (fun (W : World) => times_any p1 p2 k W hfit hkf)
    obtain ⟨r1, r2, hrr⟩ : ∃ r1 r2, (r1, r2) = Kn.times (p1, p2) k := ⟨_, _, rfl⟩
    rw [← hrr] at HC HNX
    obtain ⟨w3, hw3⟩ : ∃ w3, w3 = wr.alloc (.cells (Kn.arr k) 55) := ⟨_, rfl⟩
    have B3 : Below wr.heap.size wr w3 := by rw [hw3]; exact (Below.refl _ _).alloc (Nat.le_refl _) _
    have O3 : Own w3 wr.heap.size 55 [.int .i64 k.lo, .int .i64 k.hi, .bool k.fa, .int .i64 (k.ki 0), .int .i64 (k.ki 1), .int .i64 (k.ki 2), .int .i64 (k.ki 3), .int .i64 (k.ki 4), .int .i64 (k.ki 5), .int .i64 (k.ki 6), .int .i64 (k.ki 7), .int .i64 (k.ki 8), .int .i64 (k.ki 9), .int .i64 (k.ki 10), .int .i64 (k.ki 11), .int .i64 (k.ki 12), .int .i64 (k.ki 13), .int .i64 (k.ki 14), .int .i64 (k.ki 15), .int .i64 (k.ki 16)] := by rw [hw3]; exact ⟨_, heap_alloc_new _ _, rfl⟩
    have OA3 := OA.below B3 OA.lt
    have OR3 := (unhide HOR).below B3 (unhide HOR).lt
    have BB3 := (unhide HB).trans (B3.mono (unhide HB).size)
    have HC3 := hide (show Calls Try.prog 76 #[.agg #[.int .i64 p1, .int .i64 p2], .agg (Kn.cells k).toArray] w3 fun e w' => e = .returned (.agg #[.int .i64 r1, .int .i64 r2]) ∧ Below w3.heap.size w3 w' from (unhide HC) w3)
    clear hc hfit hkf HC hrr B3 OA HOA HOR HB
    go_upto_region 3 with fail
    refine wp_region_lit ?_
    refine Kn.step_val (v := .pointer (some ⟨q, o + i * 20, none⟩)) (w' := wr) rfl (by go_simp) ?_
    simp only [Act.put, List.setIfInBounds_toArray, List.set_cons_zero, List.set_cons_succ]
    refine wpList_load_mid rfl 55 (.tmp 13) rfl q (o + i * 20) rfl (Kn.cells k) _ hrg Try.underlying55 rfl Kn.knInfo ?_
    simp only [Act.put, List.setIfInBounds_toArray, List.set_cons_zero, List.set_cons_succ]
    refine Kn.step_val (v := .pointer (some ⟨wr.heap.size, 0, none⟩)) (w' := wr.alloc (.cells Kn.zArr 55)) rfl (by kernel_rfl) ?_
    simp only [Act.put, List.setIfInBounds_toArray, List.set_cons_zero, List.set_cons_succ]
    refine Kn.step_skip (w' := wr.alloc (.cells (Kn.arr k) 55)) rfl (Kn.kn_store wr k _ _ (.tmp 8) (.tmp 14) rfl rfl rfl) ?_
    simp only [Act.put, List.setIfInBounds_toArray, List.set_cons_zero, List.set_cons_succ]
    rw [← hw3]
    clear hw3 hrg
    obtain ⟨c0, c1⟩ := Kn.two_co OA3
    have hrk : w3.rangeAt wr.heap.size 0 (Kn.cells k) := fun j v hv => by rw [Nat.zero_add, O3.cell j]; exact hv
    go_upto_region 4 with fail
    refine wp_region_lit ?_
    refine Kn.step_val (v := .func (.func 76) #[] #[]) (w' := w3) rfl (by rfl) ?_
    simp only [Act.put, List.setIfInBounds_toArray, List.set_cons_zero, List.set_cons_succ]
    refine Kn.step_val (v := .agg #[.int .i64 p1, .int .i64 p2]) (w' := w3) rfl (by go_simp) ?_
    simp only [Act.put, List.setIfInBounds_toArray, List.set_cons_zero, List.set_cons_succ]
    refine wpList_load_mid rfl 55 (.tmp 8) rfl wr.heap.size 0 rfl (Kn.cells k) _ hrk Try.underlying55 rfl Kn.knInfo ?_
    simp only [Act.put, List.setIfInBounds_toArray, List.set_cons_zero, List.set_cons_succ]
    generalize (Kn.cells k).toArray = KA at *
    clear O3 hrk
    go_wp2_with fail
    refine (unhide HC3).mono ?_
    rintro e w4 ⟨rfl, hb4⟩
    have OA4 := OA3.below hb4 OA3.lt
    have OR4 := OR3.below hb4 OR3.lt
    have BB4 := BB3.trans (hb4.mono BB3.size)
    clear c0 c1 HC3 OA3 OR3 BB3 hb4
    obtain ⟨c0, c1⟩ := Kn.two_co OA4
    have z0 := OA4.frozen 0
    have z1 := OA4.frozen 1
    have HOA5 := hide (show Own ((w4.setCell ⟨w.heap.size, 0, none⟩ (.int .i64 r1)).setCell ⟨w.heap.size, 1, none⟩ (.int .i64 r2)) w.heap.size 51 [.int .i64 r1, .int .i64 r2] from (OA4.set 0 (.int .i64 r1)).set 1 (.int .i64 r2))
    have HOR5 := hide (show Own ((w4.setCell ⟨w.heap.size, 0, none⟩ (.int .i64 r1)).setCell ⟨w.heap.size, 1, none⟩ (.int .i64 r2)) (w.heap.size + 1) 51 [.int .i64 0, .int .i64 0] from Kn.own_far (Kn.own_far OR4 (Nat.succ_ne_self _) (.int .i64 r1)) (Nat.succ_ne_self _) (.int .i64 r2))
    have HB5 := hide (show Below w.heap.size w ((w4.setCell ⟨w.heap.size, 0, none⟩ (.int .i64 r1)).setCell ⟨w.heap.size, 1, none⟩ (.int .i64 r2)) from (BB4.setCell (Nat.le_refl _) _).setCell (Nat.le_refl _) _)
    clear OA4 OR4 BB4
    go_wp2_with fail
    go_roundg (L.length - (i + 1))
    case rel => exact ⟨i + 1, (r1, r2), rfl, by go_num, by omega, (unhide HNX).symm, unhide HOA5, unhide HOR5, unhide HB5⟩
    case measure => have := hg.out; omega
  · have hltI : ¬ (i : Int) < (L.length : Int) := by omega
    have hie : i = L.length := by omega
    have FIN := hide (show L.foldl Kn.times (x, y) = (p1, p2) by rw [unhide HFIN, ← hie, ← hp.out])
    obtain ⟨c0, c1⟩ := Kn.two_co OA
    obtain ⟨d0, d1⟩ := Kn.two_co (unhide HOR)
    have z0 := (unhide HOR).frozen 0
    have z1 := (unhide HOR).frozen 1
    have O2 := hide (((unhide HOR).set 0 (.int .i64 p1)).set 1 (.int .i64 p2))
    have B2 := hide (show Below w.heap.size w ((wr.setCell ⟨w.heap.size + 1, 0, none⟩ (.int .i64 p1)).setCell ⟨w.heap.size + 1, 1, none⟩ (.int .i64 p2)) from ((unhide HB).setCell (by simp only; omega) _).setCell (by simp only; omega) _)
    clear HOR HOA HB OA hie HFIN
    go_wp2_with fail
    obtain ⟨q0, q1⟩ := Kn.two_co (x := .int .i64 p1) (y := .int .i64 p2) (unhide O2)
    have BF := unhide B2
    clear O2 B2 c0 c1 d0 d1 z0 z1
    generalize (wr.setCell ⟨w.heap.size + 1, 0, none⟩ (.int .i64 p1)).setCell ⟨w.heap.size + 1, 1, none⟩ (.int .i64 p2) = WW at *
    refine bodyPost_ret (v := .agg #[.int .i64 p1, .int .i64 p2]) (by simp [results, Try.results74, go_sem, q0, q1]; try rfl) rfl ?_
    exact ⟨by rw [unhide FIN], BF⟩
set_option maxRecDepth 100000 in
set_option maxHeartbeats 4000000 in
theorem joined_plus (x y : Int) (q o cap : Nat) (L : List Kn) (w : World) (hr : Kn.Kr w q o L) (hL : ∀ k ∈ L, Kn.Fit k) (hb : Kn.F2 (x, y)) (hn : L.length ≤ 3) :
    Calls Try.prog 74 #[.agg #[.int .i64 x, .int .i64 y], .slice (some ⟨q, o, none⟩) L.length cap, .func (.func 75) #[] #[]] w fun e w' => e = .returned (.agg #[.int .i64 (L.foldl Kn.plus (x, y)).1, .int .i64 (L.foldl Kn.plus (x, y)).2]) ∧ Below w.heap.size w w' := by
  obtain ⟨w0, hw0⟩ : ∃ w0, w0 = (w.alloc (.cells #[.int .i64 x, .int .i64 y] 51)).alloc (.cells #[.int .i64 0, .int .i64 0] 51) := ⟨_, rfl⟩
  have B0 : Below w.heap.size w w0 := by rw [hw0]; exact Kn.bel2 _ _ _
  have hs0 : w0.heap.size = w.heap.size + 1 + 1 := by rw [hw0]; simp
  have OA : Own w0 w.heap.size 51 [.int .i64 x, .int .i64 y] := by
    rw [hw0]
    exact Own.below (w := w.alloc _) ⟨_, heap_alloc_new _ _, rfl⟩ ((Below.refl _ _).alloc (Nat.le_refl _) _) (by simp)
  have OR : Own w0 (w.heap.size + 1) 51 [.int .i64 0, .int .i64 0] := by
    rw [hw0]
    have h : Own ((w.alloc (.cells #[.int .i64 x, .int .i64 y] 51)).alloc (.cells #[.int .i64 0, .int .i64 0] 51)) (w.alloc (.cells #[.int .i64 x, .int .i64 y] 51)).heap.size 51 [.int .i64 0, .int .i64 0] := ⟨_, heap_alloc_new _ _, rfl⟩
    simpa using h
  have HR := hide hr
  have HL := hide hL
  have HF := hide (fun i => Kn.fold_plus (Kn.mem_take_fit hL i) (x, y) hb)
  have HFIN := hide (show L.foldl Kn.plus (x, y) = (L.take L.length).foldl Kn.plus (x, y) by rw [List.take_length])
  have HS0 := hide hs0
  have HST := hide (show ([] : List Kn).foldl Kn.plus (x, y) = (x, y) from rfl)
  clear hr hL hb hs0
  go_enter Try.func74, Try.ntmps74
  go_wp2_with fail
  rw [← hw0]
  clear hw0
  go_loopg [11] L.length (fun gh s11 wr => ∃ (i : Nat) (p : Int × Int), Hid (gh = L.length - i) ∧ s11 = .int .i64 i ∧ i ≤ L.length ∧ Hid (p = (L.take i).foldl Kn.plus (x, y)) ∧ Hid (Own wr w.heap.size 51 [.int .i64 p.1, .int .i64 p.2]) ∧ Hid (Own wr (w.heap.size + 1) 51 [.int .i64 0, .int .i64 0]) ∧ Hid (Below w.heap.size w wr))
  case atStart => exact ⟨0, (x, y), rfl, rfl, by omega, rfl, OA, OR, B0⟩
  case round =>
  clear OA OR B0
  obtain ⟨i, p, hg, rfl, hi, hp, HOA, HOR, HB⟩ := hrel
  obtain ⟨p1, p2⟩ := p
  have OA := unhide HOA
  simp only at OA
  have hwr : w.heap.size + 1 < wr.heap.size := (unhide HOR).lt
  by_cases hlt : i < L.length
  · have hltI : (i : Int) < (L.length : Int) := by omega
    have hi0I : (0 : Int) ≤ (i : Int) := by omega
    have hc := ((unhide HR).below (unhide HB) (unhide HR).1).2 i hlt
    have hfit := (unhide HF) i
    rw [← hp.out] at hfit
    have hkf := (unhide HL) _ (show Kn.g L i ∈ L by unfold Kn.g; rw [List.getD_eq_getElem?_getD, List.getElem?_eq_getElem hlt]; exact List.getElem_mem hlt)
    have HNX := hide (show (L.take (i + 1)).foldl Kn.plus (x, y) = Kn.plus (p1, p2) (Kn.g L i) by rw [Kn.fold_take _ _ _ _ hlt, ← hp.out])
    generalize Kn.g L i = k at *
    have hrg : wr.rangeAt q (o + i * 20) (Kn.cells k) := fun j v hv => by
      have hj : j < 20 := by have := (List.getElem?_eq_some_iff.1 hv).1; simpa [Kn.cells] using this
      rw [hc j hj]; exact hv
    have HC := hide (fun (W : World) => plus_any p1 p2 k W hfit hkf)
    obtain ⟨r1, r2, hrr⟩ : ∃ r1 r2, (r1, r2) = Kn.plus (p1, p2) k := ⟨_, _, rfl⟩
    rw [← hrr] at HC HNX
    obtain ⟨w3, hw3⟩ : ∃ w3, w3 = wr.alloc (.cells (Kn.arr k) 55) := ⟨_, rfl⟩
    have B3 : Below wr.heap.size wr w3 := by rw [hw3]; exact (Below.refl _ _).alloc (Nat.le_refl _) _
    have O3 : Own w3 wr.heap.size 55 [.int .i64 k.lo, .int .i64 k.hi, .bool k.fa, .int .i64 (k.ki 0), .int .i64 (k.ki 1), .int .i64 (k.ki 2), .int .i64 (k.ki 3), .int .i64 (k.ki 4), .int .i64 (k.ki 5), .int .i64 (k.ki 6), .int .i64 (k.ki 7), .int .i64 (k.ki 8), .int .i64 (k.ki 9), .int .i64 (k.ki 10), .int .i64 (k.ki 11), .int .i64 (k.ki 12), .int .i64 (k.ki 13), .int .i64 (k.ki 14), .int .i64 (k.ki 15), .int .i64 (k.ki 16)] := by rw [hw3]; exact ⟨_, heap_alloc_new _ _, rfl⟩
    have OA3 := OA.below B3 OA.lt
    have OR3 := (unhide HOR).below B3 (unhide HOR).lt
    have BB3 := (unhide HB).trans (B3.mono (unhide HB).size)
    have HC3 := hide (show Calls Try.prog 75 #[.agg #[.int .i64 p1, .int .i64 p2], .agg (Kn.cells k).toArray] w3 fun e w' => e = .returned (.agg #[.int .i64 r1, .int .i64 r2]) ∧ Below w3.heap.size w3 w' from (unhide HC) w3)
    clear hc hfit hkf HC hrr B3 OA HOA HOR HB
    go_upto_region 3 with fail
    refine wp_region_lit ?_
    refine Kn.step_val (v := .pointer (some ⟨q, o + i * 20, none⟩)) (w' := wr) rfl (by go_simp) ?_
    simp only [Act.put, List.setIfInBounds_toArray, List.set_cons_zero, List.set_cons_succ]
    refine wpList_load_mid rfl 55 (.tmp 13) rfl q (o + i * 20) rfl (Kn.cells k) _ hrg Try.underlying55 rfl Kn.knInfo ?_
    simp only [Act.put, List.setIfInBounds_toArray, List.set_cons_zero, List.set_cons_succ]
    refine Kn.step_val (v := .pointer (some ⟨wr.heap.size, 0, none⟩)) (w' := wr.alloc (.cells Kn.zArr 55)) rfl (by kernel_rfl) ?_
    simp only [Act.put, List.setIfInBounds_toArray, List.set_cons_zero, List.set_cons_succ]
    refine Kn.step_skip (w' := wr.alloc (.cells (Kn.arr k) 55)) rfl (Kn.kn_store wr k _ _ (.tmp 8) (.tmp 14) rfl rfl rfl) ?_
    simp only [Act.put, List.setIfInBounds_toArray, List.set_cons_zero, List.set_cons_succ]
    rw [← hw3]
    clear hw3 hrg
    obtain ⟨c0, c1⟩ := Kn.two_co OA3
    have hrk : w3.rangeAt wr.heap.size 0 (Kn.cells k) := fun j v hv => by rw [Nat.zero_add, O3.cell j]; exact hv
    go_upto_region 4 with fail
    refine wp_region_lit ?_
    refine Kn.step_val (v := .func (.func 75) #[] #[]) (w' := w3) rfl (by rfl) ?_
    simp only [Act.put, List.setIfInBounds_toArray, List.set_cons_zero, List.set_cons_succ]
    refine Kn.step_val (v := .agg #[.int .i64 p1, .int .i64 p2]) (w' := w3) rfl (by go_simp) ?_
    simp only [Act.put, List.setIfInBounds_toArray, List.set_cons_zero, List.set_cons_succ]
    refine wpList_load_mid rfl 55 (.tmp 8) rfl wr.heap.size 0 rfl (Kn.cells k) _ hrk Try.underlying55 rfl Kn.knInfo ?_
    simp only [Act.put, List.setIfInBounds_toArray, List.set_cons_zero, List.set_cons_succ]
    generalize (Kn.cells k).toArray = KA at *
    clear O3 hrk
    go_wp2_with fail
    refine (unhide HC3).mono ?_
    rintro e w4 ⟨rfl, hb4⟩
    have OA4 := OA3.below hb4 OA3.lt
    have OR4 := OR3.below hb4 OR3.lt
    have BB4 := BB3.trans (hb4.mono BB3.size)
    clear c0 c1 HC3 OA3 OR3 BB3 hb4
    obtain ⟨c0, c1⟩ := Kn.two_co OA4
    have z0 := OA4.frozen 0
    have z1 := OA4.frozen 1
    have HOA5 := hide (show Own ((w4.setCell ⟨w.heap.size, 0, none⟩ (.int .i64 r1)).setCell ⟨w.heap.size, 1, none⟩ (.int .i64 r2)) w.heap.size 51 [.int .i64 r1, .int .i64 r2] from (OA4.set 0 (.int .i64 r1)).set 1 (.int .i64 r2))
    have HOR5 := hide (show Own ((w4.setCell ⟨w.heap.size, 0, none⟩ (.int .i64 r1)).setCell ⟨w.heap.size, 1, none⟩ (.int .i64 r2)) (w.heap.size + 1) 51 [.int .i64 0, .int .i64 0] from Kn.own_far (Kn.own_far OR4 (Nat.succ_ne_self _) (.int .i64 r1)) (Nat.succ_ne_self _) (.int .i64 r2))
    have HB5 := hide (show Below w.heap.size w ((w4.setCell ⟨w.heap.size, 0, none⟩ (.int .i64 r1)).setCell ⟨w.heap.size, 1, none⟩ (.int .i64 r2)) from (BB4.setCell (Nat.le_refl _) _).setCell (Nat.le_refl _) _)
    clear OA4 OR4 BB4
    go_wp2_with fail
    go_roundg (L.length - (i + 1))
    case rel => exact ⟨i + 1, (r1, r2), rfl, by go_num, by omega, (unhide HNX).symm, unhide HOA5, unhide HOR5, unhide HB5⟩
    case measure => have := hg.out; omega
  · have hltI : ¬ (i : Int) < (L.length : Int) := by omega
    have hie : i = L.length := by omega
    have FIN := hide (show L.foldl Kn.plus (x, y) = (p1, p2) by rw [unhide HFIN, ← hie, ← hp.out])
    obtain ⟨c0, c1⟩ := Kn.two_co OA
    obtain ⟨d0, d1⟩ := Kn.two_co (unhide HOR)
    have z0 := (unhide HOR).frozen 0
    have z1 := (unhide HOR).frozen 1
    have O2 := hide (((unhide HOR).set 0 (.int .i64 p1)).set 1 (.int .i64 p2))
    have B2 := hide (show Below w.heap.size w ((wr.setCell ⟨w.heap.size + 1, 0, none⟩ (.int .i64 p1)).setCell ⟨w.heap.size + 1, 1, none⟩ (.int .i64 p2)) from ((unhide HB).setCell (by simp only; omega) _).setCell (by simp only; omega) _)
    clear HOR HOA HB OA hie HFIN
    go_wp2_with fail
    obtain ⟨q0, q1⟩ := Kn.two_co (x := .int .i64 p1) (y := .int .i64 p2) (unhide O2)
    have BF := unhide B2
    clear O2 B2 c0 c1 d0 d1 z0 z1
    generalize (wr.setCell ⟨w.heap.size + 1, 0, none⟩ (.int .i64 p1)).setCell ⟨w.heap.size + 1, 1, none⟩ (.int .i64 p2) = WW at *
    refine bodyPost_ret (v := .agg #[.int .i64 p1, .int .i64 p2]) (by simp [results, Try.results74, go_sem, q0, q1]; try rfl) rfl ?_
    exact ⟨by rw [unhide FIN], BF⟩

end Go.Proofs.Ytkjmnkbiflkpdaa

namespace Go.Proofs.Ytkjmnkbiflkpdaa
open Go.RowKit
set_option linter.unusedVariables false
set_option linter.unusedSimpArgs false

theorem Kn.any_take (L : List Kn) (i : Nat) (hi : i < L.length) : (L.take (i + 1)).any Kn.fa = ((L.take i).any Kn.fa || (Kn.g L i).fa) := by
  rw [List.take_add_one, List.getElem?_eq_getElem hi, List.any_append]
  have e : Kn.g L i = L[i] := by unfold Kn.g; rw [List.getD_eq_getElem?_getD, List.getElem?_eq_getElem hi]; rfl
  rw [e]
  simp
set_option maxRecDepth 100000 in
set_option maxHeartbeats 4000000 in
theorem joined_or (b : Bool) (q o cap : Nat) (L : List Kn) (w : World) (hr : Kn.Kr w q o L) (hn : L.length ≤ 3) :
    Calls Try.prog 80 #[.bool b, .slice (some ⟨q, o, none⟩) L.length cap, .func (.func 81) #[] #[]] w fun e w' => e = .returned (.bool (b || L.any Kn.fa)) ∧ Below w.heap.size w w' := by
  have HR := hide hr
  have HFIN := hide (show L.any Kn.fa = (L.take L.length).any Kn.fa by rw [List.take_length])
  clear hr
  go_enter Try.func80, Try.ntmps80
  go_wp2_with fail
  go_loopg [0, 11] L.length (fun gh s0 s11 wr => ∃ (i : Nat) (p : Bool), Hid (gh = L.length - i) ∧ s0 = .bool p ∧ s11 = .int .i64 i ∧ i ≤ L.length ∧ Hid (p = (b || (L.take i).any Kn.fa)) ∧ Hid (Below w.heap.size w wr))
  case atStart => exact ⟨0, b, rfl, rfl, rfl, by omega, by show _ = _; simp, Below.refl _ _⟩
  case round =>
  obtain ⟨i, p, hg, rfl, rfl, hi, hp, HB⟩ := hrel
  by_cases hlt : i < L.length
  · have hltI : (i : Int) < (L.length : Int) := by omega
    have hi0I : (0 : Int) ≤ (i : Int) := by omega
    have hc := ((unhide HR).below (unhide HB) (unhide HR).1).2 i hlt
    have HNX := hide (show (b || (L.take (i + 1)).any Kn.fa) = (p || (Kn.g L i).fa) by rw [Kn.any_take L i hlt, ← Bool.or_assoc, ← hp.out])
    generalize Kn.g L i = k at *
    have hrg : wr.rangeAt q (o + i * 20) (Kn.cells k) := fun j v hv => by
      have hj : j < 20 := by have := (List.getElem?_eq_some_iff.1 hv).1; simpa [Kn.cells] using this
      rw [hc j hj]; exact hv
    obtain ⟨w3, hw3⟩ : ∃ w3, w3 = wr.alloc (.cells (Kn.arr k) 55) := ⟨_, rfl⟩
    have B3 : Below wr.heap.size wr w3 := by rw [hw3]; exact (Below.refl _ _).alloc (Nat.le_refl _) _
    have O3 : Own w3 wr.heap.size 55 (Kn.cells k) := by rw [hw3]; exact ⟨_, heap_alloc_new _ _, rfl⟩
    have BB3 := (unhide HB).trans (B3.mono (unhide HB).size)
    obtain ⟨r, hrr⟩ : ∃ r, r = (p || k.fa) := ⟨_, rfl⟩
    rw [← hrr] at HNX
    have HC3 := hide (show Calls Try.prog 81 #[.bool p, .agg (Kn.cells k).toArray] w3 fun e w' => e = .returned (.bool r) ∧ Below w3.heap.size w3 w' by rw [hrr]; exact orFails_any p k w3)
    clear hc hrr B3 HB
    go_upto_region 3 with fail
    refine wp_region_lit ?_
    refine Kn.step_val (v := .pointer (some ⟨q, o + i * 20, none⟩)) (w' := wr) rfl (by go_simp) ?_
    simp only [Act.put, List.setIfInBounds_toArray, List.set_cons_zero, List.set_cons_succ]
    refine wpList_load_mid rfl 55 (.tmp 13) rfl q (o + i * 20) rfl (Kn.cells k) _ hrg Try.underlying55 rfl Kn.knInfo ?_
    simp only [Act.put, List.setIfInBounds_toArray, List.set_cons_zero, List.set_cons_succ]
    refine Kn.step_val (v := .pointer (some ⟨wr.heap.size, 0, none⟩)) (w' := wr.alloc (.cells Kn.zArr 55)) rfl (by kernel_rfl) ?_
    simp only [Act.put, List.setIfInBounds_toArray, List.set_cons_zero, List.set_cons_succ]
    refine Kn.step_skip (w' := wr.alloc (.cells (Kn.arr k) 55)) rfl (Kn.kn_store wr k _ _ (.tmp 8) (.tmp 14) rfl rfl rfl) ?_
    simp only [Act.put, List.setIfInBounds_toArray, List.set_cons_zero, List.set_cons_succ]
    rw [← hw3]
    clear hw3 hrg
    have hrk : w3.rangeAt wr.heap.size 0 (Kn.cells k) := fun j v hv => by rw [Nat.zero_add, O3.cell j]; exact hv
    go_upto_region 4 with fail
    refine wp_region_lit ?_
    refine Kn.step_val (v := .func (.func 81) #[] #[]) (w' := w3) rfl (by rfl) ?_
    simp only [Act.put, List.setIfInBounds_toArray, List.set_cons_zero, List.set_cons_succ]
    refine Kn.step_val (v := .bool p) (w' := w3) rfl (by rfl) ?_
    simp only [Act.put, List.setIfInBounds_toArray, List.set_cons_zero, List.set_cons_succ]
    refine wpList_load_mid rfl 55 (.tmp 8) rfl wr.heap.size 0 rfl (Kn.cells k) _ hrk Try.underlying55 rfl Kn.knInfo ?_
    simp only [Act.put, List.setIfInBounds_toArray, List.set_cons_zero, List.set_cons_succ]
    generalize (Kn.cells k).toArray = KA at *
    clear O3 hrk
    go_wp2_with fail
    refine (unhide HC3).mono ?_
    rintro e w4 ⟨rfl, hb4⟩
    have HB4 := hide (BB3.trans (hb4.mono BB3.size))
    clear HC3 BB3 hb4
    go_wp2_with fail
    go_roundg (L.length - (i + 1))
    case rel => exact ⟨i + 1, r, rfl, rfl, by go_num, by omega, (unhide HNX).symm, unhide HB4⟩
    case measure => have := hg.out; omega
  · have hltI : ¬ (i : Int) < (L.length : Int) := by omega
    have hie : i = L.length := by omega
    have FIN := hide (show p = (b || L.any Kn.fa) by rw [unhide HFIN, ← hie, ← hp.out])
    clear hie HFIN
    go_wp2_with fail
    go_ret
    exact ⟨ret_bool (unhide FIN), unhide HB⟩
set_option maxRecDepth 100000 in
set_option maxHeartbeats 4000000 in
theorem joined_or0 (b : Bool) (a : Option Addr) (cap : Nat) (w : World) : Calls Try.prog 80 #[.bool b, .slice a 0 cap, .func (.func 81) #[] #[]] w fun e w' => e = .returned (.bool b) ∧ w' = w := by
  go_enter Try.func80, Try.ntmps80
  go_wp2_with fail
  go_loopg [0, 11] 0 (fun gh s0 s11 wr => s0 = .bool b ∧ s11 = .int .i64 0 ∧ wr = w)
  case atStart => exact ⟨rfl, rfl, rfl⟩
  case round =>
  obtain ⟨rfl, rfl, rfl⟩ := hrel
  go_wp2_with fail
  go_ret
  exact ⟨rfl, rfl⟩

end Go.Proofs.Ytkjmnkbiflkpdaa
