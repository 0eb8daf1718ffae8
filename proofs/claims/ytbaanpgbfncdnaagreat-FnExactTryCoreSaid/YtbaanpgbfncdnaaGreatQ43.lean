/-
  laws' helpers about a PassResult.
  A part of a core, as spec holds it; spec.l10Top, l10Const, l10Made.
  What the laws of the passes share.
-/
import Derived.Test.YtbaanpgbfncdnaaGreatQ30
import Derived.Test.YtbaanpgbfncdnaaGreatQ31
import Derived.Test.YtbaanpgbfncdnaaGreatQ32
import Derived.Test.YtbaanpgbfncdnaaGreatQ42
namespace Go.Proofs.YtbaanpgbfncdnaaGreat
open Go.RowKit
set_option linter.unusedVariables false
set_option linter.unusedSimpArgs false

set_option maxHeartbeats 1000000 in
theorem eqPassResult_rn (x y : Int) (v v' : Value) (base base' : Nat) (ds ds' : List (Co × Value)) (w : World) (h : Lm.Rn w base v ds) (h' : Lm.Rn w base' v' ds') (he : ds.map Prod.fst = ds'.map Prod.fst) (hn : ds.length ≤ 4096) :
    Calls Tryz.prog 12 #[.agg #[.int .i64 x, .int .i64 y, v], .agg #[.int .i64 x, .int .i64 y, v']] w fun e w' => e = .returned (.bool true) ∧ Below w.heap.size w w' := by
  obtain ⟨xa, xc, hv⟩ := h.shape
  obtain ⟨ya, yc, hv'⟩ := h'.shape
  obtain ⟨w0, hw0⟩ : ∃ w0, w0 = (w.alloc (.cells #[.int .i64 x, .int .i64 y, v] 26)).alloc (.cells #[.int .i64 x, .int .i64 y, v'] 26) := ⟨_, rfl⟩
  have B0 : Below w.heap.size w w0 := by rw [hw0]; exact ((Below.refl _ _).alloc (Nat.le_refl _) _).alloc (by simp) _
  have HC := hide (eqCoreS_rn v v' base base' ds ds' w0 (h.below B0) (h'.below B0) he hn)
  clear h h' he
  subst hv hv'
  go_enter Tryz.func12, Tryz.ntmps12
  go_wp2_with fail
  rw [← hw0]
  clear hw0
  refine (unhide HC).mono ?_
  rintro e w1 ⟨rfl, hb1⟩
  have B1 : Below w.heap.size w w1 := B0.trans (hb1.mono B0.size)
  go_wp2_with fail
  go_ret
  exact ⟨rfl, B1⟩

set_option maxHeartbeats 1000000 in
theorem markPassResult_rn (x y : Int) (v : Value) (base : Nat) (ds : List (Co × Value)) (k : Int) (w : World) (h : Lm.Rn w base v ds) (hbs : base ≤ w.heap.size) (hnd : (Lp.bls ds).Nodup) (hn : ds.length ≤ 1000) (k0 : 0 ≤ k) (k1 : k ≤ 1000000) :
    Calls Tryz.prog 15 #[.agg #[.int .i64 x, .int .i64 y, v], .int .i64 k] w fun e w' => e = .returned (.int .i64 (Lm.qk ds k ds.length)) ∧ Lm.Rn w' base v (Lm.mkCs ds k) ∧ Below base w w' ∧ Lm.Kx w w' := by
  obtain ⟨xa, xc, hv⟩ := h.shape
  obtain ⟨w0, hw0⟩ : ∃ w0, w0 = w.alloc (.cells #[.int .i64 x, .int .i64 y, v] 26) := ⟨_, rfl⟩
  have B0 : Below w.heap.size w w0 := by rw [hw0]; exact (Below.refl _ _).alloc (Nat.le_refl _) _
  have HC := hide (markCoreS_rn v base ds k w0 (h.below B0) (Nat.le_trans hbs B0.size) hnd hn k0 k1)
  obtain ⟨Q, hQ⟩ : ∃ Q, Q = Lm.qk ds k ds.length := ⟨_, rfl⟩
  rw [← hQ] at HC ⊢
  clear h hQ
  subst hv
  go_enter Tryz.func15, Tryz.ntmps15
  go_wp2_with fail
  rw [← hw0]
  clear hw0
  refine (unhide HC).mono ?_
  rintro e w1 ⟨rfl, hr1, hb1, hx1⟩
  have HR1 := hide hr1
  have HX1 := hide ((Lm.Kx.below B0).trans hx1)
  have B1 : Below base w w1 := (B0.mono hbs).trans hb1
  clear hr1 hb1 hx1 HC
  go_wp2_with fail
  go_ret
  exact ⟨rfl, unhide HR1, B1, unhide HX1⟩

set_option maxHeartbeats 1000000 in
theorem heldPassResult_rn (x y : Int) (v : Value) (base : Nat) (ds : List (Co × Value)) (k : Int) (w : World) (h : Lm.Rn w base v (Lm.mkCs ds k)) (hn : ds.length ≤ 1000) (hl : ∀ i, i < ds.length → (ds.getD i Lm.z).1.val.length ≤ 1048576) (k0 : 0 ≤ k) (k1 : k ≤ 1000000) :
    Calls Tryz.prog 16 #[.agg #[.int .i64 x, .int .i64 y, v], .int .i64 k] w fun e w' => e = .returned (.int .i64 (Lm.qk ds k ds.length)) ∧ Below w.heap.size w w' := by
  obtain ⟨xa, xc, hv⟩ := h.shape
  obtain ⟨w0, hw0⟩ : ∃ w0, w0 = w.alloc (.cells #[.int .i64 x, .int .i64 y, v] 26) := ⟨_, rfl⟩
  have B0 : Below w.heap.size w w0 := by rw [hw0]; exact (Below.refl _ _).alloc (Nat.le_refl _) _
  have HC := hide (heldCoreS_rn v base ds k w0 (h.below B0) hn hl k0 k1)
  have hq0 := (Lm.qk_bounds ds k k0 hl ds.length (Nat.le_refl _)).1
  obtain ⟨Q, hQ⟩ : ∃ Q, Q = Lm.qk ds k ds.length := ⟨_, rfl⟩
  rw [← hQ] at HC hq0 ⊢
  have hq1 : ¬ Q < 0 := by omega
  clear h hQ hl
  subst hv
  go_enter Tryz.func16, Tryz.ntmps16
  go_wp2_with fail
  rw [← hw0]
  clear hw0
  refine (unhide HC).mono ?_
  rintro e w1 ⟨rfl, hb1⟩
  have B1 : Below w.heap.size w w1 := B0.trans (hb1.mono B0.size)
  clear hb1 HC
  go_wp2_with fail
  go_ret
  exact ⟨rfl, B1⟩

end Go.Proofs.YtbaanpgbfncdnaaGreat

namespace Go.Proofs.YtbaanpgbfncdnaaGreat
open Go.RowKit
set_option linter.unusedVariables false
set_option linter.unusedSimpArgs false

namespace Ste
/-- The list v holds the tree s by itself. -/
def Pt (w : World) (v : Value) (s : Ste) : Prop := ∃ ds, Lm.Rn w 0 v ds ∧ ds.map Prod.fst = lay 0 s
theorem Pt.keep {w w' : World} {v : Value} {s : Ste} (h : Pt w v s) (hk : ∀ (k : Nat) (c : Array Value) (t : TypeId), w.heap[k]? = some (Obj.cells c t (0, 0)) → t = 47 ∨ t = 71 → w'.heap[k]? = w.heap[k]?) : Pt w' v s := by
  obtain ⟨ds, h1, h2⟩ := h
  exact ⟨ds, h1.keep (fun k c t a b _ => hk k c t a b), h2⟩
theorem Pt.below {w w' : World} {v : Value} {s : Ste} (h : Pt w v s) (hb : Below w.heap.size w w') : Pt w' v s := by
  obtain ⟨ds, h1, h2⟩ := h
  exact ⟨ds, h1.below hb, h2⟩
/-- A node's six words. -/
def six (h : Hd) (a b c : Int) (vv : Value) : List Value := [.int .i64 h.op, .int .i64 a, .int .i64 b, .int .i64 c, .int .i64 h.num, vv]
theorem Pt.view {w : World} {v : Value} {s : Ste} (h : Pt w v s) : ∃ g cap a b c vv, v = .slice (some ⟨g, 0, none⟩) (sz s) cap ∧ sz s ≤ cap ∧ g < w.heap.size ∧ (∀ j, j < 6 → w.cell? ⟨g, (sz s - 1) * 6 + j, none⟩ = (six s.hd a b c vv)[j]?) ∧ Res w 0 vv s.hd.val := by
  obtain ⟨ds, h1, h2⟩ := h
  have hlen : ds.length = sz s := by have := congrArg List.length h2; rw [List.length_map, lay_len] at this; exact this
  have hp := sz_pos s
  rcases h1 with ⟨_, rfl⟩ | ⟨g, cap, xs, e1, _, hc, ho, hn, hr⟩
  · simp at hlen; omega
  · have hi : sz s - 1 < ds.length := by omega
    have hfst : (ds.getD (sz s - 1) Lm.z).1 = nodeC s.hd (endAt 0 s.ks 0) (endAt 0 s.ks 1) (endAt 0 s.ks 2) := by
      have : (ds.map Prod.fst)[sz s - 1]? = (lay 0 s)[sz s - 1]? := by rw [h2]
      rw [lay_eq, List.getElem?_append_right (by rw [← Nat.lt_succ_iff, Nat.succ_eq_add_one]; have := lay_len s 0; rw [lay_eq] at this; simp at this; omega)] at this
      have hL : (layL 0 s.ks).length = sz s - 1 := by have := lay_len s 0; rw [lay_eq] at this; simp at this; omega
      rw [hL, Nat.sub_self, List.getElem?_map] at this
      rw [List.getD_eq_getElem?_getD]
      rw [List.getElem?_eq_getElem hi] at this ⊢
      simpa using this
    have q := hn.2 _ hi
    have r := hr _ hi
    rw [hfst] at q r
    obtain ⟨q0, q1, q2, q3, q4, q5⟩ := q
    refine ⟨g, cap, endAt 0 s.ks 0, endAt 0 s.ks 1, endAt 0 s.ks 2, (ds.getD (sz s - 1) Lm.z).2, by rw [e1, hlen], by omega, ho.lt, fun j hj => ?_, r⟩
    rw [ho.cell]
    have : j = 0 ∨ j = 1 ∨ j = 2 ∨ j = 3 ∨ j = 4 ∨ j = 5 := by omega
    rcases this with rfl | rfl | rfl | rfl | rfl | rfl
    · exact q0
    · exact q1
    · exact q2
    · exact q3
    · exact q4
    · exact q5
theorem six_co {w : World} {b : Nat} {x0 x1 x2 x3 x4 x5 : Value} (h : Own w b 47 [x0, x1, x2, x3, x4, x5]) : w.cell? ⟨b, 0, none⟩ = some x0 ∧ w.cell? ⟨b, 1, none⟩ = some x1 ∧ w.cell? ⟨b, 2, none⟩ = some x2 ∧ w.cell? ⟨b, 3, none⟩ = some x3 ∧ w.cell? ⟨b, 4, none⟩ = some x4 ∧ w.cell? ⟨b, 5, none⟩ = some x5 := ⟨h.cell 0, h.cell 1, h.cell 2, h.cell 3, h.cell 4, h.cell 5⟩
/-- What the last node of a part is, as it is answered. -/
def Tops (w : World) (s : Ste) (e : Ending) (w' : World) : Prop := ∃ a b c xa xn xc, e = .returned (.agg #[.int .i64 s.hd.op, .int .i64 a, .int .i64 b, .int .i64 c, .int .i64 s.hd.num, .slice xa xn xc]) ∧ Res w' 0 (.slice xa xn xc) s.hd.val ∧ Below w.heap.size w w'
end Ste
set_option maxRecDepth 100000 in
set_option maxHeartbeats 4000000 in
theorem specl10Top_any (v : Value) (s : Ste) (w : World) (h : Ste.Pt w v s) (hsz : Ste.sz s ≤ 1048576) :
    Calls Tryz.prog 127 #[v] w (Ste.Tops w s) := by
  obtain ⟨g, cap, a, b, c, vv, rfl, hcap, hg, hc, hres⟩ := h.view
  have hp := Ste.sz_pos s
  obtain ⟨w0, hw0⟩ : ∃ w0, w0 = w.alloc (.cells #[.int .i64 0, .int .i64 0, .int .i64 0, .int .i64 0, .int .i64 0, .slice none 0 0] 47) := ⟨_, rfl⟩
  have B0 : Below w.heap.size w w0 := by rw [hw0]; exact (Below.refl _ _).alloc (Nat.le_refl _) _
  have O0 : Own w0 w.heap.size 47 [.int .i64 0, .int .i64 0, .int .i64 0, .int .i64 0, .int .i64 0, .slice none 0 0] := by rw [hw0]; exact ⟨_, heap_alloc_new _ _, rfl⟩
  obtain ⟨m, hm⟩ : ∃ m, Ste.sz s = m + 1 := ⟨Ste.sz s - 1, by omega⟩
  rw [hm] at hc
  simp only [Nat.add_sub_cancel] at hc
  have k : ∀ j, j < 6 → w0.cell? ⟨g, m * 6 + j, none⟩ = (Ste.six s.hd a b c vv)[j]? := fun j hj => by
    have : w0.cell? ⟨g, m * 6 + j, none⟩ = w.cell? ⟨g, m * 6 + j, none⟩ := by simp only [World.cell?, B0.block g hg]
    rw [this]; exact hc j hj
  have k0 : w0.cell? ⟨g, m * 6, none⟩ = some (.int .i64 s.hd.op) := k 0 (by omega)
  have k1 : w0.cell? ⟨g, m * 6 + 1, none⟩ = some (.int .i64 a) := k 1 (by omega)
  have k2 : w0.cell? ⟨g, m * 6 + 2, none⟩ = some (.int .i64 b) := k 2 (by omega)
  have k3 : w0.cell? ⟨g, m * 6 + 3, none⟩ = some (.int .i64 c) := k 3 (by omega)
  have k4 : w0.cell? ⟨g, m * 6 + 4, none⟩ = some (.int .i64 s.hd.num) := k 4 (by omega)
  have k5 : w0.cell? ⟨g, m * 6 + 5, none⟩ = some vv := k 5 (by omega)
  obtain ⟨va, vn, vc, hvv⟩ := hres.shape
  subst hvv
  have HRS := hide hres
  obtain ⟨c0, c1, c2, c3, c4, c5⟩ := Ste.six_co O0
  have z0 := O0.frozen 0
  have z1 := O0.frozen 1
  have z2 := O0.frozen 2
  have z3 := O0.frozen 3
  have z4 := O0.frozen 4
  have z5 := O0.frozen 5
  have O9 := hide (((((((O0.set 0 (.int .i64 s.hd.op)).set 1 (.int .i64 a)).set 2 (.int .i64 b)).set 3 (.int .i64 c)).set 4 (.int .i64 s.hd.num)).set 5 (.slice va vn vc)))
  have B9 := hide (show Below w.heap.size w ((((((w0.setCell ⟨w.heap.size, 0, none⟩ (.int .i64 s.hd.op)).setCell ⟨w.heap.size, 1, none⟩ (.int .i64 a)).setCell ⟨w.heap.size, 2, none⟩ (.int .i64 b)).setCell ⟨w.heap.size, 3, none⟩ (.int .i64 c)).setCell ⟨w.heap.size, 4, none⟩ (.int .i64 s.hd.num)).setCell ⟨w.heap.size, 5, none⟩ (.slice va vn vc)) from ((((((B0.setCell (Nat.le_refl _) _).setCell (Nat.le_refl _) _).setCell (Nat.le_refl _) _).setCell (Nat.le_refl _) _).setCell (Nat.le_refl _) _).setCell (Nat.le_refl _) _))
  have e1 : ((m + 1 : Nat) : Int) - 1 = (m : Int) := by omega
  have e2 : (m : Int) < ((m + 1 : Nat) : Int) := by omega
  have e3 : (0 : Int) ≤ (m : Int) := by omega
  rw [hm] at hsz hcap ⊢
  clear hc k hres B0 O0 hm hp
  go_enter Tryz.func127, Tryz.ntmps127
  go_upto_region 1 with fail
  rw [← hw0]
  clear hw0
  go_wp2_with fail
  obtain ⟨q0, q1, q2, q3, q4, q5⟩ := Ste.six_co (x0 := .int .i64 s.hd.op) (x1 := .int .i64 a) (x2 := .int .i64 b) (x3 := .int .i64 c) (x4 := .int .i64 s.hd.num) (x5 := .slice va vn vc) (unhide O9)
  have B8 := unhide B9
  clear c0 c1 c2 c3 c4 c5 z0 z1 z2 z3 z4 z5 O9 B9
  generalize ((((((w0.setCell ⟨w.heap.size, 0, none⟩ (.int .i64 s.hd.op)).setCell ⟨w.heap.size, 1, none⟩ (.int .i64 a)).setCell ⟨w.heap.size, 2, none⟩ (.int .i64 b)).setCell ⟨w.heap.size, 3, none⟩ (.int .i64 c)).setCell ⟨w.heap.size, 4, none⟩ (.int .i64 s.hd.num)).setCell ⟨w.heap.size, 5, none⟩ (.slice va vn vc)) = WW at *
  refine bodyPost_ret (v := .agg #[.int .i64 s.hd.op, .int .i64 a, .int .i64 b, .int .i64 c, .int .i64 s.hd.num, .slice va vn vc]) (by simp [results, Tryz.results127, go_sem, q0, q1, q2, q3, q4, q5]; try rfl) rfl ?_
  exact ⟨a, b, c, _, _, _, rfl, (unhide HRS).below B8, B8⟩

end Go.Proofs.YtbaanpgbfncdnaaGreat

namespace Go.Proofs.YtbaanpgbfncdnaaGreat
open Go.RowKit
set_option linter.unusedVariables false
set_option linter.unusedSimpArgs false
namespace Lm
theorem Rn.mono {w : World} {base base' : Nat} {v : Value} {ds : List (Co × Value)} (h : Rn w base v ds) (hb : base' ≤ base) : Rn w base' v ds := by
  rcases h with h | ⟨g, cap, xs, h1, hg, hc, ho, hn, hr⟩
  · exact .inl h
  · exact .inr ⟨g, cap, xs, h1, by omega, hc, ho, hn, fun i hi => (hr i hi).mono hb⟩
theorem Rn.len {w : World} {base : Nat} {v : Value} {ds : List (Co × Value)} (h : Rn w base v ds) : ∀ i, i < ds.length → (ds.getD i z).1.val.length ≤ 1048576 := by
  rcases h with ⟨_, rfl⟩ | ⟨g, cap, xs, h1, hg, hc, ho, hn, hr⟩
  · intro i hi; simp at hi
  · intro i hi; exact (hr i hi).1
end Lm
namespace Ste
theorem pOut_len (l : List Co) (p : Int) : (pOut l [p]).2.2.length ≤ 900 := by
  unfold pOut
  split
  · rename_i h
    obtain ⟨hf, _, _⟩ := pFault_parts h
    obtain ⟨hok, hs, _, h9, _⟩ := tre_whole hf
    have := (pAt_ok [p] _ hok [p].length).2.1
    show (lay 0 _).length ≤ 900
    rw [lay_len]
    omega
  · simp
end Ste
end Go.Proofs.YtbaanpgbfncdnaaGreat
