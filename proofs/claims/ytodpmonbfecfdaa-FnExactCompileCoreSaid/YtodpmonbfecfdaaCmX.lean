/-
  spec.l8Node, op by op.
  spec.l8Node, op by op: the ops that call a helper.
  spec.l8Node at every place of a core without fault.
-/
import Derived.Test.YtodpmonbfecfdaaCmU
namespace Go.Proofs.Ytodpmonbfecfdaa
open Go.RowKit
set_option linter.unusedVariables false
set_option linter.unusedSimpArgs false


namespace Cm
theorem regs_get {w : World} {base g n cap : Nat} {rs : List Int} (h : w.ownsRow base 2 1 (.slice (some ⟨g, 0, none⟩) n cap) rs.length (rs.map (Value.int .i64))) {k : Nat} (hk : k < rs.length) : w.cell? ⟨g, k, none⟩ = some (.int .i64 (rs.getD k 0)) := by
  have h' : w.ownsRow base 2 1 (.slice (some ⟨g, 0, none⟩) n cap) (rs.map (Value.int .i64)).length (rs.map (Value.int .i64)) := by rw [List.length_map]; exact h
  obtain ⟨g', cap', e, _, _, _, hc, _⟩ := regs_at h' (k := k) (by rw [List.length_map]; exact hk)
  injection e with e1 e2 e3
  injection e1 with e1
  injection e1 with e1 _ _
  subst e1
  rw [hc, List.getElem?_map, List.getElem?_eq_getElem hk, List.getD_eq_getElem?_getD, List.getElem?_eq_getElem hk]
  rfl
theorem regs_shape {w : World} {base : Nat} {v : Value} {rs : List Int} (h : w.ownsRow base 2 1 v rs.length (rs.map (Value.int .i64))) (h0 : 0 < rs.length) : ∃ g cap, v = .slice (some ⟨g, 0, none⟩) rs.length cap := by
  obtain ⟨_, ⟨_, h3⟩ | ⟨g, cap, cur, h4, _⟩⟩ := h
  · omega
  · exact ⟨g, cap, h4⟩
theorem node_at {w0 w : World} {cb i : Nat} {l : List Co} (hrow : Co.Row w0 cb l) (hB0 : Below w0.heap.size w0 w) (hcb : cb < w0.heap.size) (hi : i < l.length) {c : Co} (hn : l.getD i Co.zero = c) : ∃ g, w.cell? ⟨cb, i * 6, none⟩ = some (.int .i64 c.op) ∧ w.cell? ⟨cb, i * 6 + 1, none⟩ = some (.int .i64 c.a) ∧ w.cell? ⟨cb, i * 6 + 2, none⟩ = some (.int .i64 c.b) ∧ w.cell? ⟨cb, i * 6 + 3, none⟩ = some (.int .i64 c.c) ∧ w.cell? ⟨cb, i * 6 + 4, none⟩ = some (.int .i64 c.num) ∧ w.cell? ⟨cb, i * 6 + 5, none⟩ = some (.slice (some ⟨g, 0, none⟩) c.val.length c.val.length) ∧ g < w0.heap.size ∧ _root_.Go.Proofs.Ytodpmonbfecfdaa.Row w0 g 0 c.val := by
  obtain ⟨h0, h1, h2, h3, h4, g, h5, hg, hr⟩ := hrow i hi
  rw [hn] at h0 h1 h2 h3 h4 h5 hr
  exact ⟨g, (hB0.cell (by exact hcb)).trans h0, (hB0.cell (by exact hcb)).trans h1, (hB0.cell (by exact hcb)).trans h2, (hB0.cell (by exact hcb)).trans h3, (hB0.cell (by exact hcb)).trans h4, (hB0.cell (by exact hcb)).trans h5, hg, hr⟩
theorem pair_bd {rec : Rec} {na nb : Nat} {a b : Int} (ha : ∀ rs s, Up na s (rec a rs s)) (hb : ∀ rs s, Up nb s (rec b rs s)) (rs : List Int) (s : St) : s.len ≤ (pair rec a b rs s).len ∧ (pair rec a b rs s).len ≤ s.len + 2 + 14 * (na + nb) ∧ s.regs ≤ (pair rec a b rs s).regs ∧ (pair rec a b rs s).regs ≤ s.regs + 2 * ((na : Int) + nb) := by
  have h := ((((UpN.refl s).put 1 0).go (ha rs _)).put 4 0).go (hb rs _)
  obtain ⟨h1, h2, h3, h4⟩ := h
  unfold pair
  exact ⟨h1, by omega, h3, by omega⟩
end Cm

set_option maxRecDepth 100000 in
set_option maxHeartbeats 4000000 in
theorem l8Node_1 (w0 : World) (pb : Nat) (cv : Value) (rec : Cm.Rec) (na nb nc : Nat) (rs : List Int) (rv : Value) (rb : Nat) (s : Cm.St) (w : World) (hsp : ∃ v cs, Cm.Sp 41 w pb cv [] s v cs) (hp : w0.heap.size ≤ pb) (hB0 : Below w0.heap.size w0 w) (hrg : w.ownsRow rb 2 1 rv rs.length (rs.map (Value.int .i64))) (h60 : rs.length = 60) (hlen : s.len + 14 * (1 + na + nb + nc) ≤ 20000) (h0 : 0 ≤ s.regs) (hreg : s.regs + 2 * (1 + (na : Int) + nb + nc) ≤ 20000) (cb : Nat) (l : List Co) (i : Nat) (hcv : cv = .slice (some ⟨cb, 0, none⟩) l.length l.length) (hrow : Co.Row w0 cb l) (hcb : cb < w0.heap.size) (hi : i < l.length) (hl9 : l.length ≤ 900) (a b c3 : Int) (num : Int) (val : List M.Cl) (hn : l.getD i Co.zero = ⟨1, a, b, c3, num, val⟩) :
    Calls Try.prog 15 #[.pointer (some ⟨pb, 0, none⟩), .int .i64 (i : Int), rv] w fun e w' => e = .returned (.tuple #[]) ∧ Cm.Lg 41 pb cv [] w (Cm.one rec ⟨1, a, b, c3, num, val⟩ rs s) w' := by
  obtain ⟨t0, q0⟩ : ∃ t, s = t := ⟨_, rfl⟩
  obtain ⟨rg, rcap, rfl⟩ := Cm.regs_shape hrg (by omega)
  obtain ⟨g', f0, f1, f2, f3, f4, f5, hg, hr⟩ := Cm.node_at hrow hB0 hcb hi hn
  dsimp only at f0 f1 f2 f3 f4 f5 hr
  obtain ⟨wS, hwS⟩ : ∃ wS, w.alloc (.cells #[.int .i64 1, .int .i64 a, .int .i64 b, .int .i64 c3, .int .i64 num, .slice (some ⟨g', 0, none⟩) val.length val.length] 48) = wS := ⟨_, rfl⟩
  have BS : Below w.heap.size w wS := by rw [← hwS]; exact (Below.refl _ _).alloc (Nat.le_refl _) _
  have X0 : Own wS w.heap.size 48 [.int .i64 1, .int .i64 a, .int .i64 b, .int .i64 c3, .int .i64 num, .slice (some ⟨g', 0, none⟩) val.length val.length] := by rw [← hwS]; exact ⟨_, heap_alloc_new _ _, rfl⟩
  have LW : Cm.Lg 41 pb cv [] w s w := Cm.Lg.start hsp
  have hsp1 := hsp
  obtain ⟨v1, cs1, hS1⟩ := hsp1
  have p0 := hS1.own.cell 0
  clear hS1 cs1
  rw [hcv] at p0
  simp only [List.cons_append, List.getElem?_cons_zero] at p0
  have HAH := hide (LW.below BS)
  have L0 : Cm.Lg 41 pb cv [] wS t0 wS := by rw [← q0]; exact Cm.Lg.start (LW.below BS).1
  have HBS : Below w0.heap.size w0 wS := hB0.trans (BS.mono hB0.size)
  have HRS := Tr.owns_below hrg BS
  have hiI : (i : Int) < (l.length : Int) := by omega
  rw [q0] at hlen h0 hreg
  have HF := hide (show t0 = Cm.one rec ⟨1, a, b, c3, num, val⟩ rs t0 by rfl)
  have FIN := hide (fun (W : World) (L : Cm.Lg 41 pb cv [] wS t0 W) => show Cm.Lg 41 pb cv [] w (Cm.one rec ⟨1, a, b, c3, num, val⟩ rs s) W by subst q0; exact (unhide HAH).go L)
  clear hsp hp hB0 hrg HBS LW BS HF hlen h0 hreg hrow hn hr hg hcv hcb hi HRS h60
  clear q0
  go_enter Try.func15, Try.ntmps15
  have y0_0 := (L0.own X0 (by decide)).cell 0
  simp only [List.getElem?_cons_zero, List.getElem?_cons_succ] at y0_0
  go_wp2_with fail
  go_end0
  exact ⟨rfl, (unhide FIN) _ L0⟩

set_option maxRecDepth 100000 in
set_option maxHeartbeats 4000000 in
theorem l8Node_2 (w0 : World) (pb : Nat) (cv : Value) (rec : Cm.Rec) (na nb nc : Nat) (rs : List Int) (rv : Value) (rb : Nat) (s : Cm.St) (w : World) (hsp : ∃ v cs, Cm.Sp 41 w pb cv [] s v cs) (hp : w0.heap.size ≤ pb) (hB0 : Below w0.heap.size w0 w) (hrg : w.ownsRow rb 2 1 rv rs.length (rs.map (Value.int .i64))) (h60 : rs.length = 60) (hlen : s.len + 14 * (1 + na + nb + nc) ≤ 20000) (h0 : 0 ≤ s.regs) (hreg : s.regs + 2 * (1 + (na : Int) + nb + nc) ≤ 20000) (cb : Nat) (l : List Co) (i : Nat) (hcv : cv = .slice (some ⟨cb, 0, none⟩) l.length l.length) (hrow : Co.Row w0 cb l) (hcb : cb < w0.heap.size) (hi : i < l.length) (hl9 : l.length ≤ 900) (a b c3 : Int) (num : Int) (val : List M.Cl) (hn : l.getD i Co.zero = ⟨2, a, b, c3, num, val⟩) (hval : val.length ≤ 100000) :
    Calls Try.prog 15 #[.pointer (some ⟨pb, 0, none⟩), .int .i64 (i : Int), rv] w fun e w' => e = .returned (.tuple #[]) ∧ Cm.Lg 41 pb cv [] w (Cm.one rec ⟨2, a, b, c3, num, val⟩ rs s) w' := by
  obtain ⟨t0, q0⟩ : ∃ t, s = t := ⟨_, rfl⟩
  obtain ⟨rg, rcap, rfl⟩ := Cm.regs_shape hrg (by omega)
  obtain ⟨g', f0, f1, f2, f3, f4, f5, hg, hr⟩ := Cm.node_at hrow hB0 hcb hi hn
  dsimp only at f0 f1 f2 f3 f4 f5 hr
  obtain ⟨wS, hwS⟩ : ∃ wS, w.alloc (.cells #[.int .i64 2, .int .i64 a, .int .i64 b, .int .i64 c3, .int .i64 num, .slice (some ⟨g', 0, none⟩) val.length val.length] 48) = wS := ⟨_, rfl⟩
  have BS : Below w.heap.size w wS := by rw [← hwS]; exact (Below.refl _ _).alloc (Nat.le_refl _) _
  have X0 : Own wS w.heap.size 48 [.int .i64 2, .int .i64 a, .int .i64 b, .int .i64 c3, .int .i64 num, .slice (some ⟨g', 0, none⟩) val.length val.length] := by rw [← hwS]; exact ⟨_, heap_alloc_new _ _, rfl⟩
  have LW : Cm.Lg 41 pb cv [] w s w := Cm.Lg.start hsp
  have hsp1 := hsp
  obtain ⟨v1, cs1, hS1⟩ := hsp1
  have p0 := hS1.own.cell 0
  clear hS1 cs1
  rw [hcv] at p0
  simp only [List.cons_append, List.getElem?_cons_zero] at p0
  have HAH := hide (LW.below BS)
  have L0 : Cm.Lg 41 pb cv [] wS t0 wS := by rw [← q0]; exact Cm.Lg.start (LW.below BS).1
  have HBS : Below w0.heap.size w0 wS := hB0.trans (BS.mono hB0.size)
  have HRS := Tr.owns_below hrg BS
  have hiI : (i : Int) < (l.length : Int) := by omega
  rw [q0] at hlen h0 hreg
  obtain ⟨t1, q1⟩ : ∃ t, t0.put 2 0 = t := ⟨_, rfl⟩
  have n1 := Cm.put_len t0 2 0
  have r1 := Cm.put_regs t0 2 0
  rw [q1] at n1 r1
  have C0 := hide (fun (W : World) (L : Cm.Lg 41 pb cv [] wS t0 W) => Cm.put_lg 2 0 L (by omega) q1)
  obtain ⟨t2, q2⟩ : ∃ t, t1.val 3 val = t := ⟨_, rfl⟩
  have n2 := Cm.val_len t1 3 val
  have r2 := Cm.val_regs t1 3 val
  rw [q2] at n2 r2
  have C1 := hide (fun (W : World) (L : Cm.Lg 41 pb cv [] wS t1 W) => Cm.val_lg 3 g' 0 val.length val L (by omega) (hr.below (L.since hp HBS) hg) (Nat.lt_of_lt_of_le hg (L.since hp HBS).size) hval q2)
  have HF := hide (show t2 = Cm.one rec ⟨2, a, b, c3, num, val⟩ rs t0 by rw [← q2, ← q1]; rfl)
  clear q1 q2
  clear n1 r1 n2 r2
  rw [← q0] at HF
  have FIN := hide (fun (W : World) (L : Cm.Lg 41 pb cv [] wS t2 W) => show Cm.Lg 41 pb cv [] w (Cm.one rec ⟨2, a, b, c3, num, val⟩ rs s) W from (unhide HF) ▸ ((unhide HAH).go L))
  clear hsp hp hB0 hrg HBS LW BS HF hlen h0 hreg hrow hn hr hg hcv hcb hi HRS h60
  clear q0
  go_enter Try.func15, Try.ntmps15
  have y0_0 := (L0.own X0 (by decide)).cell 0
  simp only [List.getElem?_cons_zero, List.getElem?_cons_succ] at y0_0
  go_wp2_with fail
  try rw [hwS]
  clear hwS f0 f1 f2 f3 f4 f5 p0
  refine ((unhide C0) _ L0).mono ?_
  rintro e w1 ⟨rfl, L1⟩
  have y1_5 := (L1.own X0 (by decide)).cell 5
  simp only [List.getElem?_cons_zero, List.getElem?_cons_succ] at y1_5
  go_wp2_with fail
  refine ((unhide C1) _ L1).mono ?_
  rintro e w2 ⟨rfl, L2⟩
  go_wp2_with fail
  go_end0
  exact ⟨rfl, (unhide FIN) _ L2⟩

set_option maxRecDepth 100000 in
set_option maxHeartbeats 4000000 in
theorem l8Node_17 (w0 : World) (pb : Nat) (cv : Value) (rec : Cm.Rec) (na nb nc : Nat) (rs : List Int) (rv : Value) (rb : Nat) (s : Cm.St) (w : World) (hsp : ∃ v cs, Cm.Sp 41 w pb cv [] s v cs) (hp : w0.heap.size ≤ pb) (hB0 : Below w0.heap.size w0 w) (hrg : w.ownsRow rb 2 1 rv rs.length (rs.map (Value.int .i64))) (h60 : rs.length = 60) (hlen : s.len + 14 * (1 + na + nb + nc) ≤ 20000) (h0 : 0 ≤ s.regs) (hreg : s.regs + 2 * (1 + (na : Int) + nb + nc) ≤ 20000) (cb : Nat) (l : List Co) (i : Nat) (hcv : cv = .slice (some ⟨cb, 0, none⟩) l.length l.length) (hrow : Co.Row w0 cb l) (hcb : cb < w0.heap.size) (hi : i < l.length) (hl9 : l.length ≤ 900) (a b c3 : Int) (num : Int) (val : List M.Cl) (hn : l.getD i Co.zero = ⟨17, a, b, c3, num, val⟩) :
    Calls Try.prog 15 #[.pointer (some ⟨pb, 0, none⟩), .int .i64 (i : Int), rv] w fun e w' => e = .returned (.tuple #[]) ∧ Cm.Lg 41 pb cv [] w (Cm.one rec ⟨17, a, b, c3, num, val⟩ rs s) w' := by
  obtain ⟨t0, q0⟩ : ∃ t, s = t := ⟨_, rfl⟩
  obtain ⟨rg, rcap, rfl⟩ := Cm.regs_shape hrg (by omega)
  obtain ⟨g', f0, f1, f2, f3, f4, f5, hg, hr⟩ := Cm.node_at hrow hB0 hcb hi hn
  dsimp only at f0 f1 f2 f3 f4 f5 hr
  obtain ⟨wS, hwS⟩ : ∃ wS, w.alloc (.cells #[.int .i64 17, .int .i64 a, .int .i64 b, .int .i64 c3, .int .i64 num, .slice (some ⟨g', 0, none⟩) val.length val.length] 48) = wS := ⟨_, rfl⟩
  have BS : Below w.heap.size w wS := by rw [← hwS]; exact (Below.refl _ _).alloc (Nat.le_refl _) _
  have X0 : Own wS w.heap.size 48 [.int .i64 17, .int .i64 a, .int .i64 b, .int .i64 c3, .int .i64 num, .slice (some ⟨g', 0, none⟩) val.length val.length] := by rw [← hwS]; exact ⟨_, heap_alloc_new _ _, rfl⟩
  have LW : Cm.Lg 41 pb cv [] w s w := Cm.Lg.start hsp
  have hsp1 := hsp
  obtain ⟨v1, cs1, hS1⟩ := hsp1
  have p0 := hS1.own.cell 0
  clear hS1 cs1
  rw [hcv] at p0
  simp only [List.cons_append, List.getElem?_cons_zero] at p0
  have HAH := hide (LW.below BS)
  have L0 : Cm.Lg 41 pb cv [] wS t0 wS := by rw [← q0]; exact Cm.Lg.start (LW.below BS).1
  have HBS : Below w0.heap.size w0 wS := hB0.trans (BS.mono hB0.size)
  have HRS := Tr.owns_below hrg BS
  have hiI : (i : Int) < (l.length : Int) := by omega
  rw [q0] at hlen h0 hreg
  obtain ⟨t1, q1⟩ : ∃ t, t0.put 15 0 = t := ⟨_, rfl⟩
  have n1 := Cm.put_len t0 15 0
  have r1 := Cm.put_regs t0 15 0
  rw [q1] at n1 r1
  have C0 := hide (fun (W : World) (L : Cm.Lg 41 pb cv [] wS t0 W) => Cm.put_lg 15 0 L (by omega) q1)
  have HF := hide (show t1 = Cm.one rec ⟨17, a, b, c3, num, val⟩ rs t0 by rw [← q1]; rfl)
  clear q1
  clear n1 r1
  rw [← q0] at HF
  have FIN := hide (fun (W : World) (L : Cm.Lg 41 pb cv [] wS t1 W) => show Cm.Lg 41 pb cv [] w (Cm.one rec ⟨17, a, b, c3, num, val⟩ rs s) W from (unhide HF) ▸ ((unhide HAH).go L))
  clear hsp hp hB0 hrg HBS LW BS HF hlen h0 hreg hrow hn hr hg hcv hcb hi HRS h60
  clear q0
  go_enter Try.func15, Try.ntmps15
  have y0_0 := (L0.own X0 (by decide)).cell 0
  simp only [List.getElem?_cons_zero, List.getElem?_cons_succ] at y0_0
  go_wp2_with fail
  try rw [hwS]
  clear hwS f0 f1 f2 f3 f4 f5 p0
  refine ((unhide C0) _ L0).mono ?_
  rintro e w1 ⟨rfl, L1⟩
  go_wp2_with fail
  go_end0
  exact ⟨rfl, (unhide FIN) _ L1⟩

set_option maxRecDepth 100000 in
set_option maxHeartbeats 4000000 in
theorem l8Node_16 (w0 : World) (pb : Nat) (cv : Value) (rec : Cm.Rec) (na nb nc : Nat) (rs : List Int) (rv : Value) (rb : Nat) (s : Cm.St) (w : World) (hsp : ∃ v cs, Cm.Sp 41 w pb cv [] s v cs) (hp : w0.heap.size ≤ pb) (hB0 : Below w0.heap.size w0 w) (hrg : w.ownsRow rb 2 1 rv rs.length (rs.map (Value.int .i64))) (h60 : rs.length = 60) (hlen : s.len + 14 * (1 + na + nb + nc) ≤ 20000) (h0 : 0 ≤ s.regs) (hreg : s.regs + 2 * (1 + (na : Int) + nb + nc) ≤ 20000) (cb : Nat) (l : List Co) (i : Nat) (hcv : cv = .slice (some ⟨cb, 0, none⟩) l.length l.length) (hrow : Co.Row w0 cb l) (hcb : cb < w0.heap.size) (hi : i < l.length) (hl9 : l.length ≤ 900) (a b c3 : Int) (num : Int) (val : List M.Cl) (hn : l.getD i Co.zero = ⟨16, a, b, c3, num, val⟩) :
    Calls Try.prog 15 #[.pointer (some ⟨pb, 0, none⟩), .int .i64 (i : Int), rv] w fun e w' => e = .returned (.tuple #[]) ∧ Cm.Lg 41 pb cv [] w (Cm.one rec ⟨16, a, b, c3, num, val⟩ rs s) w' := by
  obtain ⟨t0, q0⟩ : ∃ t, s = t := ⟨_, rfl⟩
  obtain ⟨rg, rcap, rfl⟩ := Cm.regs_shape hrg (by omega)
  obtain ⟨g', f0, f1, f2, f3, f4, f5, hg, hr⟩ := Cm.node_at hrow hB0 hcb hi hn
  dsimp only at f0 f1 f2 f3 f4 f5 hr
  obtain ⟨wS, hwS⟩ : ∃ wS, w.alloc (.cells #[.int .i64 16, .int .i64 a, .int .i64 b, .int .i64 c3, .int .i64 num, .slice (some ⟨g', 0, none⟩) val.length val.length] 48) = wS := ⟨_, rfl⟩
  have BS : Below w.heap.size w wS := by rw [← hwS]; exact (Below.refl _ _).alloc (Nat.le_refl _) _
  have X0 : Own wS w.heap.size 48 [.int .i64 16, .int .i64 a, .int .i64 b, .int .i64 c3, .int .i64 num, .slice (some ⟨g', 0, none⟩) val.length val.length] := by rw [← hwS]; exact ⟨_, heap_alloc_new _ _, rfl⟩
  have LW : Cm.Lg 41 pb cv [] w s w := Cm.Lg.start hsp
  have hsp1 := hsp
  obtain ⟨v1, cs1, hS1⟩ := hsp1
  have p0 := hS1.own.cell 0
  clear hS1 cs1
  rw [hcv] at p0
  simp only [List.cons_append, List.getElem?_cons_zero] at p0
  have HAH := hide (LW.below BS)
  have L0 : Cm.Lg 41 pb cv [] wS t0 wS := by rw [← q0]; exact Cm.Lg.start (LW.below BS).1
  have HBS : Below w0.heap.size w0 wS := hB0.trans (BS.mono hB0.size)
  have HRS := Tr.owns_below hrg BS
  have hiI : (i : Int) < (l.length : Int) := by omega
  rw [q0] at hlen h0 hreg
  obtain ⟨t1, q1⟩ : ∃ t, t0.put 8 num = t := ⟨_, rfl⟩
  have n1 := Cm.put_len t0 8 num
  have r1 := Cm.put_regs t0 8 num
  rw [q1] at n1 r1
  have C0 := hide (fun (W : World) (L : Cm.Lg 41 pb cv [] wS t0 W) => Cm.put_lg 8 num L (by omega) q1)
  have HF := hide (show t1 = Cm.one rec ⟨16, a, b, c3, num, val⟩ rs t0 by rw [← q1]; rfl)
  clear q1
  clear n1 r1
  rw [← q0] at HF
  have FIN := hide (fun (W : World) (L : Cm.Lg 41 pb cv [] wS t1 W) => show Cm.Lg 41 pb cv [] w (Cm.one rec ⟨16, a, b, c3, num, val⟩ rs s) W from (unhide HF) ▸ ((unhide HAH).go L))
  clear hsp hp hB0 hrg HBS LW BS HF hlen h0 hreg hrow hn hr hg hcv hcb hi HRS h60
  clear q0
  go_enter Try.func15, Try.ntmps15
  have y0_0 := (L0.own X0 (by decide)).cell 0
  have y0_4 := (L0.own X0 (by decide)).cell 4
  simp only [List.getElem?_cons_zero, List.getElem?_cons_succ] at y0_0 y0_4
  go_wp2_with fail
  try rw [hwS]
  clear hwS f0 f1 f2 f3 f4 f5 p0
  refine ((unhide C0) _ L0).mono ?_
  rintro e w1 ⟨rfl, L1⟩
  go_wp2_with fail
  go_end0
  exact ⟨rfl, (unhide FIN) _ L1⟩

set_option maxRecDepth 100000 in
set_option maxHeartbeats 4000000 in
theorem l8Node_15 (w0 : World) (pb : Nat) (cv : Value) (rec : Cm.Rec) (na nb nc : Nat) (rs : List Int) (rv : Value) (rb : Nat) (s : Cm.St) (w : World) (hsp : ∃ v cs, Cm.Sp 41 w pb cv [] s v cs) (hp : w0.heap.size ≤ pb) (hB0 : Below w0.heap.size w0 w) (hrg : w.ownsRow rb 2 1 rv rs.length (rs.map (Value.int .i64))) (h60 : rs.length = 60) (hlen : s.len + 14 * (1 + na + nb + nc) ≤ 20000) (h0 : 0 ≤ s.regs) (hreg : s.regs + 2 * (1 + (na : Int) + nb + nc) ≤ 20000) (cb : Nat) (l : List Co) (i : Nat) (hcv : cv = .slice (some ⟨cb, 0, none⟩) l.length l.length) (hrow : Co.Row w0 cb l) (hcb : cb < w0.heap.size) (hi : i < l.length) (hl9 : l.length ≤ 900) (a b c3 : Int) (num : Nat) (val : List M.Cl) (hn : l.getD i Co.zero = ⟨15, a, b, c3, (num : Int), val⟩) (hnum : num < 60) :
    Calls Try.prog 15 #[.pointer (some ⟨pb, 0, none⟩), .int .i64 (i : Int), rv] w fun e w' => e = .returned (.tuple #[]) ∧ Cm.Lg 41 pb cv [] w (Cm.one rec ⟨15, a, b, c3, (num : Int), val⟩ rs s) w' := by
  obtain ⟨t0, q0⟩ : ∃ t, s = t := ⟨_, rfl⟩
  obtain ⟨rg, rcap, rfl⟩ := Cm.regs_shape hrg (by omega)
  obtain ⟨g', f0, f1, f2, f3, f4, f5, hg, hr⟩ := Cm.node_at hrow hB0 hcb hi hn
  dsimp only at f0 f1 f2 f3 f4 f5 hr
  obtain ⟨wS, hwS⟩ : ∃ wS, w.alloc (.cells #[.int .i64 15, .int .i64 a, .int .i64 b, .int .i64 c3, .int .i64 (num : Int), .slice (some ⟨g', 0, none⟩) val.length val.length] 48) = wS := ⟨_, rfl⟩
  have BS : Below w.heap.size w wS := by rw [← hwS]; exact (Below.refl _ _).alloc (Nat.le_refl _) _
  have X0 : Own wS w.heap.size 48 [.int .i64 15, .int .i64 a, .int .i64 b, .int .i64 c3, .int .i64 (num : Int), .slice (some ⟨g', 0, none⟩) val.length val.length] := by rw [← hwS]; exact ⟨_, heap_alloc_new _ _, rfl⟩
  have LW : Cm.Lg 41 pb cv [] w s w := Cm.Lg.start hsp
  have hsp1 := hsp
  obtain ⟨v1, cs1, hS1⟩ := hsp1
  have p0 := hS1.own.cell 0
  clear hS1 cs1
  rw [hcv] at p0
  simp only [List.cons_append, List.getElem?_cons_zero] at p0
  have HAH := hide (LW.below BS)
  have L0 : Cm.Lg 41 pb cv [] wS t0 wS := by rw [← q0]; exact Cm.Lg.start (LW.below BS).1
  have HBS : Below w0.heap.size w0 wS := hB0.trans (BS.mono hB0.size)
  have HRS := Tr.owns_below hrg BS
  have hiI : (i : Int) < (l.length : Int) := by omega
  rw [q0] at hlen h0 hreg
  obtain ⟨t1, q1⟩ : ∃ t, t0.put 2 0 = t := ⟨_, rfl⟩
  have n1 := Cm.put_len t0 2 0
  have r1 := Cm.put_regs t0 2 0
  rw [q1] at n1 r1
  have C0 := hide (fun (W : World) (L : Cm.Lg 41 pb cv [] wS t0 W) => Cm.put_lg 2 0 L (by omega) q1)
  obtain ⟨t2, q2⟩ : ∃ t, t1.put 17 (rs.getD num 0) = t := ⟨_, rfl⟩
  have n2 := Cm.put_len t1 17 (rs.getD num 0)
  have r2 := Cm.put_regs t1 17 (rs.getD num 0)
  rw [q2] at n2 r2
  have C1 := hide (fun (W : World) (L : Cm.Lg 41 pb cv [] wS t1 W) => Cm.put_lg 17 (rs.getD num 0) L (by omega) q2)
  have HF := hide (show t2 = Cm.one rec ⟨15, a, b, c3, (num : Int), val⟩ rs t0 by rw [← q2, ← q1]; rfl)
  clear q1 q2
  clear n1 r1 n2 r2
  rw [← q0] at HF
  have FIN := hide (fun (W : World) (L : Cm.Lg 41 pb cv [] wS t2 W) => show Cm.Lg 41 pb cv [] w (Cm.one rec ⟨15, a, b, c3, (num : Int), val⟩ rs s) W from (unhide HF) ▸ ((unhide HAH).go L))
  clear hsp hp hB0 hrg HBS LW BS HF hlen h0 hreg hrow hn hr hg hcv hcb hi
  clear q0
  go_enter Try.func15, Try.ntmps15
  have y0_0 := (L0.own X0 (by decide)).cell 0
  simp only [List.getElem?_cons_zero, List.getElem?_cons_succ] at y0_0
  go_wp2_with fail
  try rw [hwS]
  clear hwS f0 f1 f2 f3 f4 f5 p0
  refine ((unhide C0) _ L0).mono ?_
  rintro e w1 ⟨rfl, L1⟩
  have y1_4 := (L1.own X0 (by decide)).cell 4
  simp only [List.getElem?_cons_zero, List.getElem?_cons_succ] at y1_4
  have yr := Cm.regs_get (L1.2.regs (by decide) HRS) (k := num) (by omega)
  have hnI : (num : Int) < (rs.length : Int) := by omega
  clear HRS h60
  go_wp2_with fail
  refine ((unhide C1) _ L1).mono ?_
  rintro e w2 ⟨rfl, L2⟩
  go_wp2_with fail
  go_end0
  exact ⟨rfl, (unhide FIN) _ L2⟩

set_option maxRecDepth 100000 in
set_option maxHeartbeats 4000000 in
theorem l8Node_3 (w0 : World) (pb : Nat) (cv : Value) (rec : Cm.Rec) (na nb nc : Nat) (rs : List Int) (rv : Value) (rb : Nat) (s : Cm.St) (w : World) (hsp : ∃ v cs, Cm.Sp 41 w pb cv [] s v cs) (hp : w0.heap.size ≤ pb) (hB0 : Below w0.heap.size w0 w) (hrg : w.ownsRow rb 2 1 rv rs.length (rs.map (Value.int .i64))) (h60 : rs.length = 60) (hlen : s.len + 14 * (1 + na + nb + nc) ≤ 20000) (h0 : 0 ≤ s.regs) (hreg : s.regs + 2 * (1 + (na : Int) + nb + nc) ≤ 20000) (cb : Nat) (l : List Co) (i : Nat) (hcv : cv = .slice (some ⟨cb, 0, none⟩) l.length l.length) (hrow : Co.Row w0 cb l) (hcb : cb < w0.heap.size) (hi : i < l.length) (hl9 : l.length ≤ 900) (a b c3 : Int) (num : Int) (val : List M.Cl) (hn : l.getD i Co.zero = ⟨3, a, b, c3, num, val⟩) (Ha : Cm.Lays w0 pb cv rec na a) (Hb : Cm.Lays w0 pb cv rec nb b) :
    Calls Try.prog 15 #[.pointer (some ⟨pb, 0, none⟩), .int .i64 (i : Int), rv] w fun e w' => e = .returned (.tuple #[]) ∧ Cm.Lg 41 pb cv [] w (Cm.one rec ⟨3, a, b, c3, num, val⟩ rs s) w' := by
  obtain ⟨t0, q0⟩ : ∃ t, s = t := ⟨_, rfl⟩
  obtain ⟨rg, rcap, rfl⟩ := Cm.regs_shape hrg (by omega)
  obtain ⟨g', f0, f1, f2, f3, f4, f5, hg, hr⟩ := Cm.node_at hrow hB0 hcb hi hn
  dsimp only at f0 f1 f2 f3 f4 f5 hr
  obtain ⟨wS, hwS⟩ : ∃ wS, w.alloc (.cells #[.int .i64 3, .int .i64 a, .int .i64 b, .int .i64 c3, .int .i64 num, .slice (some ⟨g', 0, none⟩) val.length val.length] 48) = wS := ⟨_, rfl⟩
  have BS : Below w.heap.size w wS := by rw [← hwS]; exact (Below.refl _ _).alloc (Nat.le_refl _) _
  have X0 : Own wS w.heap.size 48 [.int .i64 3, .int .i64 a, .int .i64 b, .int .i64 c3, .int .i64 num, .slice (some ⟨g', 0, none⟩) val.length val.length] := by rw [← hwS]; exact ⟨_, heap_alloc_new _ _, rfl⟩
  have LW : Cm.Lg 41 pb cv [] w s w := Cm.Lg.start hsp
  have hsp1 := hsp
  obtain ⟨v1, cs1, hS1⟩ := hsp1
  have p0 := hS1.own.cell 0
  clear hS1 cs1
  rw [hcv] at p0
  simp only [List.cons_append, List.getElem?_cons_zero] at p0
  have HAH := hide (LW.below BS)
  have L0 : Cm.Lg 41 pb cv [] wS t0 wS := by rw [← q0]; exact Cm.Lg.start (LW.below BS).1
  have HBS : Below w0.heap.size w0 wS := hB0.trans (BS.mono hB0.size)
  have HRS := Tr.owns_below hrg BS
  have hiI : (i : Int) < (l.length : Int) := by omega
  rw [q0] at hlen h0 hreg
  obtain ⟨t1, q1⟩ : ∃ t, rec a rs t0 = t := ⟨_, rfl⟩
  have n1 := Ha.1 rs t0
  rw [q1] at n1
  obtain ⟨n1, m1, r1, x1⟩ := n1
  have C0 := hide (fun (W : World) (L : Cm.Lg 41 pb cv [] wS t0 W) => Ha.at hp HBS L HRS h60 (by omega) (by omega) (by omega) q1)
  obtain ⟨t2, q2⟩ : ∃ t, rec b rs t1 = t := ⟨_, rfl⟩
  have n2 := Hb.1 rs t1
  rw [q2] at n2
  obtain ⟨n2, m2, r2, x2⟩ := n2
  have C1 := hide (fun (W : World) (L : Cm.Lg 41 pb cv [] wS t1 W) => Hb.at hp HBS L HRS h60 (by omega) (by omega) (by omega) q2)
  have HF := hide (show t2 = Cm.one rec ⟨3, a, b, c3, num, val⟩ rs t0 by rw [← q2, ← q1]; rfl)
  clear q1 q2
  clear n1 r1 m1 x1 n2 r2 m2 x2
  rw [← q0] at HF
  have FIN := hide (fun (W : World) (L : Cm.Lg 41 pb cv [] wS t2 W) => show Cm.Lg 41 pb cv [] w (Cm.one rec ⟨3, a, b, c3, num, val⟩ rs s) W from (unhide HF) ▸ ((unhide HAH).go L))
  clear hsp hp hB0 hrg HBS LW BS HF hlen h0 hreg hrow hn hr hg hcv hcb hi Ha Hb HRS h60
  clear q0
  go_enter Try.func15, Try.ntmps15
  have y0_0 := (L0.own X0 (by decide)).cell 0
  have y0_1 := (L0.own X0 (by decide)).cell 1
  simp only [List.getElem?_cons_zero, List.getElem?_cons_succ] at y0_0 y0_1
  go_wp2_with fail
  try rw [hwS]
  clear hwS f0 f1 f2 f3 f4 f5 p0
  refine ((unhide C0) _ L0).mono ?_
  rintro e w1 ⟨rfl, L1⟩
  have y1_2 := (L1.own X0 (by decide)).cell 2
  simp only [List.getElem?_cons_zero, List.getElem?_cons_succ] at y1_2
  go_wp2_with fail
  refine ((unhide C1) _ L1).mono ?_
  rintro e w2 ⟨rfl, L2⟩
  go_wp2_with fail
  go_end0
  exact ⟨rfl, (unhide FIN) _ L2⟩

set_option maxRecDepth 100000 in
set_option maxHeartbeats 4000000 in
theorem l8Node_8 (w0 : World) (pb : Nat) (cv : Value) (rec : Cm.Rec) (na nb nc : Nat) (rs : List Int) (rv : Value) (rb : Nat) (s : Cm.St) (w : World) (hsp : ∃ v cs, Cm.Sp 41 w pb cv [] s v cs) (hp : w0.heap.size ≤ pb) (hB0 : Below w0.heap.size w0 w) (hrg : w.ownsRow rb 2 1 rv rs.length (rs.map (Value.int .i64))) (h60 : rs.length = 60) (hlen : s.len + 14 * (1 + na + nb + nc) ≤ 20000) (h0 : 0 ≤ s.regs) (hreg : s.regs + 2 * (1 + (na : Int) + nb + nc) ≤ 20000) (cb : Nat) (l : List Co) (i : Nat) (hcv : cv = .slice (some ⟨cb, 0, none⟩) l.length l.length) (hrow : Co.Row w0 cb l) (hcb : cb < w0.heap.size) (hi : i < l.length) (hl9 : l.length ≤ 900) (a b c3 : Int) (num : Int) (val : List M.Cl) (hn : l.getD i Co.zero = ⟨8, a, b, c3, num, val⟩) (Ha : Cm.Lays w0 pb cv rec na a) :
    Calls Try.prog 15 #[.pointer (some ⟨pb, 0, none⟩), .int .i64 (i : Int), rv] w fun e w' => e = .returned (.tuple #[]) ∧ Cm.Lg 41 pb cv [] w (Cm.one rec ⟨8, a, b, c3, num, val⟩ rs s) w' := by
  obtain ⟨t0, q0⟩ : ∃ t, s = t := ⟨_, rfl⟩
  obtain ⟨rg, rcap, rfl⟩ := Cm.regs_shape hrg (by omega)
  obtain ⟨g', f0, f1, f2, f3, f4, f5, hg, hr⟩ := Cm.node_at hrow hB0 hcb hi hn
  dsimp only at f0 f1 f2 f3 f4 f5 hr
  obtain ⟨wS, hwS⟩ : ∃ wS, w.alloc (.cells #[.int .i64 8, .int .i64 a, .int .i64 b, .int .i64 c3, .int .i64 num, .slice (some ⟨g', 0, none⟩) val.length val.length] 48) = wS := ⟨_, rfl⟩
  have BS : Below w.heap.size w wS := by rw [← hwS]; exact (Below.refl _ _).alloc (Nat.le_refl _) _
  have X0 : Own wS w.heap.size 48 [.int .i64 8, .int .i64 a, .int .i64 b, .int .i64 c3, .int .i64 num, .slice (some ⟨g', 0, none⟩) val.length val.length] := by rw [← hwS]; exact ⟨_, heap_alloc_new _ _, rfl⟩
  have LW : Cm.Lg 41 pb cv [] w s w := Cm.Lg.start hsp
  have hsp1 := hsp
  obtain ⟨v1, cs1, hS1⟩ := hsp1
  have p0 := hS1.own.cell 0
  clear hS1 cs1
  rw [hcv] at p0
  simp only [List.cons_append, List.getElem?_cons_zero] at p0
  have HAH := hide (LW.below BS)
  have L0 : Cm.Lg 41 pb cv [] wS t0 wS := by rw [← q0]; exact Cm.Lg.start (LW.below BS).1
  have HBS : Below w0.heap.size w0 wS := hB0.trans (BS.mono hB0.size)
  have HRS := Tr.owns_below hrg BS
  have hiI : (i : Int) < (l.length : Int) := by omega
  rw [q0] at hlen h0 hreg
  obtain ⟨t1, q1⟩ : ∃ t, rec a rs t0 = t := ⟨_, rfl⟩
  have n1 := Ha.1 rs t0
  rw [q1] at n1
  obtain ⟨n1, m1, r1, x1⟩ := n1
  have C0 := hide (fun (W : World) (L : Cm.Lg 41 pb cv [] wS t0 W) => Ha.at hp HBS L HRS h60 (by omega) (by omega) (by omega) q1)
  obtain ⟨t2, q2⟩ : ∃ t, t1.put 7 0 = t := ⟨_, rfl⟩
  have n2 := Cm.put_len t1 7 0
  have r2 := Cm.put_regs t1 7 0
  rw [q2] at n2 r2
  have C1 := hide (fun (W : World) (L : Cm.Lg 41 pb cv [] wS t1 W) => Cm.put_lg 7 0 L (by omega) q2)
  have HF := hide (show t2 = Cm.one rec ⟨8, a, b, c3, num, val⟩ rs t0 by rw [← q2, ← q1]; rfl)
  clear q1 q2
  clear n1 r1 m1 x1 n2 r2
  rw [← q0] at HF
  have FIN := hide (fun (W : World) (L : Cm.Lg 41 pb cv [] wS t2 W) => show Cm.Lg 41 pb cv [] w (Cm.one rec ⟨8, a, b, c3, num, val⟩ rs s) W from (unhide HF) ▸ ((unhide HAH).go L))
  clear hsp hp hB0 hrg HBS LW BS HF hlen h0 hreg hrow hn hr hg hcv hcb hi Ha HRS h60
  clear q0
  go_enter Try.func15, Try.ntmps15
  have y0_0 := (L0.own X0 (by decide)).cell 0
  have y0_1 := (L0.own X0 (by decide)).cell 1
  simp only [List.getElem?_cons_zero, List.getElem?_cons_succ] at y0_0 y0_1
  go_wp2_with fail
  try rw [hwS]
  clear hwS f0 f1 f2 f3 f4 f5 p0
  refine ((unhide C0) _ L0).mono ?_
  rintro e w1 ⟨rfl, L1⟩
  go_wp2_with fail
  refine ((unhide C1) _ L1).mono ?_
  rintro e w2 ⟨rfl, L2⟩
  go_wp2_with fail
  go_end0
  exact ⟨rfl, (unhide FIN) _ L2⟩

set_option maxRecDepth 100000 in
set_option maxHeartbeats 4000000 in
theorem l8Node_9 (w0 : World) (pb : Nat) (cv : Value) (rec : Cm.Rec) (na nb nc : Nat) (rs : List Int) (rv : Value) (rb : Nat) (s : Cm.St) (w : World) (hsp : ∃ v cs, Cm.Sp 41 w pb cv [] s v cs) (hp : w0.heap.size ≤ pb) (hB0 : Below w0.heap.size w0 w) (hrg : w.ownsRow rb 2 1 rv rs.length (rs.map (Value.int .i64))) (h60 : rs.length = 60) (hlen : s.len + 14 * (1 + na + nb + nc) ≤ 20000) (h0 : 0 ≤ s.regs) (hreg : s.regs + 2 * (1 + (na : Int) + nb + nc) ≤ 20000) (cb : Nat) (l : List Co) (i : Nat) (hcv : cv = .slice (some ⟨cb, 0, none⟩) l.length l.length) (hrow : Co.Row w0 cb l) (hcb : cb < w0.heap.size) (hi : i < l.length) (hl9 : l.length ≤ 900) (a b c3 : Int) (num : Int) (val : List M.Cl) (hn : l.getD i Co.zero = ⟨9, a, b, c3, num, val⟩) (Ha : Cm.Lays w0 pb cv rec na a) :
    Calls Try.prog 15 #[.pointer (some ⟨pb, 0, none⟩), .int .i64 (i : Int), rv] w fun e w' => e = .returned (.tuple #[]) ∧ Cm.Lg 41 pb cv [] w (Cm.one rec ⟨9, a, b, c3, num, val⟩ rs s) w' := by
  obtain ⟨t0, q0⟩ : ∃ t, s = t := ⟨_, rfl⟩
  obtain ⟨rg, rcap, rfl⟩ := Cm.regs_shape hrg (by omega)
  obtain ⟨g', f0, f1, f2, f3, f4, f5, hg, hr⟩ := Cm.node_at hrow hB0 hcb hi hn
  dsimp only at f0 f1 f2 f3 f4 f5 hr
  obtain ⟨wS, hwS⟩ : ∃ wS, w.alloc (.cells #[.int .i64 9, .int .i64 a, .int .i64 b, .int .i64 c3, .int .i64 num, .slice (some ⟨g', 0, none⟩) val.length val.length] 48) = wS := ⟨_, rfl⟩
  have BS : Below w.heap.size w wS := by rw [← hwS]; exact (Below.refl _ _).alloc (Nat.le_refl _) _
  have X0 : Own wS w.heap.size 48 [.int .i64 9, .int .i64 a, .int .i64 b, .int .i64 c3, .int .i64 num, .slice (some ⟨g', 0, none⟩) val.length val.length] := by rw [← hwS]; exact ⟨_, heap_alloc_new _ _, rfl⟩
  have LW : Cm.Lg 41 pb cv [] w s w := Cm.Lg.start hsp
  have hsp1 := hsp
  obtain ⟨v1, cs1, hS1⟩ := hsp1
  have p0 := hS1.own.cell 0
  clear hS1 cs1
  rw [hcv] at p0
  simp only [List.cons_append, List.getElem?_cons_zero] at p0
  have HAH := hide (LW.below BS)
  have L0 : Cm.Lg 41 pb cv [] wS t0 wS := by rw [← q0]; exact Cm.Lg.start (LW.below BS).1
  have HBS : Below w0.heap.size w0 wS := hB0.trans (BS.mono hB0.size)
  have HRS := Tr.owns_below hrg BS
  have hiI : (i : Int) < (l.length : Int) := by omega
  rw [q0] at hlen h0 hreg
  obtain ⟨t1, q1⟩ : ∃ t, t0.put 13 0 = t := ⟨_, rfl⟩
  have n1 := Cm.put_len t0 13 0
  have r1 := Cm.put_regs t0 13 0
  rw [q1] at n1 r1
  have C0 := hide (fun (W : World) (L : Cm.Lg 41 pb cv [] wS t0 W) => Cm.put_lg 13 0 L (by omega) q1)
  obtain ⟨t2, q2⟩ : ∃ t, rec a rs t1 = t := ⟨_, rfl⟩
  have n2 := Ha.1 rs t1
  rw [q2] at n2
  obtain ⟨n2, m2, r2, x2⟩ := n2
  have C1 := hide (fun (W : World) (L : Cm.Lg 41 pb cv [] wS t1 W) => Ha.at hp HBS L HRS h60 (by omega) (by omega) (by omega) q2)
  obtain ⟨t3, q3⟩ : ∃ t, t2.here t0.len = t := ⟨_, rfl⟩
  have n3 := Cm.here_len t2 t0.len
  have r3 := Cm.here_regs t2 t0.len
  rw [q3] at n3 r3
  have C2 := hide (fun (W : World) (L : Cm.Lg 41 pb cv [] wS t2 W) => Cm.here_lg t0.len L (by omega) (by omega) q3)
  have HF := hide (show t3 = Cm.one rec ⟨9, a, b, c3, num, val⟩ rs t0 by rw [← q3, ← q2, ← q1]; rfl)
  clear q1 q2 q3
  clear n1 r1 n2 r2 m2 x2 n3 r3
  rw [← q0] at HF
  have FIN := hide (fun (W : World) (L : Cm.Lg 41 pb cv [] wS t3 W) => show Cm.Lg 41 pb cv [] w (Cm.one rec ⟨9, a, b, c3, num, val⟩ rs s) W from (unhide HF) ▸ ((unhide HAH).go L))
  clear hsp hp hB0 hrg HBS LW BS HF hlen h0 hreg hrow hn hr hg hcv hcb hi Ha HRS h60
  clear q0
  go_enter Try.func15, Try.ntmps15
  have y0_0 := (L0.own X0 (by decide)).cell 0
  simp only [List.getElem?_cons_zero, List.getElem?_cons_succ] at y0_0
  go_wp2_with fail
  try rw [hwS]
  clear hwS f0 f1 f2 f3 f4 f5 p0
  refine ((unhide C0) _ L0).mono ?_
  rintro e w1 ⟨rfl, L1⟩
  have y1_1 := (L1.own X0 (by decide)).cell 1
  simp only [List.getElem?_cons_zero, List.getElem?_cons_succ] at y1_1
  go_wp2_with fail
  refine ((unhide C1) _ L1).mono ?_
  rintro e w2 ⟨rfl, L2⟩
  go_wp2_with fail
  refine ((unhide C2) _ L2).mono ?_
  rintro e w3 ⟨rfl, L3⟩
  go_wp2_with fail
  go_end0
  exact ⟨rfl, (unhide FIN) _ L3⟩

set_option maxRecDepth 100000 in
set_option maxHeartbeats 4000000 in
theorem l8Node_14 (w0 : World) (pb : Nat) (cv : Value) (rec : Cm.Rec) (na nb nc : Nat) (rs : List Int) (rv : Value) (rb : Nat) (s : Cm.St) (w : World) (hsp : ∃ v cs, Cm.Sp 41 w pb cv [] s v cs) (hp : w0.heap.size ≤ pb) (hB0 : Below w0.heap.size w0 w) (hrg : w.ownsRow rb 2 1 rv rs.length (rs.map (Value.int .i64))) (h60 : rs.length = 60) (hlen : s.len + 14 * (1 + na + nb + nc) ≤ 20000) (h0 : 0 ≤ s.regs) (hreg : s.regs + 2 * (1 + (na : Int) + nb + nc) ≤ 20000) (cb : Nat) (l : List Co) (i : Nat) (hcv : cv = .slice (some ⟨cb, 0, none⟩) l.length l.length) (hrow : Co.Row w0 cb l) (hcb : cb < w0.heap.size) (hi : i < l.length) (hl9 : l.length ≤ 900) (a b c3 : Int) (num : Nat) (val : List M.Cl) (hn : l.getD i Co.zero = ⟨14, a, b, c3, (num : Int), val⟩) (hnum : num < 60) (Ha : Cm.Lays w0 pb cv rec na a) (Hb : Cm.Lays w0 pb cv rec nb b) :
    Calls Try.prog 15 #[.pointer (some ⟨pb, 0, none⟩), .int .i64 (i : Int), rv] w fun e w' => e = .returned (.tuple #[]) ∧ Cm.Lg 41 pb cv [] w (Cm.one rec ⟨14, a, b, c3, (num : Int), val⟩ rs s) w' := by
  obtain ⟨t0, q0⟩ : ∃ t, s = t := ⟨_, rfl⟩
  obtain ⟨rg, rcap, rfl⟩ := Cm.regs_shape hrg (by omega)
  obtain ⟨g', f0, f1, f2, f3, f4, f5, hg, hr⟩ := Cm.node_at hrow hB0 hcb hi hn
  dsimp only at f0 f1 f2 f3 f4 f5 hr
  obtain ⟨wS, hwS⟩ : ∃ wS, w.alloc (.cells #[.int .i64 14, .int .i64 a, .int .i64 b, .int .i64 c3, .int .i64 (num : Int), .slice (some ⟨g', 0, none⟩) val.length val.length] 48) = wS := ⟨_, rfl⟩
  have BS : Below w.heap.size w wS := by rw [← hwS]; exact (Below.refl _ _).alloc (Nat.le_refl _) _
  have X0 : Own wS w.heap.size 48 [.int .i64 14, .int .i64 a, .int .i64 b, .int .i64 c3, .int .i64 (num : Int), .slice (some ⟨g', 0, none⟩) val.length val.length] := by rw [← hwS]; exact ⟨_, heap_alloc_new _ _, rfl⟩
  have LW : Cm.Lg 41 pb cv [] w s w := Cm.Lg.start hsp
  have hsp1 := hsp
  obtain ⟨v1, cs1, hS1⟩ := hsp1
  have p0 := hS1.own.cell 0
  clear hS1 cs1
  rw [hcv] at p0
  simp only [List.cons_append, List.getElem?_cons_zero] at p0
  have HAH := hide (LW.below BS)
  have L0 : Cm.Lg 41 pb cv [] wS t0 wS := by rw [← q0]; exact Cm.Lg.start (LW.below BS).1
  have HBS : Below w0.heap.size w0 wS := hB0.trans (BS.mono hB0.size)
  have HRS := Tr.owns_below hrg BS
  have hiI : (i : Int) < (l.length : Int) := by omega
  rw [q0] at hlen h0 hreg
  obtain ⟨t1, q1⟩ : ∃ t, t0.reg = t := ⟨_, rfl⟩
  have n1 := Cm.reg_len t0
  have r1 := Cm.reg_regs t0
  rw [q1] at n1 r1
  have C0 := hide (fun (W : World) (L : Cm.Lg 41 pb cv [] wS t0 W) => Cm.reg_lg L (by omega) (by omega) q1)
  obtain ⟨t2, q2⟩ : ∃ t, t1.put 1 0 = t := ⟨_, rfl⟩
  have n2 := Cm.put_len t1 1 0
  have r2 := Cm.put_regs t1 1 0
  rw [q2] at n2 r2
  have C1 := hide (fun (W : World) (L : Cm.Lg 41 pb cv [] wS t1 W) => Cm.put_lg 1 0 L (by omega) q2)
  obtain ⟨t3, q3⟩ : ∃ t, rec a rs t2 = t := ⟨_, rfl⟩
  have n3 := Ha.1 rs t2
  rw [q3] at n3
  obtain ⟨n3, m3, r3, x3⟩ := n3
  have C2 := hide (fun (W : World) (L : Cm.Lg 41 pb cv [] wS t2 W) => Ha.at hp HBS L HRS h60 (by omega) (by omega) (by omega) q3)
  obtain ⟨t4, q4⟩ : ∃ t, t3.put 16 t0.regs = t := ⟨_, rfl⟩
  have n4 := Cm.put_len t3 16 t0.regs
  have r4 := Cm.put_regs t3 16 t0.regs
  rw [q4] at n4 r4
  have C3 := hide (fun (W : World) (L : Cm.Lg 41 pb cv [] wS t3 W) => Cm.put_lg 16 t0.regs L (by omega) q4)
  obtain ⟨rs2, hrs2⟩ : ∃ r2, rs.set num (t0.regs) = r2 := ⟨_, rfl⟩
  have h602 : rs2.length = 60 := by rw [← hrs2, List.length_set]; exact h60
  have CW := hide (fun (W : World) (L : Cm.Lg 41 pb cv [] wS t4 W) => l8With_any rb _ rs num (t0.regs) W (L.2.regs (by decide) HRS) (by omega) (by omega))
  rw [hrs2] at CW
  obtain ⟨t5, q5⟩ : ∃ t, rec b rs2 t4 = t := ⟨_, rfl⟩
  have n5 := Hb.1 rs2 t4
  rw [q5] at n5
  obtain ⟨n5, m5, r5, x5⟩ := n5
  have C4 := hide (fun (W : World) (y : Value) (b2 : Nat) (L : Cm.Lg 41 pb cv [] wS t4 W) (ho : W.ownsRow b2 2 1 y rs2.length (rs2.map (Value.int .i64))) => Hb.at hp (L.since hp HBS) (Cm.Lg.start L.1) ho h602 (by omega) (by omega) (by omega) q5)
  have HF := hide (show t5 = Cm.one rec ⟨14, a, b, c3, (num : Int), val⟩ rs t0 by rw [← q5, ← hrs2, ← q4, ← q3, ← q2, ← q1]; rfl)
  clear hrs2 q1 q2 q3 q4 q5
  clear n1 r1 n2 r2 n3 r3 m3 x3 n4 r4 n5 r5 m5 x5
  rw [← q0] at HF
  have FIN := hide (fun (W : World) (L : Cm.Lg 41 pb cv [] wS t5 W) => show Cm.Lg 41 pb cv [] w (Cm.one rec ⟨14, a, b, c3, (num : Int), val⟩ rs s) W from (unhide HF) ▸ ((unhide HAH).go L))
  clear hsp hp hB0 hrg HBS LW BS HF hlen h0 hreg hrow hn hr hg hcv hcb hi Ha Hb HRS h60
  clear q0
  go_enter Try.func15, Try.ntmps15
  have y0_0 := (L0.own X0 (by decide)).cell 0
  simp only [List.getElem?_cons_zero, List.getElem?_cons_succ] at y0_0
  go_wp2_with fail
  try rw [hwS]
  clear hwS f0 f1 f2 f3 f4 f5 p0
  refine ((unhide C0) _ L0).mono ?_
  rintro e w1 ⟨rfl, L1⟩
  go_wp2_with fail
  refine ((unhide C1) _ L1).mono ?_
  rintro e w2 ⟨rfl, L2⟩
  have y2_1 := (L2.own X0 (by decide)).cell 1
  simp only [List.getElem?_cons_zero, List.getElem?_cons_succ] at y2_1
  go_wp2_with fail
  refine ((unhide C2) _ L2).mono ?_
  rintro e w3 ⟨rfl, L3⟩
  go_wp2_with fail
  refine ((unhide C3) _ L3).mono ?_
  rintro e w4 ⟨rfl, L4⟩
  have ya := (L4.own X0 (by decide)).cell 2
  have yn := (L4.own X0 (by decide)).cell 4
  have ylt := (L4.own X0 (by decide)).lt
  simp only [List.getElem?_cons_zero, List.getElem?_cons_succ] at ya yn
  go_wp2_with fail
  have LD := L4.below ((Below.refl w4.heap.size w4).drew)
  go_region_held3 (fun w' => w'.cell? ⟨w.heap.size, 2, none⟩ = some (.int .i64 b) ∧ w'.cell? ⟨w.heap.size, 4, none⟩ = some (.int .i64 (num : Int))) (first | (simp [go_sem, ya, yn]; done) | exact ⟨(hbx.cell (by exact ylt)).trans ya, (hbx.cell (by exact ylt)).trans yn⟩ | exact ⟨yb, ym⟩)
    (first | (go_at_call 41; refine ((unhide CW) _ LD).mono ?_; rintro e ux ⟨xx, rfl, hox, hbx⟩) | (go_at_call 15; have LX := LD.below hbx; refine ((unhide C4) _ _ _ LX hox).mono ?_; rintro e w5 ⟨rfl, LY⟩; have L5 := LX.go LY; have yb := (L5.own X0 (by decide)).cell 2; have ym := (L5.own X0 (by decide)).cell 4; simp only [List.getElem?_cons_zero, List.getElem?_cons_succ] at yb ym))
  go_wp2_with fail
  go_end0
  exact ⟨rfl, (unhide FIN) _ L5⟩

end Go.Proofs.Ytodpmonbfecfdaa

namespace Go.Proofs.Ytodpmonbfecfdaa
open Go.RowKit
set_option linter.unusedVariables false
set_option linter.unusedSimpArgs false


set_option maxRecDepth 100000 in
set_option maxHeartbeats 4000000 in
theorem l8Node_4 (w0 : World) (pb : Nat) (cv : Value) (rec : Cm.Rec) (na nb nc : Nat) (rs : List Int) (rv : Value) (rb : Nat) (s : Cm.St) (w : World) (hsp : ∃ v cs, Cm.Sp 41 w pb cv [] s v cs) (hp : w0.heap.size ≤ pb) (hB0 : Below w0.heap.size w0 w) (hrg : w.ownsRow rb 2 1 rv rs.length (rs.map (Value.int .i64))) (h60 : rs.length = 60) (hlen : s.len + 14 * (1 + na + nb + nc) ≤ 20000) (h0 : 0 ≤ s.regs) (hreg : s.regs + 2 * (1 + (na : Int) + nb + nc) ≤ 20000) (cb : Nat) (l : List Co) (i : Nat) (hcv : cv = .slice (some ⟨cb, 0, none⟩) l.length l.length) (hrow : Co.Row w0 cb l) (hcb : cb < w0.heap.size) (hi : i < l.length) (hl9 : l.length ≤ 900) (a b c3 : Int) (num : Int) (val : List M.Cl) (hn : l.getD i Co.zero = ⟨4, a, b, c3, num, val⟩) (Ha : Cm.Lays w0 pb cv rec na a) (Hb : Cm.Lays w0 pb cv rec nb b) :
    Calls Try.prog 15 #[.pointer (some ⟨pb, 0, none⟩), .int .i64 (i : Int), rv] w fun e w' => e = .returned (.tuple #[]) ∧ Cm.Lg 41 pb cv [] w (Cm.one rec ⟨4, a, b, c3, num, val⟩ rs s) w' := by
  obtain ⟨t0, q0⟩ : ∃ t, s = t := ⟨_, rfl⟩
  obtain ⟨rg, rcap, rfl⟩ := Cm.regs_shape hrg (by omega)
  obtain ⟨g', f0, f1, f2, f3, f4, f5, hg, hr⟩ := Cm.node_at hrow hB0 hcb hi hn
  dsimp only at f0 f1 f2 f3 f4 f5 hr
  obtain ⟨wS, hwS⟩ : ∃ wS, w.alloc (.cells #[.int .i64 4, .int .i64 a, .int .i64 b, .int .i64 c3, .int .i64 num, .slice (some ⟨g', 0, none⟩) val.length val.length] 48) = wS := ⟨_, rfl⟩
  have BS : Below w.heap.size w wS := by rw [← hwS]; exact (Below.refl _ _).alloc (Nat.le_refl _) _
  have X0 : Own wS w.heap.size 48 [.int .i64 4, .int .i64 a, .int .i64 b, .int .i64 c3, .int .i64 num, .slice (some ⟨g', 0, none⟩) val.length val.length] := by rw [← hwS]; exact ⟨_, heap_alloc_new _ _, rfl⟩
  have LW : Cm.Lg 41 pb cv [] w s w := Cm.Lg.start hsp
  have hsp1 := hsp
  obtain ⟨v1, cs1, hS1⟩ := hsp1
  have p0 := hS1.own.cell 0
  clear hS1 cs1
  rw [hcv] at p0
  simp only [List.cons_append, List.getElem?_cons_zero] at p0
  have HAH := hide (LW.below BS)
  have L0 : Cm.Lg 41 pb cv [] wS t0 wS := by rw [← q0]; exact Cm.Lg.start (LW.below BS).1
  have HBS : Below w0.heap.size w0 wS := hB0.trans (BS.mono hB0.size)
  have HRS := Tr.owns_below hrg BS
  have hiI : (i : Int) < (l.length : Int) := by omega
  rw [q0] at hlen h0 hreg
  obtain ⟨t1, q1⟩ : ∃ t, Cm.either rec 12 a b rs t0 = t := ⟨_, rfl⟩
  have C0 := hide (fun (W : World) (L : Cm.Lg 41 pb cv [] wS t0 W) => l8Fork_4 w0 pb cv rec na nb nc rs _ rb t0 W L.1 hp (L.since hp HBS) (L.2.regs (by decide) HRS) h60 (by omega) (by omega) (by omega) a b c3 num (.slice (some ⟨g', 0, none⟩) val.length val.length) ⟨_, _, _, rfl⟩ Ha Hb)
  rw [q1] at C0
  have n1 : True := trivial
  have r1 : True := trivial
  have HF := hide (show t1 = Cm.one rec ⟨4, a, b, c3, num, val⟩ rs t0 by rw [← q1]; rfl)
  clear q1
  clear n1 r1
  rw [← q0] at HF
  have FIN := hide (fun (W : World) (L : Cm.Lg 41 pb cv [] wS t1 W) => show Cm.Lg 41 pb cv [] w (Cm.one rec ⟨4, a, b, c3, num, val⟩ rs s) W from (unhide HF) ▸ ((unhide HAH).go L))
  clear hsp hp hB0 hrg HBS LW BS HF hlen h0 hreg hrow hn hr hg hcv hcb hi Ha Hb HRS h60
  clear q0
  go_enter Try.func15, Try.ntmps15
  have y0_0 := (L0.own X0 (by decide)).cell 0
  have y0_1 := (L0.own X0 (by decide)).cell 1
  have y0_2 := (L0.own X0 (by decide)).cell 2
  have y0_3 := (L0.own X0 (by decide)).cell 3
  have y0_4 := (L0.own X0 (by decide)).cell 4
  have y0_5 := (L0.own X0 (by decide)).cell 5
  simp only [List.getElem?_cons_zero, List.getElem?_cons_succ] at y0_0 y0_1 y0_2 y0_3 y0_4 y0_5
  go_wp2_with fail
  try rw [hwS]
  clear hwS f0 f1 f2 f3 f4 f5 p0
  refine ((unhide C0) _ L0).mono ?_
  rintro e w1 ⟨rfl, LY1⟩
  have L1 := L0.go LY1
  go_wp2_with fail
  go_end0
  exact ⟨rfl, (unhide FIN) _ L1⟩

set_option maxRecDepth 100000 in
set_option maxHeartbeats 4000000 in
theorem l8Node_12 (w0 : World) (pb : Nat) (cv : Value) (rec : Cm.Rec) (na nb nc : Nat) (rs : List Int) (rv : Value) (rb : Nat) (s : Cm.St) (w : World) (hsp : ∃ v cs, Cm.Sp 41 w pb cv [] s v cs) (hp : w0.heap.size ≤ pb) (hB0 : Below w0.heap.size w0 w) (hrg : w.ownsRow rb 2 1 rv rs.length (rs.map (Value.int .i64))) (h60 : rs.length = 60) (hlen : s.len + 14 * (1 + na + nb + nc) ≤ 20000) (h0 : 0 ≤ s.regs) (hreg : s.regs + 2 * (1 + (na : Int) + nb + nc) ≤ 20000) (cb : Nat) (l : List Co) (i : Nat) (hcv : cv = .slice (some ⟨cb, 0, none⟩) l.length l.length) (hrow : Co.Row w0 cb l) (hcb : cb < w0.heap.size) (hi : i < l.length) (hl9 : l.length ≤ 900) (a b c3 : Int) (num : Int) (val : List M.Cl) (hn : l.getD i Co.zero = ⟨12, a, b, c3, num, val⟩) (Ha : Cm.Lays w0 pb cv rec na a) (Hb : Cm.Lays w0 pb cv rec nb b) (Hc : Cm.Lays w0 pb cv rec nc c3) :
    Calls Try.prog 15 #[.pointer (some ⟨pb, 0, none⟩), .int .i64 (i : Int), rv] w fun e w' => e = .returned (.tuple #[]) ∧ Cm.Lg 41 pb cv [] w (Cm.one rec ⟨12, a, b, c3, num, val⟩ rs s) w' := by
  obtain ⟨t0, q0⟩ : ∃ t, s = t := ⟨_, rfl⟩
  obtain ⟨rg, rcap, rfl⟩ := Cm.regs_shape hrg (by omega)
  obtain ⟨g', f0, f1, f2, f3, f4, f5, hg, hr⟩ := Cm.node_at hrow hB0 hcb hi hn
  dsimp only at f0 f1 f2 f3 f4 f5 hr
  obtain ⟨wS, hwS⟩ : ∃ wS, w.alloc (.cells #[.int .i64 12, .int .i64 a, .int .i64 b, .int .i64 c3, .int .i64 num, .slice (some ⟨g', 0, none⟩) val.length val.length] 48) = wS := ⟨_, rfl⟩
  have BS : Below w.heap.size w wS := by rw [← hwS]; exact (Below.refl _ _).alloc (Nat.le_refl _) _
  have X0 : Own wS w.heap.size 48 [.int .i64 12, .int .i64 a, .int .i64 b, .int .i64 c3, .int .i64 num, .slice (some ⟨g', 0, none⟩) val.length val.length] := by rw [← hwS]; exact ⟨_, heap_alloc_new _ _, rfl⟩
  have LW : Cm.Lg 41 pb cv [] w s w := Cm.Lg.start hsp
  have hsp1 := hsp
  obtain ⟨v1, cs1, hS1⟩ := hsp1
  have p0 := hS1.own.cell 0
  clear hS1 cs1
  rw [hcv] at p0
  simp only [List.cons_append, List.getElem?_cons_zero] at p0
  have HAH := hide (LW.below BS)
  have L0 : Cm.Lg 41 pb cv [] wS t0 wS := by rw [← q0]; exact Cm.Lg.start (LW.below BS).1
  have HBS : Below w0.heap.size w0 wS := hB0.trans (BS.mono hB0.size)
  have HRS := Tr.owns_below hrg BS
  have hiI : (i : Int) < (l.length : Int) := by omega
  rw [q0] at hlen h0 hreg
  obtain ⟨t1, q1⟩ : ∃ t, Cm.either rec 11 b c3 rs (rec a rs (t0.put 1 0)) = t := ⟨_, rfl⟩
  have C0 := hide (fun (W : World) (L : Cm.Lg 41 pb cv [] wS t0 W) => l8Fork_12 w0 pb cv rec na nb nc rs _ rb t0 W L.1 hp (L.since hp HBS) (L.2.regs (by decide) HRS) h60 (by omega) (by omega) (by omega) a b c3 num (.slice (some ⟨g', 0, none⟩) val.length val.length) ⟨_, _, _, rfl⟩ Ha Hb Hc)
  rw [q1] at C0
  have n1 : True := trivial
  have r1 : True := trivial
  have HF := hide (show t1 = Cm.one rec ⟨12, a, b, c3, num, val⟩ rs t0 by rw [← q1]; rfl)
  clear q1
  clear n1 r1
  rw [← q0] at HF
  have FIN := hide (fun (W : World) (L : Cm.Lg 41 pb cv [] wS t1 W) => show Cm.Lg 41 pb cv [] w (Cm.one rec ⟨12, a, b, c3, num, val⟩ rs s) W from (unhide HF) ▸ ((unhide HAH).go L))
  clear hsp hp hB0 hrg HBS LW BS HF hlen h0 hreg hrow hn hr hg hcv hcb hi Ha Hb Hc HRS h60
  clear q0
  go_enter Try.func15, Try.ntmps15
  have y0_0 := (L0.own X0 (by decide)).cell 0
  have y0_1 := (L0.own X0 (by decide)).cell 1
  have y0_2 := (L0.own X0 (by decide)).cell 2
  have y0_3 := (L0.own X0 (by decide)).cell 3
  have y0_4 := (L0.own X0 (by decide)).cell 4
  have y0_5 := (L0.own X0 (by decide)).cell 5
  simp only [List.getElem?_cons_zero, List.getElem?_cons_succ] at y0_0 y0_1 y0_2 y0_3 y0_4 y0_5
  go_wp2_with fail
  try rw [hwS]
  clear hwS f0 f1 f2 f3 f4 f5 p0
  refine ((unhide C0) _ L0).mono ?_
  rintro e w1 ⟨rfl, LY1⟩
  have L1 := L0.go LY1
  go_wp2_with fail
  go_end0
  exact ⟨rfl, (unhide FIN) _ L1⟩

set_option maxRecDepth 100000 in
set_option maxHeartbeats 4000000 in
theorem l8Node_6 (w0 : World) (pb : Nat) (cv : Value) (rec : Cm.Rec) (na nb nc : Nat) (rs : List Int) (rv : Value) (rb : Nat) (s : Cm.St) (w : World) (hsp : ∃ v cs, Cm.Sp 41 w pb cv [] s v cs) (hp : w0.heap.size ≤ pb) (hB0 : Below w0.heap.size w0 w) (hrg : w.ownsRow rb 2 1 rv rs.length (rs.map (Value.int .i64))) (h60 : rs.length = 60) (hlen : s.len + 14 * (1 + na + nb + nc) ≤ 20000) (h0 : 0 ≤ s.regs) (hreg : s.regs + 2 * (1 + (na : Int) + nb + nc) ≤ 20000) (cb : Nat) (l : List Co) (i : Nat) (hcv : cv = .slice (some ⟨cb, 0, none⟩) l.length l.length) (hrow : Co.Row w0 cb l) (hcb : cb < w0.heap.size) (hi : i < l.length) (hl9 : l.length ≤ 900) (a b c3 : Int) (num : Int) (val : List M.Cl) (hn : l.getD i Co.zero = ⟨6, a, b, c3, num, val⟩) (Ha : Cm.Lays w0 pb cv rec na a) (Hb : Cm.Lays w0 pb cv rec nb b) :
    Calls Try.prog 15 #[.pointer (some ⟨pb, 0, none⟩), .int .i64 (i : Int), rv] w fun e w' => e = .returned (.tuple #[]) ∧ Cm.Lg 41 pb cv [] w (Cm.one rec ⟨6, a, b, c3, num, val⟩ rs s) w' := by
  obtain ⟨t0, q0⟩ : ∃ t, s = t := ⟨_, rfl⟩
  obtain ⟨rg, rcap, rfl⟩ := Cm.regs_shape hrg (by omega)
  obtain ⟨g', f0, f1, f2, f3, f4, f5, hg, hr⟩ := Cm.node_at hrow hB0 hcb hi hn
  dsimp only at f0 f1 f2 f3 f4 f5 hr
  obtain ⟨wS, hwS⟩ : ∃ wS, w.alloc (.cells #[.int .i64 6, .int .i64 a, .int .i64 b, .int .i64 c3, .int .i64 num, .slice (some ⟨g', 0, none⟩) val.length val.length] 48) = wS := ⟨_, rfl⟩
  have BS : Below w.heap.size w wS := by rw [← hwS]; exact (Below.refl _ _).alloc (Nat.le_refl _) _
  have X0 : Own wS w.heap.size 48 [.int .i64 6, .int .i64 a, .int .i64 b, .int .i64 c3, .int .i64 num, .slice (some ⟨g', 0, none⟩) val.length val.length] := by rw [← hwS]; exact ⟨_, heap_alloc_new _ _, rfl⟩
  have LW : Cm.Lg 41 pb cv [] w s w := Cm.Lg.start hsp
  have hsp1 := hsp
  obtain ⟨v1, cs1, hS1⟩ := hsp1
  have p0 := hS1.own.cell 0
  clear hS1 cs1
  rw [hcv] at p0
  simp only [List.cons_append, List.getElem?_cons_zero] at p0
  have HAH := hide (LW.below BS)
  have L0 : Cm.Lg 41 pb cv [] wS t0 wS := by rw [← q0]; exact Cm.Lg.start (LW.below BS).1
  have HBS : Below w0.heap.size w0 wS := hB0.trans (BS.mono hB0.size)
  have HRS := Tr.owns_below hrg BS
  have hiI : (i : Int) < (l.length : Int) := by omega
  rw [q0] at hlen h0 hreg
  obtain ⟨t1, q1⟩ : ∃ t, Cm.pair rec b a rs t0 = t := ⟨_, rfl⟩
  have C0 := hide (fun (W : World) (L : Cm.Lg 41 pb cv [] wS t0 W) => l8Both_any w0 pb cv rec nb na nc rs _ rb t0 W L.1 hp (L.since hp HBS) (L.2.regs (by decide) HRS) h60 (by omega) (by omega) (by omega) b a Hb Ha)
  rw [q1] at C0
  have n1 := Cm.pair_bd Hb.1 Ha.1 rs t0
  rw [q1] at n1
  obtain ⟨n1, m1, r1, x1⟩ := n1
  obtain ⟨t2, q2⟩ : ∃ t, t1.put 5 num = t := ⟨_, rfl⟩
  have n2 := Cm.put_len t1 5 num
  have r2 := Cm.put_regs t1 5 num
  rw [q2] at n2 r2
  have C1 := hide (fun (W : World) (L : Cm.Lg 41 pb cv [] wS t1 W) => Cm.put_lg 5 num L (by omega) q2)
  have HF := hide (show t2 = Cm.one rec ⟨6, a, b, c3, num, val⟩ rs t0 by rw [← q2, ← q1]; rfl)
  clear q1 q2
  clear n1 r1 m1 x1 n2 r2
  rw [← q0] at HF
  have FIN := hide (fun (W : World) (L : Cm.Lg 41 pb cv [] wS t2 W) => show Cm.Lg 41 pb cv [] w (Cm.one rec ⟨6, a, b, c3, num, val⟩ rs s) W from (unhide HF) ▸ ((unhide HAH).go L))
  clear hsp hp hB0 hrg HBS LW BS HF hlen h0 hreg hrow hn hr hg hcv hcb hi Ha Hb HRS h60
  clear q0
  go_enter Try.func15, Try.ntmps15
  have y0_0 := (L0.own X0 (by decide)).cell 0
  have y0_1 := (L0.own X0 (by decide)).cell 1
  have y0_2 := (L0.own X0 (by decide)).cell 2
  simp only [List.getElem?_cons_zero, List.getElem?_cons_succ] at y0_0 y0_1 y0_2
  go_wp2_with fail
  try rw [hwS]
  clear hwS f0 f1 f2 f3 f4 f5 p0
  refine ((unhide C0) _ L0).mono ?_
  rintro e w1 ⟨rfl, LY1⟩
  have L1 := L0.go LY1
  have y1_4 := (L1.own X0 (by decide)).cell 4
  simp only [List.getElem?_cons_zero, List.getElem?_cons_succ] at y1_4
  go_wp2_with fail
  refine ((unhide C1) _ L1).mono ?_
  rintro e w2 ⟨rfl, L2⟩
  go_wp2_with fail
  go_end0
  exact ⟨rfl, (unhide FIN) _ L2⟩

set_option maxRecDepth 100000 in
set_option maxHeartbeats 4000000 in
theorem l8Node_7 (w0 : World) (pb : Nat) (cv : Value) (rec : Cm.Rec) (na nb nc : Nat) (rs : List Int) (rv : Value) (rb : Nat) (s : Cm.St) (w : World) (hsp : ∃ v cs, Cm.Sp 41 w pb cv [] s v cs) (hp : w0.heap.size ≤ pb) (hB0 : Below w0.heap.size w0 w) (hrg : w.ownsRow rb 2 1 rv rs.length (rs.map (Value.int .i64))) (h60 : rs.length = 60) (hlen : s.len + 14 * (1 + na + nb + nc) ≤ 20000) (h0 : 0 ≤ s.regs) (hreg : s.regs + 2 * (1 + (na : Int) + nb + nc) ≤ 20000) (cb : Nat) (l : List Co) (i : Nat) (hcv : cv = .slice (some ⟨cb, 0, none⟩) l.length l.length) (hrow : Co.Row w0 cb l) (hcb : cb < w0.heap.size) (hi : i < l.length) (hl9 : l.length ≤ 900) (a b c3 : Int) (num : Int) (val : List M.Cl) (hn : l.getD i Co.zero = ⟨7, a, b, c3, num, val⟩) (Ha : Cm.Lays w0 pb cv rec na a) (Hb : Cm.Lays w0 pb cv rec nb b) :
    Calls Try.prog 15 #[.pointer (some ⟨pb, 0, none⟩), .int .i64 (i : Int), rv] w fun e w' => e = .returned (.tuple #[]) ∧ Cm.Lg 41 pb cv [] w (Cm.one rec ⟨7, a, b, c3, num, val⟩ rs s) w' := by
  obtain ⟨t0, q0⟩ : ∃ t, s = t := ⟨_, rfl⟩
  obtain ⟨rg, rcap, rfl⟩ := Cm.regs_shape hrg (by omega)
  obtain ⟨g', f0, f1, f2, f3, f4, f5, hg, hr⟩ := Cm.node_at hrow hB0 hcb hi hn
  dsimp only at f0 f1 f2 f3 f4 f5 hr
  obtain ⟨wS, hwS⟩ : ∃ wS, w.alloc (.cells #[.int .i64 7, .int .i64 a, .int .i64 b, .int .i64 c3, .int .i64 num, .slice (some ⟨g', 0, none⟩) val.length val.length] 48) = wS := ⟨_, rfl⟩
  have BS : Below w.heap.size w wS := by rw [← hwS]; exact (Below.refl _ _).alloc (Nat.le_refl _) _
  have X0 : Own wS w.heap.size 48 [.int .i64 7, .int .i64 a, .int .i64 b, .int .i64 c3, .int .i64 num, .slice (some ⟨g', 0, none⟩) val.length val.length] := by rw [← hwS]; exact ⟨_, heap_alloc_new _ _, rfl⟩
  have LW : Cm.Lg 41 pb cv [] w s w := Cm.Lg.start hsp
  have hsp1 := hsp
  obtain ⟨v1, cs1, hS1⟩ := hsp1
  have p0 := hS1.own.cell 0
  clear hS1 cs1
  rw [hcv] at p0
  simp only [List.cons_append, List.getElem?_cons_zero] at p0
  have HAH := hide (LW.below BS)
  have L0 : Cm.Lg 41 pb cv [] wS t0 wS := by rw [← q0]; exact Cm.Lg.start (LW.below BS).1
  have HBS : Below w0.heap.size w0 wS := hB0.trans (BS.mono hB0.size)
  have HRS := Tr.owns_below hrg BS
  have hiI : (i : Int) < (l.length : Int) := by omega
  rw [q0] at hlen h0 hreg
  obtain ⟨t1, q1⟩ : ∃ t, Cm.pair rec a b rs t0 = t := ⟨_, rfl⟩
  have C0 := hide (fun (W : World) (L : Cm.Lg 41 pb cv [] wS t0 W) => l8Both_any w0 pb cv rec na nb nc rs _ rb t0 W L.1 hp (L.since hp HBS) (L.2.regs (by decide) HRS) h60 (by omega) (by omega) (by omega) a b Ha Hb)
  rw [q1] at C0
  have n1 := Cm.pair_bd Ha.1 Hb.1 rs t0
  rw [q1] at n1
  obtain ⟨n1, m1, r1, x1⟩ := n1
  obtain ⟨t2, q2⟩ : ∃ t, t1.put 6 0 = t := ⟨_, rfl⟩
  have n2 := Cm.put_len t1 6 0
  have r2 := Cm.put_regs t1 6 0
  rw [q2] at n2 r2
  have C1 := hide (fun (W : World) (L : Cm.Lg 41 pb cv [] wS t1 W) => Cm.put_lg 6 0 L (by omega) q2)
  have HF := hide (show t2 = Cm.one rec ⟨7, a, b, c3, num, val⟩ rs t0 by rw [← q2, ← q1]; rfl)
  clear q1 q2
  clear n1 r1 m1 x1 n2 r2
  rw [← q0] at HF
  have FIN := hide (fun (W : World) (L : Cm.Lg 41 pb cv [] wS t2 W) => show Cm.Lg 41 pb cv [] w (Cm.one rec ⟨7, a, b, c3, num, val⟩ rs s) W from (unhide HF) ▸ ((unhide HAH).go L))
  clear hsp hp hB0 hrg HBS LW BS HF hlen h0 hreg hrow hn hr hg hcv hcb hi Ha Hb HRS h60
  clear q0
  go_enter Try.func15, Try.ntmps15
  have y0_0 := (L0.own X0 (by decide)).cell 0
  have y0_1 := (L0.own X0 (by decide)).cell 1
  have y0_2 := (L0.own X0 (by decide)).cell 2
  simp only [List.getElem?_cons_zero, List.getElem?_cons_succ] at y0_0 y0_1 y0_2
  go_wp2_with fail
  try rw [hwS]
  clear hwS f0 f1 f2 f3 f4 f5 p0
  refine ((unhide C0) _ L0).mono ?_
  rintro e w1 ⟨rfl, LY1⟩
  have L1 := L0.go LY1
  go_wp2_with fail
  refine ((unhide C1) _ L1).mono ?_
  rintro e w2 ⟨rfl, L2⟩
  go_wp2_with fail
  go_end0
  exact ⟨rfl, (unhide FIN) _ L2⟩

set_option maxRecDepth 100000 in
set_option maxHeartbeats 4000000 in
theorem l8Node_11 (w0 : World) (pb : Nat) (cv : Value) (rec : Cm.Rec) (na nb nc : Nat) (rs : List Int) (rv : Value) (rb : Nat) (s : Cm.St) (w : World) (hsp : ∃ v cs, Cm.Sp 41 w pb cv [] s v cs) (hp : w0.heap.size ≤ pb) (hB0 : Below w0.heap.size w0 w) (hrg : w.ownsRow rb 2 1 rv rs.length (rs.map (Value.int .i64))) (h60 : rs.length = 60) (hlen : s.len + 14 * (1 + na + nb + nc) ≤ 20000) (h0 : 0 ≤ s.regs) (hreg : s.regs + 2 * (1 + (na : Int) + nb + nc) ≤ 20000) (cb : Nat) (l : List Co) (i : Nat) (hcv : cv = .slice (some ⟨cb, 0, none⟩) l.length l.length) (hrow : Co.Row w0 cb l) (hcb : cb < w0.heap.size) (hi : i < l.length) (hl9 : l.length ≤ 900) (a b c3 : Int) (num : Int) (val : List M.Cl) (hn : l.getD i Co.zero = ⟨11, a, b, c3, num, val⟩) (hval : val.length ≤ 100000) (Ha : Cm.Lays w0 pb cv rec na a) (Hb : Cm.Lays w0 pb cv rec nb b) :
    Calls Try.prog 15 #[.pointer (some ⟨pb, 0, none⟩), .int .i64 (i : Int), rv] w fun e w' => e = .returned (.tuple #[]) ∧ Cm.Lg 41 pb cv [] w (Cm.one rec ⟨11, a, b, c3, num, val⟩ rs s) w' := by
  obtain ⟨t0, q0⟩ : ∃ t, s = t := ⟨_, rfl⟩
  obtain ⟨rg, rcap, rfl⟩ := Cm.regs_shape hrg (by omega)
  obtain ⟨g', f0, f1, f2, f3, f4, f5, hg, hr⟩ := Cm.node_at hrow hB0 hcb hi hn
  dsimp only at f0 f1 f2 f3 f4 f5 hr
  obtain ⟨wS, hwS⟩ : ∃ wS, w.alloc (.cells #[.int .i64 11, .int .i64 a, .int .i64 b, .int .i64 c3, .int .i64 num, .slice (some ⟨g', 0, none⟩) val.length val.length] 48) = wS := ⟨_, rfl⟩
  have BS : Below w.heap.size w wS := by rw [← hwS]; exact (Below.refl _ _).alloc (Nat.le_refl _) _
  have X0 : Own wS w.heap.size 48 [.int .i64 11, .int .i64 a, .int .i64 b, .int .i64 c3, .int .i64 num, .slice (some ⟨g', 0, none⟩) val.length val.length] := by rw [← hwS]; exact ⟨_, heap_alloc_new _ _, rfl⟩
  have LW : Cm.Lg 41 pb cv [] w s w := Cm.Lg.start hsp
  have hsp1 := hsp
  obtain ⟨v1, cs1, hS1⟩ := hsp1
  have p0 := hS1.own.cell 0
  clear hS1 cs1
  rw [hcv] at p0
  simp only [List.cons_append, List.getElem?_cons_zero] at p0
  have HAH := hide (LW.below BS)
  have L0 : Cm.Lg 41 pb cv [] wS t0 wS := by rw [← q0]; exact Cm.Lg.start (LW.below BS).1
  have HBS : Below w0.heap.size w0 wS := hB0.trans (BS.mono hB0.size)
  have HRS := Tr.owns_below hrg BS
  have hiI : (i : Int) < (l.length : Int) := by omega
  rw [q0] at hlen h0 hreg
  obtain ⟨t1, q1⟩ : ∃ t, Cm.pair rec a b rs t0 = t := ⟨_, rfl⟩
  have C0 := hide (fun (W : World) (L : Cm.Lg 41 pb cv [] wS t0 W) => l8Both_any w0 pb cv rec na nb nc rs _ rb t0 W L.1 hp (L.since hp HBS) (L.2.regs (by decide) HRS) h60 (by omega) (by omega) (by omega) a b Ha Hb)
  rw [q1] at C0
  have n1 := Cm.pair_bd Ha.1 Hb.1 rs t0
  rw [q1] at n1
  obtain ⟨n1, m1, r1, x1⟩ := n1
  obtain ⟨t2, q2⟩ : ∃ t, t1.val 9 val = t := ⟨_, rfl⟩
  have n2 := Cm.val_len t1 9 val
  have r2 := Cm.val_regs t1 9 val
  rw [q2] at n2 r2
  have C1 := hide (fun (W : World) (L : Cm.Lg 41 pb cv [] wS t1 W) => Cm.val_lg 9 g' 0 val.length val L (by omega) (hr.below (L.since hp HBS) hg) (Nat.lt_of_lt_of_le hg (L.since hp HBS).size) hval q2)
  have HF := hide (show t2 = Cm.one rec ⟨11, a, b, c3, num, val⟩ rs t0 by rw [← q2, ← q1]; rfl)
  clear q1 q2
  clear n1 r1 m1 x1 n2 r2
  rw [← q0] at HF
  have FIN := hide (fun (W : World) (L : Cm.Lg 41 pb cv [] wS t2 W) => show Cm.Lg 41 pb cv [] w (Cm.one rec ⟨11, a, b, c3, num, val⟩ rs s) W from (unhide HF) ▸ ((unhide HAH).go L))
  clear hsp hp hB0 hrg HBS LW BS HF hlen h0 hreg hrow hn hr hg hcv hcb hi Ha Hb HRS h60
  clear q0
  go_enter Try.func15, Try.ntmps15
  have y0_0 := (L0.own X0 (by decide)).cell 0
  have y0_1 := (L0.own X0 (by decide)).cell 1
  have y0_2 := (L0.own X0 (by decide)).cell 2
  simp only [List.getElem?_cons_zero, List.getElem?_cons_succ] at y0_0 y0_1 y0_2
  go_wp2_with fail
  try rw [hwS]
  clear hwS f0 f1 f2 f3 f4 f5 p0
  refine ((unhide C0) _ L0).mono ?_
  rintro e w1 ⟨rfl, LY1⟩
  have L1 := L0.go LY1
  have y1_5 := (L1.own X0 (by decide)).cell 5
  simp only [List.getElem?_cons_zero, List.getElem?_cons_succ] at y1_5
  go_wp2_with fail
  refine ((unhide C1) _ L1).mono ?_
  rintro e w2 ⟨rfl, L2⟩
  go_wp2_with fail
  go_end0
  exact ⟨rfl, (unhide FIN) _ L2⟩

set_option maxRecDepth 100000 in
set_option maxHeartbeats 4000000 in
theorem l8Node_10 (w0 : World) (pb : Nat) (cv : Value) (rec : Cm.Rec) (na nb nc : Nat) (rs : List Int) (rv : Value) (rb : Nat) (s : Cm.St) (w : World) (hsp : ∃ v cs, Cm.Sp 41 w pb cv [] s v cs) (hp : w0.heap.size ≤ pb) (hB0 : Below w0.heap.size w0 w) (hrg : w.ownsRow rb 2 1 rv rs.length (rs.map (Value.int .i64))) (h60 : rs.length = 60) (hlen : s.len + 14 * (1 + na + nb + nc) ≤ 20000) (h0 : 0 ≤ s.regs) (hreg : s.regs + 2 * (1 + (na : Int) + nb + nc) ≤ 20000) (cb : Nat) (l : List Co) (i : Nat) (hcv : cv = .slice (some ⟨cb, 0, none⟩) l.length l.length) (hrow : Co.Row w0 cb l) (hcb : cb < w0.heap.size) (hi : i < l.length) (hl9 : l.length ≤ 900) (a b c3 : Int) (num : Int) (val : List M.Cl) (hn : l.getD i Co.zero = ⟨10, a, b, c3, num, val⟩) (Ha : Cm.Lays w0 pb cv rec na a) :
    Calls Try.prog 15 #[.pointer (some ⟨pb, 0, none⟩), .int .i64 (i : Int), rv] w fun e w' => e = .returned (.tuple #[]) ∧ Cm.Lg 41 pb cv [] w (Cm.one rec ⟨10, a, b, c3, num, val⟩ rs s) w' := by
  obtain ⟨t0, q0⟩ : ∃ t, s = t := ⟨_, rfl⟩
  obtain ⟨rg, rcap, rfl⟩ := Cm.regs_shape hrg (by omega)
  obtain ⟨g', f0, f1, f2, f3, f4, f5, hg, hr⟩ := Cm.node_at hrow hB0 hcb hi hn
  dsimp only at f0 f1 f2 f3 f4 f5 hr
  obtain ⟨wS, hwS⟩ : ∃ wS, w.alloc (.cells #[.int .i64 10, .int .i64 a, .int .i64 b, .int .i64 c3, .int .i64 num, .slice (some ⟨g', 0, none⟩) val.length val.length] 48) = wS := ⟨_, rfl⟩
  have BS : Below w.heap.size w wS := by rw [← hwS]; exact (Below.refl _ _).alloc (Nat.le_refl _) _
  have X0 : Own wS w.heap.size 48 [.int .i64 10, .int .i64 a, .int .i64 b, .int .i64 c3, .int .i64 num, .slice (some ⟨g', 0, none⟩) val.length val.length] := by rw [← hwS]; exact ⟨_, heap_alloc_new _ _, rfl⟩
  have LW : Cm.Lg 41 pb cv [] w s w := Cm.Lg.start hsp
  have hsp1 := hsp
  obtain ⟨v1, cs1, hS1⟩ := hsp1
  have p0 := hS1.own.cell 0
  clear hS1 cs1
  rw [hcv] at p0
  simp only [List.cons_append, List.getElem?_cons_zero] at p0
  have HAH := hide (LW.below BS)
  have L0 : Cm.Lg 41 pb cv [] wS t0 wS := by rw [← q0]; exact Cm.Lg.start (LW.below BS).1
  have HBS : Below w0.heap.size w0 wS := hB0.trans (BS.mono hB0.size)
  have HRS := Tr.owns_below hrg BS
  have hiI : (i : Int) < (l.length : Int) := by omega
  rw [q0] at hlen h0 hreg
  obtain ⟨t1, q1⟩ : ∃ t, Cm.list rec a rs t0 = t := ⟨_, rfl⟩
  have C0 := hide (fun (W : World) (L : Cm.Lg 41 pb cv [] wS t0 W) => l8List_any w0 pb cv rec na nb nc rs _ rb t0 W L.1 hp (L.since hp HBS) (L.2.regs (by decide) HRS) h60 (by omega) (by omega) (by omega) a b c3 num (.slice (some ⟨g', 0, none⟩) val.length val.length) ⟨_, _, _, rfl⟩ Ha)
  rw [q1] at C0
  have n1 : True := trivial
  have r1 : True := trivial
  have HF := hide (show t1 = Cm.one rec ⟨10, a, b, c3, num, val⟩ rs t0 by rw [← q1]; rfl)
  clear q1
  clear n1 r1
  rw [← q0] at HF
  have FIN := hide (fun (W : World) (L : Cm.Lg 41 pb cv [] wS t1 W) => show Cm.Lg 41 pb cv [] w (Cm.one rec ⟨10, a, b, c3, num, val⟩ rs s) W from (unhide HF) ▸ ((unhide HAH).go L))
  clear hsp hp hB0 hrg HBS LW BS HF hlen h0 hreg hrow hn hr hg hcv hcb hi Ha HRS h60
  clear q0
  go_enter Try.func15, Try.ntmps15
  have y0_0 := (L0.own X0 (by decide)).cell 0
  have y0_1 := (L0.own X0 (by decide)).cell 1
  have y0_2 := (L0.own X0 (by decide)).cell 2
  have y0_3 := (L0.own X0 (by decide)).cell 3
  have y0_4 := (L0.own X0 (by decide)).cell 4
  have y0_5 := (L0.own X0 (by decide)).cell 5
  simp only [List.getElem?_cons_zero, List.getElem?_cons_succ] at y0_0 y0_1 y0_2 y0_3 y0_4 y0_5
  go_wp2_with fail
  try rw [hwS]
  clear hwS f0 f1 f2 f3 f4 f5 p0
  refine ((unhide C0) _ L0).mono ?_
  rintro e w1 ⟨rfl, LY1⟩
  have L1 := L0.go LY1
  go_wp2_with fail
  go_end0
  exact ⟨rfl, (unhide FIN) _ L1⟩

set_option maxRecDepth 100000 in
set_option maxHeartbeats 4000000 in
theorem l8Node_13 (w0 : World) (pb : Nat) (cv : Value) (rec : Cm.Rec) (na nb nc : Nat) (rs : List Int) (rv : Value) (rb : Nat) (s : Cm.St) (w : World) (hsp : ∃ v cs, Cm.Sp 41 w pb cv [] s v cs) (hp : w0.heap.size ≤ pb) (hB0 : Below w0.heap.size w0 w) (hrg : w.ownsRow rb 2 1 rv rs.length (rs.map (Value.int .i64))) (h60 : rs.length = 60) (hlen : s.len + 14 * (1 + na + nb + nc) ≤ 20000) (h0 : 0 ≤ s.regs) (hreg : s.regs + 2 * (1 + (na : Int) + nb + nc) ≤ 20000) (cb : Nat) (l : List Co) (i : Nat) (hcv : cv = .slice (some ⟨cb, 0, none⟩) l.length l.length) (hrow : Co.Row w0 cb l) (hcb : cb < w0.heap.size) (hi : i < l.length) (hl9 : l.length ≤ 900) (a b c3 : Int) (num : Nat) (val : List M.Cl) (hn : l.getD i Co.zero = ⟨13, a, b, c3, (num : Int), val⟩) (hnum : num < 60) (Ha : Cm.Lays w0 pb cv rec na a) (Hb : Cm.Lays w0 pb cv rec nb b) (Hc : Cm.Lays w0 pb cv rec nc c3) :
    Calls Try.prog 15 #[.pointer (some ⟨pb, 0, none⟩), .int .i64 (i : Int), rv] w fun e w' => e = .returned (.tuple #[]) ∧ Cm.Lg 41 pb cv [] w (Cm.one rec ⟨13, a, b, c3, (num : Int), val⟩ rs s) w' := by
  obtain ⟨t0, q0⟩ : ∃ t, s = t := ⟨_, rfl⟩
  obtain ⟨rg, rcap, rfl⟩ := Cm.regs_shape hrg (by omega)
  obtain ⟨g', f0, f1, f2, f3, f4, f5, hg, hr⟩ := Cm.node_at hrow hB0 hcb hi hn
  dsimp only at f0 f1 f2 f3 f4 f5 hr
  obtain ⟨wS, hwS⟩ : ∃ wS, w.alloc (.cells #[.int .i64 13, .int .i64 a, .int .i64 b, .int .i64 c3, .int .i64 (num : Int), .slice (some ⟨g', 0, none⟩) val.length val.length] 48) = wS := ⟨_, rfl⟩
  have BS : Below w.heap.size w wS := by rw [← hwS]; exact (Below.refl _ _).alloc (Nat.le_refl _) _
  have X0 : Own wS w.heap.size 48 [.int .i64 13, .int .i64 a, .int .i64 b, .int .i64 c3, .int .i64 (num : Int), .slice (some ⟨g', 0, none⟩) val.length val.length] := by rw [← hwS]; exact ⟨_, heap_alloc_new _ _, rfl⟩
  have LW : Cm.Lg 41 pb cv [] w s w := Cm.Lg.start hsp
  have hsp1 := hsp
  obtain ⟨v1, cs1, hS1⟩ := hsp1
  have p0 := hS1.own.cell 0
  clear hS1 cs1
  rw [hcv] at p0
  simp only [List.cons_append, List.getElem?_cons_zero] at p0
  have HAH := hide (LW.below BS)
  have L0 : Cm.Lg 41 pb cv [] wS t0 wS := by rw [← q0]; exact Cm.Lg.start (LW.below BS).1
  have HBS : Below w0.heap.size w0 wS := hB0.trans (BS.mono hB0.size)
  have HRS := Tr.owns_below hrg BS
  have hiI : (i : Int) < (l.length : Int) := by omega
  rw [q0] at hlen h0 hreg
  obtain ⟨t1, q1⟩ : ∃ t, Cm.reduce rec a b c3 (num : Int) rs t0 = t := ⟨_, rfl⟩
  have C0 := hide (fun (W : World) (L : Cm.Lg 41 pb cv [] wS t0 W) => l8Reduce_any w0 pb cv rec na nb nc rs _ rb t0 W L.1 hp (L.since hp HBS) (L.2.regs (by decide) HRS) h60 (by omega) (by omega) (by omega) a b c3 num hnum (.slice (some ⟨g', 0, none⟩) val.length val.length) ⟨_, _, _, rfl⟩ Ha Hb Hc)
  rw [q1] at C0
  have n1 : True := trivial
  have r1 : True := trivial
  have HF := hide (show t1 = Cm.one rec ⟨13, a, b, c3, (num : Int), val⟩ rs t0 by rw [← q1]; rfl)
  clear q1
  clear n1 r1
  rw [← q0] at HF
  have FIN := hide (fun (W : World) (L : Cm.Lg 41 pb cv [] wS t1 W) => show Cm.Lg 41 pb cv [] w (Cm.one rec ⟨13, a, b, c3, (num : Int), val⟩ rs s) W from (unhide HF) ▸ ((unhide HAH).go L))
  clear hsp hp hB0 hrg HBS LW BS HF hlen h0 hreg hrow hn hr hg hcv hcb hi Ha Hb Hc HRS h60
  clear q0
  go_enter Try.func15, Try.ntmps15
  have y0_0 := (L0.own X0 (by decide)).cell 0
  have y0_1 := (L0.own X0 (by decide)).cell 1
  have y0_2 := (L0.own X0 (by decide)).cell 2
  have y0_3 := (L0.own X0 (by decide)).cell 3
  have y0_4 := (L0.own X0 (by decide)).cell 4
  have y0_5 := (L0.own X0 (by decide)).cell 5
  simp only [List.getElem?_cons_zero, List.getElem?_cons_succ] at y0_0 y0_1 y0_2 y0_3 y0_4 y0_5
  go_wp2_with fail
  try rw [hwS]
  clear hwS f0 f1 f2 f3 f4 f5 p0
  refine ((unhide C0) _ L0).mono ?_
  rintro e w1 ⟨rfl, LY1⟩
  have L1 := L0.go LY1
  go_wp2_with fail
  go_end0
  exact ⟨rfl, (unhide FIN) _ L1⟩

set_option maxRecDepth 100000 in
set_option maxHeartbeats 4000000 in
theorem l8Node_5 (w0 : World) (pb : Nat) (cv : Value) (rec : Cm.Rec) (na nb nc : Nat) (rs : List Int) (rv : Value) (rb : Nat) (s : Cm.St) (w : World) (hsp : ∃ v cs, Cm.Sp 41 w pb cv [] s v cs) (hp : w0.heap.size ≤ pb) (hB0 : Below w0.heap.size w0 w) (hrg : w.ownsRow rb 2 1 rv rs.length (rs.map (Value.int .i64))) (h60 : rs.length = 60) (hlen : s.len + 14 * (1 + na + nb + nc) ≤ 20000) (h0 : 0 ≤ s.regs) (hreg : s.regs + 2 * (1 + (na : Int) + nb + nc) ≤ 20000) (cb : Nat) (l : List Co) (i : Nat) (hcv : cv = .slice (some ⟨cb, 0, none⟩) l.length l.length) (hrow : Co.Row w0 cb l) (hcb : cb < w0.heap.size) (hi : i < l.length) (hl9 : l.length ≤ 900) (a b c3 : Int) (num : Int) (val : List M.Cl) (hn : l.getD i Co.zero = ⟨5, a, b, c3, num, val⟩) (Ha : Cm.Lays w0 pb cv rec na a) (Hb : Cm.Lays w0 pb cv rec nb b) :
    Calls Try.prog 15 #[.pointer (some ⟨pb, 0, none⟩), .int .i64 (i : Int), rv] w fun e w' => e = .returned (.tuple #[]) ∧ Cm.Lg 41 pb cv [] w (Cm.one rec ⟨5, a, b, c3, num, val⟩ rs s) w' := by
  obtain ⟨t0, q0⟩ : ∃ t, s = t := ⟨_, rfl⟩
  obtain ⟨rg, rcap, rfl⟩ := Cm.regs_shape hrg (by omega)
  obtain ⟨g', f0, f1, f2, f3, f4, f5, hg, hr⟩ := Cm.node_at hrow hB0 hcb hi hn
  dsimp only at f0 f1 f2 f3 f4 f5 hr
  obtain ⟨wS, hwS⟩ : ∃ wS, w.alloc (.cells #[.int .i64 5, .int .i64 a, .int .i64 b, .int .i64 c3, .int .i64 num, .slice (some ⟨g', 0, none⟩) val.length val.length] 48) = wS := ⟨_, rfl⟩
  have BS : Below w.heap.size w wS := by rw [← hwS]; exact (Below.refl _ _).alloc (Nat.le_refl _) _
  have X0 : Own wS w.heap.size 48 [.int .i64 5, .int .i64 a, .int .i64 b, .int .i64 c3, .int .i64 num, .slice (some ⟨g', 0, none⟩) val.length val.length] := by rw [← hwS]; exact ⟨_, heap_alloc_new _ _, rfl⟩
  have LW : Cm.Lg 41 pb cv [] w s w := Cm.Lg.start hsp
  have hsp1 := hsp
  obtain ⟨v1, cs1, hS1⟩ := hsp1
  have p0 := hS1.own.cell 0
  clear hS1 cs1
  rw [hcv] at p0
  simp only [List.cons_append, List.getElem?_cons_zero] at p0
  have HAH := hide (LW.below BS)
  have L0 : Cm.Lg 41 pb cv [] wS t0 wS := by rw [← q0]; exact Cm.Lg.start (LW.below BS).1
  have HBS : Below w0.heap.size w0 wS := hB0.trans (BS.mono hB0.size)
  have HRS := Tr.owns_below hrg BS
  have hiI : (i : Int) < (l.length : Int) := by omega
  rw [q0] at hlen h0 hreg
  obtain ⟨t1, q1⟩ : ∃ t, Cm.alt rec a b rs t0 = t := ⟨_, rfl⟩
  have C0 := hide (fun (W : World) (L : Cm.Lg 41 pb cv [] wS t0 W) => l8Alt_any w0 pb cv rec na nb nc rs _ rb t0 W L.1 hp (L.since hp HBS) (L.2.regs (by decide) HRS) h60 (by omega) (by omega) (by omega) a b c3 num (.slice (some ⟨g', 0, none⟩) val.length val.length) ⟨_, _, _, rfl⟩ Ha Hb)
  rw [q1] at C0
  have n1 : True := trivial
  have r1 : True := trivial
  have HF := hide (show t1 = Cm.one rec ⟨5, a, b, c3, num, val⟩ rs t0 by rw [← q1]; rfl)
  clear q1
  clear n1 r1
  rw [← q0] at HF
  have FIN := hide (fun (W : World) (L : Cm.Lg 41 pb cv [] wS t1 W) => show Cm.Lg 41 pb cv [] w (Cm.one rec ⟨5, a, b, c3, num, val⟩ rs s) W from (unhide HF) ▸ ((unhide HAH).go L))
  clear hsp hp hB0 hrg HBS LW BS HF hlen h0 hreg hrow hn hr hg hcv hcb hi Ha Hb HRS h60
  clear q0
  go_enter Try.func15, Try.ntmps15
  have y0_0 := (L0.own X0 (by decide)).cell 0
  have y0_1 := (L0.own X0 (by decide)).cell 1
  have y0_2 := (L0.own X0 (by decide)).cell 2
  have y0_3 := (L0.own X0 (by decide)).cell 3
  have y0_4 := (L0.own X0 (by decide)).cell 4
  have y0_5 := (L0.own X0 (by decide)).cell 5
  simp only [List.getElem?_cons_zero, List.getElem?_cons_succ] at y0_0 y0_1 y0_2 y0_3 y0_4 y0_5
  go_wp2_with fail
  try rw [hwS]
  clear hwS f0 f1 f2 f3 f4 f5 p0
  refine ((unhide C0) _ L0).mono ?_
  rintro e w1 ⟨rfl, LY1⟩
  have L1 := L0.go LY1
  go_wp2_with fail
  go_end0
  exact ⟨rfl, (unhide FIN) _ L1⟩

end Go.Proofs.Ytodpmonbfecfdaa

namespace Go.Proofs.Ytodpmonbfecfdaa
open Go.RowKit
set_option linter.unusedVariables false
set_option linter.unusedSimpArgs false


namespace Cm
/-- What is asked of a core for its code: parts ahead of it, ops, slots and values. -/
structure Good (l : List Co) : Prop where
  fine : Tr.Fine (Co.tree l)
  pos : 0 < l.length
  le : l.length ≤ 900
  ord : Tr.ord (Co.tree l) (l.length - 1) = Tr.up 0 l.length
  op : ∀ i, i < l.length → 1 ≤ (l.getD i Co.zero).op ∧ (l.getD i Co.zero).op ≤ 17
  num : ∀ i, i < l.length → 0 ≤ (l.getD i Co.zero).num ∧ (l.getD i Co.zero).num ≤ 59
  val : ∀ i, i < l.length → (l.getD i Co.zero).val.length ≤ 100000
theorem good_of {l : List Co} (h : Co.fault l = 0) : Good l := by
  have hf := h
  unfold Co.fault at h
  split at h
  · cases h
  rename_i h1
  split at h
  · rename_i h2; exact absurd h h2
  rename_i h2
  have hnf : Co.nf l l.length = 0 := by simpa using h2
  split at h
  · cases h
  rename_i h3
  have hio : Tr.inOrder (Co.tree l) = true := by simpa using h3
  have hfine := Co.fine_of hnf
  have h0 : 0 < l.length := by omega
  refine ⟨hfine, h0, by omega, ?_, fun i hi => ?_, fun i hi => ?_, fun i hi => ?_⟩
  · have := (Tr.inOrder_iff hfine (by rw [Co.tree_length]; exact h0)).1 hio
    rwa [Co.tree_length] at this
  · exact (Co.node_parts (Co.nf_all hnf i hi)).1
  · have hp := (Co.node_parts (Co.nf_all hnf i hi)).2.2.2
    have h1 : 0 ≤ Co.low (l.getD i Co.zero).op := by unfold Co.low; split <;> omega
    have h2 : Co.high (l.getD i Co.zero).op ≤ 59 := by unfold Co.high; split <;> (try split) <;> (try split) <;> omega
    omega
  · have hp := (Co.node_parts (Co.nf_all hnf i hi)).2.2.1
    unfold Co.valF at hp
    split at hp
    · split at hp
      · rename_i h8; exact absurd hp h8
      · rename_i h8
        have h9 : M.valueFault (l.getD i Co.zero).val = 0 := by simpa using h8
        have := (M.fault_zero h9).2.1
        omega
    · split at hp
      · cases hp
      · omega
end Cm
theorem l8Node_says (w0 : World) (pb cb : Nat) (cv : Value) (l : List Co) (G : Cm.Good l) (hp : w0.heap.size ≤ pb) (hcv : cv = .slice (some ⟨cb, 0, none⟩) l.length l.length) (hrow : Co.Row w0 cb l) (hcb : cb < w0.heap.size) (f : Nat) :
    ∀ i, i < l.length → i < f → Cm.Lays w0 pb cv (Cm.code l f) (Cm.sz l f (i : Int)) (i : Int) := by
  induction f with
  | zero => intro i _ h; exact absurd h (Nat.not_lt_zero _)
  | succ f ih =>
    intro i hi hif
    refine ⟨fun rs s => Cm.code_up l (f + 1) (i : Int) rs s, ?_⟩
    intro rs rv rb s w hsp hB0 hrg h60 hlen h0 hreg
    have hlk := G.fine i (by rw [Co.tree_length]; exact hi)
    rw [Co.tree_links l hi] at hlk
    have hop := G.op i hi
    have hnum := G.num i hi
    have hval := G.val i hi
    have hcode : Cm.code l (f + 1) (i : Int) rs s = Cm.one (Cm.code l f) (l.getD i Co.zero) rs s := rfl
    have hsz : Cm.sz l (f + 1) (i : Int) = 1 + (if 1 ≤ Co.kids (l.getD i Co.zero).op then Cm.sz l f (l.getD i Co.zero).a else 0) + (if 2 ≤ Co.kids (l.getD i Co.zero).op then Cm.sz l f (l.getD i Co.zero).b else 0) + (if 3 ≤ Co.kids (l.getD i Co.zero).op then Cm.sz l f (l.getD i Co.zero).c else 0) := by rw [Cm.sz, Int.toNat_natCast]
    rw [hcode]
    rw [hsz] at hlen hreg
    clear hcode hsz
    obtain ⟨n, hn⟩ : ∃ n, l.getD i Co.zero = n := ⟨_, rfl⟩
    rw [hn] at hlk hop hnum hval hlen hreg ⊢
    have kid : ∀ x ∈ [n.a, n.b, n.c].take (Co.kids n.op), Cm.Lays w0 pb cv (Cm.code l f) (Cm.sz l f x) x := by
      intro x hx
      obtain ⟨h1, h2⟩ := hlk x hx
      have h3 := ih x.toNat (by omega) (by omega)
      rwa [Int.toNat_of_nonneg h1] at h3
    obtain ⟨op, a, b, c3, num, val⟩ := n
    dsimp only at *
    have hcase : op = 1 ∨ op = 2 ∨ op = 3 ∨ op = 4 ∨ op = 5 ∨ op = 6 ∨ op = 7 ∨ op = 8 ∨ op = 9 ∨ op = 10 ∨ op = 11 ∨ op = 12 ∨ op = 13 ∨ op = 14 ∨ op = 15 ∨ op = 16 ∨ op = 17 := by omega
    obtain ⟨nn, hnn⟩ : ∃ nn : Nat, num = (nn : Int) := ⟨num.toNat, by omega⟩
    subst hnn
    have hn60 : nn < 60 := by omega
    rcases hcase with rfl | rfl | rfl | rfl | rfl | rfl | rfl | rfl | rfl | rfl | rfl | rfl | rfl | rfl | rfl | rfl | rfl
    · exact l8Node_1 w0 pb cv (Cm.code l f) 0 0 0 rs rv rb s w hsp hp hB0 hrg h60 (by simpa [Co.kids] using hlen) h0 (by simpa [Co.kids] using hreg) cb l i hcv hrow hcb hi G.le a b c3 (nn : Int) val hn
    · exact l8Node_2 w0 pb cv (Cm.code l f) 0 0 0 rs rv rb s w hsp hp hB0 hrg h60 (by simpa [Co.kids] using hlen) h0 (by simpa [Co.kids] using hreg) cb l i hcv hrow hcb hi G.le a b c3 (nn : Int) val hn hval
    · exact l8Node_3 w0 pb cv (Cm.code l f) (Cm.sz l f a) (Cm.sz l f b) 0 rs rv rb s w hsp hp hB0 hrg h60 (by simpa [Co.kids] using hlen) h0 (by simpa [Co.kids] using hreg) cb l i hcv hrow hcb hi G.le a b c3 (nn : Int) val hn (kid a (by simp [Co.kids])) (kid b (by simp [Co.kids]))
    · exact l8Node_4 w0 pb cv (Cm.code l f) (Cm.sz l f a) (Cm.sz l f b) 0 rs rv rb s w hsp hp hB0 hrg h60 (by simpa [Co.kids] using hlen) h0 (by simpa [Co.kids] using hreg) cb l i hcv hrow hcb hi G.le a b c3 (nn : Int) val hn (kid a (by simp [Co.kids])) (kid b (by simp [Co.kids]))
    · exact l8Node_5 w0 pb cv (Cm.code l f) (Cm.sz l f a) (Cm.sz l f b) 0 rs rv rb s w hsp hp hB0 hrg h60 (by simpa [Co.kids] using hlen) h0 (by simpa [Co.kids] using hreg) cb l i hcv hrow hcb hi G.le a b c3 (nn : Int) val hn (kid a (by simp [Co.kids])) (kid b (by simp [Co.kids]))
    · exact l8Node_6 w0 pb cv (Cm.code l f) (Cm.sz l f a) (Cm.sz l f b) 0 rs rv rb s w hsp hp hB0 hrg h60 (by simpa [Co.kids] using hlen) h0 (by simpa [Co.kids] using hreg) cb l i hcv hrow hcb hi G.le a b c3 (nn : Int) val hn (kid a (by simp [Co.kids])) (kid b (by simp [Co.kids]))
    · exact l8Node_7 w0 pb cv (Cm.code l f) (Cm.sz l f a) (Cm.sz l f b) 0 rs rv rb s w hsp hp hB0 hrg h60 (by simpa [Co.kids] using hlen) h0 (by simpa [Co.kids] using hreg) cb l i hcv hrow hcb hi G.le a b c3 (nn : Int) val hn (kid a (by simp [Co.kids])) (kid b (by simp [Co.kids]))
    · exact l8Node_8 w0 pb cv (Cm.code l f) (Cm.sz l f a) 0 0 rs rv rb s w hsp hp hB0 hrg h60 (by simpa [Co.kids] using hlen) h0 (by simpa [Co.kids] using hreg) cb l i hcv hrow hcb hi G.le a b c3 (nn : Int) val hn (kid a (by simp [Co.kids]))
    · exact l8Node_9 w0 pb cv (Cm.code l f) (Cm.sz l f a) 0 0 rs rv rb s w hsp hp hB0 hrg h60 (by simpa [Co.kids] using hlen) h0 (by simpa [Co.kids] using hreg) cb l i hcv hrow hcb hi G.le a b c3 (nn : Int) val hn (kid a (by simp [Co.kids]))
    · exact l8Node_10 w0 pb cv (Cm.code l f) (Cm.sz l f a) 0 0 rs rv rb s w hsp hp hB0 hrg h60 (by simpa [Co.kids] using hlen) h0 (by simpa [Co.kids] using hreg) cb l i hcv hrow hcb hi G.le a b c3 (nn : Int) val hn (kid a (by simp [Co.kids]))
    · exact l8Node_11 w0 pb cv (Cm.code l f) (Cm.sz l f a) (Cm.sz l f b) 0 rs rv rb s w hsp hp hB0 hrg h60 (by simpa [Co.kids] using hlen) h0 (by simpa [Co.kids] using hreg) cb l i hcv hrow hcb hi G.le a b c3 (nn : Int) val hn hval (kid a (by simp [Co.kids])) (kid b (by simp [Co.kids]))
    · exact l8Node_12 w0 pb cv (Cm.code l f) (Cm.sz l f a) (Cm.sz l f b) (Cm.sz l f c3) rs rv rb s w hsp hp hB0 hrg h60 (by simpa [Co.kids] using hlen) h0 (by simpa [Co.kids] using hreg) cb l i hcv hrow hcb hi G.le a b c3 (nn : Int) val hn (kid a (by simp [Co.kids])) (kid b (by simp [Co.kids])) (kid c3 (by simp [Co.kids]))
    · exact l8Node_13 w0 pb cv (Cm.code l f) (Cm.sz l f a) (Cm.sz l f b) (Cm.sz l f c3) rs rv rb s w hsp hp hB0 hrg h60 (by simpa [Co.kids] using hlen) h0 (by simpa [Co.kids] using hreg) cb l i hcv hrow hcb hi G.le a b c3 nn val hn hn60 (kid a (by simp [Co.kids])) (kid b (by simp [Co.kids])) (kid c3 (by simp [Co.kids]))
    · exact l8Node_14 w0 pb cv (Cm.code l f) (Cm.sz l f a) (Cm.sz l f b) 0 rs rv rb s w hsp hp hB0 hrg h60 (by simpa [Co.kids] using hlen) h0 (by simpa [Co.kids] using hreg) cb l i hcv hrow hcb hi G.le a b c3 nn val hn hn60 (kid a (by simp [Co.kids])) (kid b (by simp [Co.kids]))
    · exact l8Node_15 w0 pb cv (Cm.code l f) 0 0 0 rs rv rb s w hsp hp hB0 hrg h60 (by simpa [Co.kids] using hlen) h0 (by simpa [Co.kids] using hreg) cb l i hcv hrow hcb hi G.le a b c3 nn val hn hn60
    · exact l8Node_16 w0 pb cv (Cm.code l f) 0 0 0 rs rv rb s w hsp hp hB0 hrg h60 (by simpa [Co.kids] using hlen) h0 (by simpa [Co.kids] using hreg) cb l i hcv hrow hcb hi G.le a b c3 (nn : Int) val hn
    · exact l8Node_17 w0 pb cv (Cm.code l f) 0 0 0 rs rv rb s w hsp hp hB0 hrg h60 (by simpa [Co.kids] using hlen) h0 (by simpa [Co.kids] using hreg) cb l i hcv hrow hcb hi G.le a b c3 (nn : Int) val hn

end Go.Proofs.Ytodpmonbfecfdaa
