/-
  impl.coder.lay, op by op.
  impl.coder.lay, op by op: the ops that call a helper.
  impl.coder.lay at every place of a core without fault.
-/
import Derived.Test.YtodpmonbfecfdaaCiT
namespace Go.Proofs.Ytodpmonbfecfdaa
open Go.RowKit
set_option linter.unusedVariables false
set_option linter.unusedSimpArgs false


set_option maxRecDepth 100000 in
set_option maxHeartbeats 4000000 in
theorem clay_1 (w0 : World) (pb : Nat) (cv : Value) (rec : Cm.Rec) (na nb nc : Nat) (rs : List Int) (s : Cm.St) (v : Value) (cs : List (Ic × Value)) (w : World) (hsp : Cm.Sp 52 w pb cv (rs.map (Value.int .i64)) s v cs) (hp : w0.heap.size ≤ pb) (hB0 : Below w0.heap.size w0 w) (h60 : rs.length = 60) (hlen : s.len + 14 * (1 + na + nb + nc) ≤ 20000) (h0 : 0 ≤ s.regs) (hreg : s.regs + 2 * (1 + (na : Int) + nb + nc) ≤ 20000) (cb : Nat) (l : List Co) (i : Nat) (hcv : cv = .slice (some ⟨cb, 0, none⟩) l.length l.length) (hrow : Co.Row w0 cb l) (hcb : cb < w0.heap.size) (hi : i < l.length) (hl9 : l.length ≤ 900) (a b c3 : Int) (num : Int) (val : List M.Cl) (hn : l.getD i Co.zero = ⟨1, a, b, c3, num, val⟩) :
    Calls Try.prog 19 #[.pointer (some ⟨pb, 0, none⟩), .int .i64 (i : Int)] w fun e w' => e = .returned (.tuple #[]) ∧ Cm.Li pb cv (rs.map (Value.int .i64)) w v cs (Cm.one rec ⟨1, a, b, c3, num, val⟩ rs s) w' := by
  obtain ⟨g', f0, f1, f2, f3, f4, f5, hg, hr⟩ := Cm.node_at hrow hB0 hcb hi hn
  dsimp only at f0 f1 f2 f3 f4 f5 hr
  have p0 := hsp.own.cell 0
  rw [hcv] at p0
  simp only [List.cons_append, List.getElem?_cons_zero] at p0
  have hiI : (i : Int) < (l.length : Int) := by omega
  obtain ⟨t0, q0⟩ : ∃ t, s = t := ⟨_, rfl⟩
  have HVL := hsp.vlow hp
  obtain ⟨wS, hwS⟩ : ∃ wS, w.alloc (.cells #[.int .i64 1, .int .i64 a, .int .i64 b, .int .i64 c3, .int .i64 num, .slice (some ⟨g', 0, none⟩) val.length val.length] 48) = wS := ⟨_, rfl⟩
  have BS : Below w.heap.size w wS := by rw [← hwS]; exact (Below.refl _ _).alloc (Nat.le_refl _) _
  have X0 : Own wS w.heap.size 48 [.int .i64 1, .int .i64 a, .int .i64 b, .int .i64 c3, .int .i64 num, .slice (some ⟨g', 0, none⟩) val.length val.length] := by rw [← hwS]; exact ⟨_, heap_alloc_new _ _, rfl⟩
  have HN1 : w.heap.size ≠ pb := by have := hsp.own.lt; omega
  have HN2 := hsp.vnew
  have HBS : Below w0.heap.size w0 wS := hB0.trans (BS.mono hB0.size)
  have L0 : Cm.Li pb cv (rs.map (Value.int .i64)) wS v cs t0 wS := by rw [← q0]; exact Cm.Li.start (hsp.below BS)
  rw [q0] at hlen h0 hreg
  have HF : True := trivial
  have FIN := hide (fun (W : World) (L : Cm.Li pb cv (rs.map (Value.int .i64)) wS v cs t0 W) => show Cm.Li pb cv (rs.map (Value.int .i64)) w v cs (Cm.one rec ⟨1, a, b, c3, num, val⟩ rs s) W by subst q0; exact Cm.Li.ahead BS L)
  clear hrow hn hr hg hcv hcb hi
  clear hsp hp hB0 HBS HVL HF hlen h0 hreg BS
  clear q0
  go_enter Try.func19, Try.ntmps19
  have y0_0 := (L0.own X0 HN1 HN2).cell 0
  simp only [List.getElem?_cons_zero, List.getElem?_cons_succ] at y0_0
  go_wp2_with fail
  go_end0
  exact ⟨rfl, (unhide FIN) _ L0⟩

set_option maxRecDepth 100000 in
set_option maxHeartbeats 4000000 in
theorem clay_17 (w0 : World) (pb : Nat) (cv : Value) (rec : Cm.Rec) (na nb nc : Nat) (rs : List Int) (s : Cm.St) (v : Value) (cs : List (Ic × Value)) (w : World) (hsp : Cm.Sp 52 w pb cv (rs.map (Value.int .i64)) s v cs) (hp : w0.heap.size ≤ pb) (hB0 : Below w0.heap.size w0 w) (h60 : rs.length = 60) (hlen : s.len + 14 * (1 + na + nb + nc) ≤ 20000) (h0 : 0 ≤ s.regs) (hreg : s.regs + 2 * (1 + (na : Int) + nb + nc) ≤ 20000) (cb : Nat) (l : List Co) (i : Nat) (hcv : cv = .slice (some ⟨cb, 0, none⟩) l.length l.length) (hrow : Co.Row w0 cb l) (hcb : cb < w0.heap.size) (hi : i < l.length) (hl9 : l.length ≤ 900) (a b c3 : Int) (num : Int) (val : List M.Cl) (hn : l.getD i Co.zero = ⟨17, a, b, c3, num, val⟩) :
    Calls Try.prog 19 #[.pointer (some ⟨pb, 0, none⟩), .int .i64 (i : Int)] w fun e w' => e = .returned (.tuple #[]) ∧ Cm.Li pb cv (rs.map (Value.int .i64)) w v cs (Cm.one rec ⟨17, a, b, c3, num, val⟩ rs s) w' := by
  obtain ⟨g', f0, f1, f2, f3, f4, f5, hg, hr⟩ := Cm.node_at hrow hB0 hcb hi hn
  dsimp only at f0 f1 f2 f3 f4 f5 hr
  have p0 := hsp.own.cell 0
  rw [hcv] at p0
  simp only [List.cons_append, List.getElem?_cons_zero] at p0
  have hiI : (i : Int) < (l.length : Int) := by omega
  obtain ⟨t0, q0⟩ : ∃ t, s = t := ⟨_, rfl⟩
  have HVL := hsp.vlow hp
  obtain ⟨wS, hwS⟩ : ∃ wS, w.alloc (.cells #[.int .i64 17, .int .i64 a, .int .i64 b, .int .i64 c3, .int .i64 num, .slice (some ⟨g', 0, none⟩) val.length val.length] 48) = wS := ⟨_, rfl⟩
  have BS : Below w.heap.size w wS := by rw [← hwS]; exact (Below.refl _ _).alloc (Nat.le_refl _) _
  have X0 : Own wS w.heap.size 48 [.int .i64 17, .int .i64 a, .int .i64 b, .int .i64 c3, .int .i64 num, .slice (some ⟨g', 0, none⟩) val.length val.length] := by rw [← hwS]; exact ⟨_, heap_alloc_new _ _, rfl⟩
  have HN1 : w.heap.size ≠ pb := by have := hsp.own.lt; omega
  have HN2 := hsp.vnew
  have HBS : Below w0.heap.size w0 wS := hB0.trans (BS.mono hB0.size)
  have L0 : Cm.Li pb cv (rs.map (Value.int .i64)) wS v cs t0 wS := by rw [← q0]; exact Cm.Li.start (hsp.below BS)
  rw [q0] at hlen h0 hreg
  obtain ⟨t1, q1⟩ : ∃ t, t0.put 15 0 = t := ⟨_, rfl⟩
  have n1 := Cm.put_len t0 15 0
  have r1 := Cm.put_regs t0 15 0
  rw [q1] at n1 r1
  have C0 := hide (fun (W : World) (L : Cm.Li pb cv (rs.map (Value.int .i64)) wS v cs t0 W) => Cm.put1_li 15 0 L (by omega) q1)
  have HF := hide (show t1 = Cm.one rec ⟨17, a, b, c3, num, val⟩ rs t0 by rw [← q1]; rfl)
  clear q1
  clear n1 r1
  rw [← q0] at HF
  have FIN := hide (fun (W : World) (L : Cm.Li pb cv (rs.map (Value.int .i64)) wS v cs t1 W) => show Cm.Li pb cv (rs.map (Value.int .i64)) w v cs (Cm.one rec ⟨17, a, b, c3, num, val⟩ rs s) W from (unhide HF) ▸ (Cm.Li.ahead BS L))
  clear hrow hn hr hg hcv hcb hi
  clear hsp hp hB0 HBS HVL HF hlen h0 hreg BS
  clear q0
  go_enter Try.func19, Try.ntmps19
  have y0_0 := (L0.own X0 HN1 HN2).cell 0
  simp only [List.getElem?_cons_zero, List.getElem?_cons_succ] at y0_0
  go_wp2_with fail
  try rw [hwS]
  clear hwS f0 f1 f2 f3 f4 f5 p0
  refine ((unhide C0) _ L0).mono ?_
  rintro e w1 ⟨rfl, L1⟩
  go_wp2_with fail
  go_end0
  exact ⟨rfl, (unhide FIN) _ L1⟩

set_option maxRecDepth 100000 in
set_option maxHeartbeats 4000000 in
theorem clay_16 (w0 : World) (pb : Nat) (cv : Value) (rec : Cm.Rec) (na nb nc : Nat) (rs : List Int) (s : Cm.St) (v : Value) (cs : List (Ic × Value)) (w : World) (hsp : Cm.Sp 52 w pb cv (rs.map (Value.int .i64)) s v cs) (hp : w0.heap.size ≤ pb) (hB0 : Below w0.heap.size w0 w) (h60 : rs.length = 60) (hlen : s.len + 14 * (1 + na + nb + nc) ≤ 20000) (h0 : 0 ≤ s.regs) (hreg : s.regs + 2 * (1 + (na : Int) + nb + nc) ≤ 20000) (cb : Nat) (l : List Co) (i : Nat) (hcv : cv = .slice (some ⟨cb, 0, none⟩) l.length l.length) (hrow : Co.Row w0 cb l) (hcb : cb < w0.heap.size) (hi : i < l.length) (hl9 : l.length ≤ 900) (a b c3 : Int) (num : Int) (val : List M.Cl) (hn : l.getD i Co.zero = ⟨16, a, b, c3, num, val⟩) :
    Calls Try.prog 19 #[.pointer (some ⟨pb, 0, none⟩), .int .i64 (i : Int)] w fun e w' => e = .returned (.tuple #[]) ∧ Cm.Li pb cv (rs.map (Value.int .i64)) w v cs (Cm.one rec ⟨16, a, b, c3, num, val⟩ rs s) w' := by
  obtain ⟨g', f0, f1, f2, f3, f4, f5, hg, hr⟩ := Cm.node_at hrow hB0 hcb hi hn
  dsimp only at f0 f1 f2 f3 f4 f5 hr
  have p0 := hsp.own.cell 0
  rw [hcv] at p0
  simp only [List.cons_append, List.getElem?_cons_zero] at p0
  have hiI : (i : Int) < (l.length : Int) := by omega
  obtain ⟨t0, q0⟩ : ∃ t, s = t := ⟨_, rfl⟩
  have HVL := hsp.vlow hp
  obtain ⟨wS, hwS⟩ : ∃ wS, w.alloc (.cells #[.int .i64 16, .int .i64 a, .int .i64 b, .int .i64 c3, .int .i64 num, .slice (some ⟨g', 0, none⟩) val.length val.length] 48) = wS := ⟨_, rfl⟩
  have BS : Below w.heap.size w wS := by rw [← hwS]; exact (Below.refl _ _).alloc (Nat.le_refl _) _
  have X0 : Own wS w.heap.size 48 [.int .i64 16, .int .i64 a, .int .i64 b, .int .i64 c3, .int .i64 num, .slice (some ⟨g', 0, none⟩) val.length val.length] := by rw [← hwS]; exact ⟨_, heap_alloc_new _ _, rfl⟩
  have HN1 : w.heap.size ≠ pb := by have := hsp.own.lt; omega
  have HN2 := hsp.vnew
  have HBS : Below w0.heap.size w0 wS := hB0.trans (BS.mono hB0.size)
  have L0 : Cm.Li pb cv (rs.map (Value.int .i64)) wS v cs t0 wS := by rw [← q0]; exact Cm.Li.start (hsp.below BS)
  rw [q0] at hlen h0 hreg
  obtain ⟨t1, q1⟩ : ∃ t, t0.put 8 num = t := ⟨_, rfl⟩
  have n1 := Cm.put_len t0 8 num
  have r1 := Cm.put_regs t0 8 num
  rw [q1] at n1 r1
  have C0 := hide (fun (W : World) (L : Cm.Li pb cv (rs.map (Value.int .i64)) wS v cs t0 W) => Cm.put1_li 8 num L (by omega) q1)
  have HF := hide (show t1 = Cm.one rec ⟨16, a, b, c3, num, val⟩ rs t0 by rw [← q1]; rfl)
  clear q1
  clear n1 r1
  rw [← q0] at HF
  have FIN := hide (fun (W : World) (L : Cm.Li pb cv (rs.map (Value.int .i64)) wS v cs t1 W) => show Cm.Li pb cv (rs.map (Value.int .i64)) w v cs (Cm.one rec ⟨16, a, b, c3, num, val⟩ rs s) W from (unhide HF) ▸ (Cm.Li.ahead BS L))
  clear hrow hn hr hg hcv hcb hi
  clear hsp hp hB0 HBS HVL HF hlen h0 hreg BS
  clear q0
  go_enter Try.func19, Try.ntmps19
  have y0_0 := (L0.own X0 HN1 HN2).cell 0
  have y0_4 := (L0.own X0 HN1 HN2).cell 4
  simp only [List.getElem?_cons_zero, List.getElem?_cons_succ] at y0_0 y0_4
  go_wp2_with fail
  try rw [hwS]
  clear hwS f0 f1 f2 f3 f4 f5 p0
  refine ((unhide C0) _ L0).mono ?_
  rintro e w1 ⟨rfl, L1⟩
  go_wp2_with fail
  go_end0
  exact ⟨rfl, (unhide FIN) _ L1⟩

set_option maxRecDepth 100000 in
set_option maxHeartbeats 4000000 in
theorem clay_3 (w0 : World) (pb : Nat) (cv : Value) (rec : Cm.Rec) (na nb nc : Nat) (rs : List Int) (s : Cm.St) (v : Value) (cs : List (Ic × Value)) (w : World) (hsp : Cm.Sp 52 w pb cv (rs.map (Value.int .i64)) s v cs) (hp : w0.heap.size ≤ pb) (hB0 : Below w0.heap.size w0 w) (h60 : rs.length = 60) (hlen : s.len + 14 * (1 + na + nb + nc) ≤ 20000) (h0 : 0 ≤ s.regs) (hreg : s.regs + 2 * (1 + (na : Int) + nb + nc) ≤ 20000) (cb : Nat) (l : List Co) (i : Nat) (hcv : cv = .slice (some ⟨cb, 0, none⟩) l.length l.length) (hrow : Co.Row w0 cb l) (hcb : cb < w0.heap.size) (hi : i < l.length) (hl9 : l.length ≤ 900) (a b c3 : Int) (num : Int) (val : List M.Cl) (hn : l.getD i Co.zero = ⟨3, a, b, c3, num, val⟩) (Ha : Cm.LaysI w0 pb cv rec na a) (Hb : Cm.LaysI w0 pb cv rec nb b) :
    Calls Try.prog 19 #[.pointer (some ⟨pb, 0, none⟩), .int .i64 (i : Int)] w fun e w' => e = .returned (.tuple #[]) ∧ Cm.Li pb cv (rs.map (Value.int .i64)) w v cs (Cm.one rec ⟨3, a, b, c3, num, val⟩ rs s) w' := by
  obtain ⟨g', f0, f1, f2, f3, f4, f5, hg, hr⟩ := Cm.node_at hrow hB0 hcb hi hn
  dsimp only at f0 f1 f2 f3 f4 f5 hr
  have p0 := hsp.own.cell 0
  rw [hcv] at p0
  simp only [List.cons_append, List.getElem?_cons_zero] at p0
  have hiI : (i : Int) < (l.length : Int) := by omega
  obtain ⟨t0, q0⟩ : ∃ t, s = t := ⟨_, rfl⟩
  have HVL := hsp.vlow hp
  obtain ⟨wS, hwS⟩ : ∃ wS, w.alloc (.cells #[.int .i64 3, .int .i64 a, .int .i64 b, .int .i64 c3, .int .i64 num, .slice (some ⟨g', 0, none⟩) val.length val.length] 48) = wS := ⟨_, rfl⟩
  have BS : Below w.heap.size w wS := by rw [← hwS]; exact (Below.refl _ _).alloc (Nat.le_refl _) _
  have X0 : Own wS w.heap.size 48 [.int .i64 3, .int .i64 a, .int .i64 b, .int .i64 c3, .int .i64 num, .slice (some ⟨g', 0, none⟩) val.length val.length] := by rw [← hwS]; exact ⟨_, heap_alloc_new _ _, rfl⟩
  have HN1 : w.heap.size ≠ pb := by have := hsp.own.lt; omega
  have HN2 := hsp.vnew
  have HBS : Below w0.heap.size w0 wS := hB0.trans (BS.mono hB0.size)
  have L0 : Cm.Li pb cv (rs.map (Value.int .i64)) wS v cs t0 wS := by rw [← q0]; exact Cm.Li.start (hsp.below BS)
  rw [q0] at hlen h0 hreg
  obtain ⟨t1, q1⟩ : ∃ t, rec a rs t0 = t := ⟨_, rfl⟩
  have n1 := Ha.1 rs t0
  rw [q1] at n1
  obtain ⟨n1, m1, r1, x1⟩ := n1
  have C0 := hide (fun (W : World) (L : Cm.Li pb cv (rs.map (Value.int .i64)) wS v cs t0 W) => Ha.at hp HBS HVL L h60 (by omega) (by omega) (by omega) q1)
  obtain ⟨t2, q2⟩ : ∃ t, rec b rs t1 = t := ⟨_, rfl⟩
  have n2 := Hb.1 rs t1
  rw [q2] at n2
  obtain ⟨n2, m2, r2, x2⟩ := n2
  have C1 := hide (fun (W : World) (L : Cm.Li pb cv (rs.map (Value.int .i64)) wS v cs t1 W) => Hb.at hp HBS HVL L h60 (by omega) (by omega) (by omega) q2)
  have HF := hide (show t2 = Cm.one rec ⟨3, a, b, c3, num, val⟩ rs t0 by rw [← q2, ← q1]; rfl)
  clear q1 q2
  clear n1 r1 m1 x1 n2 r2 m2 x2
  rw [← q0] at HF
  have FIN := hide (fun (W : World) (L : Cm.Li pb cv (rs.map (Value.int .i64)) wS v cs t2 W) => show Cm.Li pb cv (rs.map (Value.int .i64)) w v cs (Cm.one rec ⟨3, a, b, c3, num, val⟩ rs s) W from (unhide HF) ▸ (Cm.Li.ahead BS L))
  clear hrow hn hr hg hcv hcb hi
  clear hsp hp hB0 HBS HVL HF hlen h0 hreg BS Ha Hb
  clear q0
  go_enter Try.func19, Try.ntmps19
  have y0_0 := (L0.own X0 HN1 HN2).cell 0
  have y0_1 := (L0.own X0 HN1 HN2).cell 1
  simp only [List.getElem?_cons_zero, List.getElem?_cons_succ] at y0_0 y0_1
  go_wp2_with fail
  try rw [hwS]
  clear hwS f0 f1 f2 f3 f4 f5 p0
  refine ((unhide C0) _ L0).mono ?_
  rintro e w1 ⟨rfl, L1⟩
  have y1_2 := (L1.own X0 HN1 HN2).cell 2
  simp only [List.getElem?_cons_zero, List.getElem?_cons_succ] at y1_2
  go_wp2_with fail
  refine ((unhide C1) _ L1).mono ?_
  rintro e w2 ⟨rfl, L2⟩
  go_wp2_with fail
  go_end0
  exact ⟨rfl, (unhide FIN) _ L2⟩

set_option maxRecDepth 100000 in
set_option maxHeartbeats 4000000 in
theorem clay_8 (w0 : World) (pb : Nat) (cv : Value) (rec : Cm.Rec) (na nb nc : Nat) (rs : List Int) (s : Cm.St) (v : Value) (cs : List (Ic × Value)) (w : World) (hsp : Cm.Sp 52 w pb cv (rs.map (Value.int .i64)) s v cs) (hp : w0.heap.size ≤ pb) (hB0 : Below w0.heap.size w0 w) (h60 : rs.length = 60) (hlen : s.len + 14 * (1 + na + nb + nc) ≤ 20000) (h0 : 0 ≤ s.regs) (hreg : s.regs + 2 * (1 + (na : Int) + nb + nc) ≤ 20000) (cb : Nat) (l : List Co) (i : Nat) (hcv : cv = .slice (some ⟨cb, 0, none⟩) l.length l.length) (hrow : Co.Row w0 cb l) (hcb : cb < w0.heap.size) (hi : i < l.length) (hl9 : l.length ≤ 900) (a b c3 : Int) (num : Int) (val : List M.Cl) (hn : l.getD i Co.zero = ⟨8, a, b, c3, num, val⟩) (Ha : Cm.LaysI w0 pb cv rec na a) :
    Calls Try.prog 19 #[.pointer (some ⟨pb, 0, none⟩), .int .i64 (i : Int)] w fun e w' => e = .returned (.tuple #[]) ∧ Cm.Li pb cv (rs.map (Value.int .i64)) w v cs (Cm.one rec ⟨8, a, b, c3, num, val⟩ rs s) w' := by
  obtain ⟨g', f0, f1, f2, f3, f4, f5, hg, hr⟩ := Cm.node_at hrow hB0 hcb hi hn
  dsimp only at f0 f1 f2 f3 f4 f5 hr
  have p0 := hsp.own.cell 0
  rw [hcv] at p0
  simp only [List.cons_append, List.getElem?_cons_zero] at p0
  have hiI : (i : Int) < (l.length : Int) := by omega
  obtain ⟨t0, q0⟩ : ∃ t, s = t := ⟨_, rfl⟩
  have HVL := hsp.vlow hp
  obtain ⟨wS, hwS⟩ : ∃ wS, w.alloc (.cells #[.int .i64 8, .int .i64 a, .int .i64 b, .int .i64 c3, .int .i64 num, .slice (some ⟨g', 0, none⟩) val.length val.length] 48) = wS := ⟨_, rfl⟩
  have BS : Below w.heap.size w wS := by rw [← hwS]; exact (Below.refl _ _).alloc (Nat.le_refl _) _
  have X0 : Own wS w.heap.size 48 [.int .i64 8, .int .i64 a, .int .i64 b, .int .i64 c3, .int .i64 num, .slice (some ⟨g', 0, none⟩) val.length val.length] := by rw [← hwS]; exact ⟨_, heap_alloc_new _ _, rfl⟩
  have HN1 : w.heap.size ≠ pb := by have := hsp.own.lt; omega
  have HN2 := hsp.vnew
  have HBS : Below w0.heap.size w0 wS := hB0.trans (BS.mono hB0.size)
  have L0 : Cm.Li pb cv (rs.map (Value.int .i64)) wS v cs t0 wS := by rw [← q0]; exact Cm.Li.start (hsp.below BS)
  rw [q0] at hlen h0 hreg
  obtain ⟨t1, q1⟩ : ∃ t, rec a rs t0 = t := ⟨_, rfl⟩
  have n1 := Ha.1 rs t0
  rw [q1] at n1
  obtain ⟨n1, m1, r1, x1⟩ := n1
  have C0 := hide (fun (W : World) (L : Cm.Li pb cv (rs.map (Value.int .i64)) wS v cs t0 W) => Ha.at hp HBS HVL L h60 (by omega) (by omega) (by omega) q1)
  obtain ⟨t2, q2⟩ : ∃ t, t1.put 7 0 = t := ⟨_, rfl⟩
  have n2 := Cm.put_len t1 7 0
  have r2 := Cm.put_regs t1 7 0
  rw [q2] at n2 r2
  have C1 := hide (fun (W : World) (L : Cm.Li pb cv (rs.map (Value.int .i64)) wS v cs t1 W) => Cm.put1_li 7 0 L (by omega) q2)
  have HF := hide (show t2 = Cm.one rec ⟨8, a, b, c3, num, val⟩ rs t0 by rw [← q2, ← q1]; rfl)
  clear q1 q2
  clear n1 r1 m1 x1 n2 r2
  rw [← q0] at HF
  have FIN := hide (fun (W : World) (L : Cm.Li pb cv (rs.map (Value.int .i64)) wS v cs t2 W) => show Cm.Li pb cv (rs.map (Value.int .i64)) w v cs (Cm.one rec ⟨8, a, b, c3, num, val⟩ rs s) W from (unhide HF) ▸ (Cm.Li.ahead BS L))
  clear hrow hn hr hg hcv hcb hi
  clear hsp hp hB0 HBS HVL HF hlen h0 hreg BS Ha
  clear q0
  go_enter Try.func19, Try.ntmps19
  have y0_0 := (L0.own X0 HN1 HN2).cell 0
  have y0_1 := (L0.own X0 HN1 HN2).cell 1
  simp only [List.getElem?_cons_zero, List.getElem?_cons_succ] at y0_0 y0_1
  go_wp2_with fail
  try rw [hwS]
  clear hwS f0 f1 f2 f3 f4 f5 p0
  refine ((unhide C0) _ L0).mono ?_
  rintro e w1 ⟨rfl, L1⟩
  go_wp2_with fail
  refine ((unhide C1) _ L1).mono ?_
  rintro e w2 ⟨rfl, L2⟩
  go_wp2_with fail
  go_end0
  exact ⟨rfl, (unhide FIN) _ L2⟩

set_option maxRecDepth 100000 in
set_option maxHeartbeats 4000000 in
theorem clay_9 (w0 : World) (pb : Nat) (cv : Value) (rec : Cm.Rec) (na nb nc : Nat) (rs : List Int) (s : Cm.St) (v : Value) (cs : List (Ic × Value)) (w : World) (hsp : Cm.Sp 52 w pb cv (rs.map (Value.int .i64)) s v cs) (hp : w0.heap.size ≤ pb) (hB0 : Below w0.heap.size w0 w) (h60 : rs.length = 60) (hlen : s.len + 14 * (1 + na + nb + nc) ≤ 20000) (h0 : 0 ≤ s.regs) (hreg : s.regs + 2 * (1 + (na : Int) + nb + nc) ≤ 20000) (cb : Nat) (l : List Co) (i : Nat) (hcv : cv = .slice (some ⟨cb, 0, none⟩) l.length l.length) (hrow : Co.Row w0 cb l) (hcb : cb < w0.heap.size) (hi : i < l.length) (hl9 : l.length ≤ 900) (a b c3 : Int) (num : Int) (val : List M.Cl) (hn : l.getD i Co.zero = ⟨9, a, b, c3, num, val⟩) (Ha : Cm.LaysI w0 pb cv rec na a) :
    Calls Try.prog 19 #[.pointer (some ⟨pb, 0, none⟩), .int .i64 (i : Int)] w fun e w' => e = .returned (.tuple #[]) ∧ Cm.Li pb cv (rs.map (Value.int .i64)) w v cs (Cm.one rec ⟨9, a, b, c3, num, val⟩ rs s) w' := by
  obtain ⟨g', f0, f1, f2, f3, f4, f5, hg, hr⟩ := Cm.node_at hrow hB0 hcb hi hn
  dsimp only at f0 f1 f2 f3 f4 f5 hr
  have p0 := hsp.own.cell 0
  rw [hcv] at p0
  simp only [List.cons_append, List.getElem?_cons_zero] at p0
  have hiI : (i : Int) < (l.length : Int) := by omega
  obtain ⟨t0, q0⟩ : ∃ t, s = t := ⟨_, rfl⟩
  have HVL := hsp.vlow hp
  obtain ⟨wS, hwS⟩ : ∃ wS, w.alloc (.cells #[.int .i64 9, .int .i64 a, .int .i64 b, .int .i64 c3, .int .i64 num, .slice (some ⟨g', 0, none⟩) val.length val.length] 48) = wS := ⟨_, rfl⟩
  have BS : Below w.heap.size w wS := by rw [← hwS]; exact (Below.refl _ _).alloc (Nat.le_refl _) _
  have X0 : Own wS w.heap.size 48 [.int .i64 9, .int .i64 a, .int .i64 b, .int .i64 c3, .int .i64 num, .slice (some ⟨g', 0, none⟩) val.length val.length] := by rw [← hwS]; exact ⟨_, heap_alloc_new _ _, rfl⟩
  have HN1 : w.heap.size ≠ pb := by have := hsp.own.lt; omega
  have HN2 := hsp.vnew
  have HBS : Below w0.heap.size w0 wS := hB0.trans (BS.mono hB0.size)
  have L0 : Cm.Li pb cv (rs.map (Value.int .i64)) wS v cs t0 wS := by rw [← q0]; exact Cm.Li.start (hsp.below BS)
  rw [q0] at hlen h0 hreg
  obtain ⟨t1, q1⟩ : ∃ t, t0.put 13 0 = t := ⟨_, rfl⟩
  have n1 := Cm.put_len t0 13 0
  have r1 := Cm.put_regs t0 13 0
  rw [q1] at n1 r1
  have C0 := hide (fun (W : World) (L : Cm.Li pb cv (rs.map (Value.int .i64)) wS v cs t0 W) => Cm.jump_li 13 L (by omega) q1)
  obtain ⟨t2, q2⟩ : ∃ t, rec a rs t1 = t := ⟨_, rfl⟩
  have n2 := Ha.1 rs t1
  rw [q2] at n2
  obtain ⟨n2, m2, r2, x2⟩ := n2
  have C1 := hide (fun (W : World) (L : Cm.Li pb cv (rs.map (Value.int .i64)) wS v cs t1 W) => Ha.at hp HBS HVL L h60 (by omega) (by omega) (by omega) q2)
  obtain ⟨t3, q3⟩ : ∃ t, t2.here t0.len = t := ⟨_, rfl⟩
  have n3 := Cm.here_len t2 t0.len
  have r3 := Cm.here_regs t2 t0.len
  rw [q3] at n3 r3
  have C2 := hide (fun (W : World) (L : Cm.Li pb cv (rs.map (Value.int .i64)) wS v cs t2 W) => Cm.land_li t0.len L (by omega) (by omega) q3)
  have HF := hide (show t3 = Cm.one rec ⟨9, a, b, c3, num, val⟩ rs t0 by rw [← q3, ← q2, ← q1]; rfl)
  clear q1 q2 q3
  clear n1 r1 n2 r2 m2 x2 n3 r3
  rw [← q0] at HF
  have FIN := hide (fun (W : World) (L : Cm.Li pb cv (rs.map (Value.int .i64)) wS v cs t3 W) => show Cm.Li pb cv (rs.map (Value.int .i64)) w v cs (Cm.one rec ⟨9, a, b, c3, num, val⟩ rs s) W from (unhide HF) ▸ (Cm.Li.ahead BS L))
  clear hrow hn hr hg hcv hcb hi
  clear hsp hp hB0 HBS HVL HF hlen h0 hreg BS Ha
  clear q0
  go_enter Try.func19, Try.ntmps19
  have y0_0 := (L0.own X0 HN1 HN2).cell 0
  simp only [List.getElem?_cons_zero, List.getElem?_cons_succ] at y0_0
  go_wp2_with fail
  try rw [hwS]
  clear hwS f0 f1 f2 f3 f4 f5 p0
  refine ((unhide C0) _ L0).mono ?_
  rintro e w1 ⟨rfl, L1⟩
  have y1_1 := (L1.own X0 HN1 HN2).cell 1
  simp only [List.getElem?_cons_zero, List.getElem?_cons_succ] at y1_1
  go_wp2_with fail
  refine ((unhide C1) _ L1).mono ?_
  rintro e w2 ⟨rfl, L2⟩
  go_wp2_with fail
  refine ((unhide C2) _ L2).mono ?_
  rintro e w3 ⟨rfl, L3⟩
  go_wp2_with fail
  go_end0
  exact ⟨rfl, (unhide FIN) _ L3⟩

set_option maxRecDepth 100000 in
set_option maxHeartbeats 4000000 in
theorem clay_2 (w0 : World) (pb : Nat) (cv : Value) (rec : Cm.Rec) (na nb nc : Nat) (rs : List Int) (s : Cm.St) (v : Value) (cs : List (Ic × Value)) (w : World) (hsp : Cm.Sp 52 w pb cv (rs.map (Value.int .i64)) s v cs) (hp : w0.heap.size ≤ pb) (hB0 : Below w0.heap.size w0 w) (h60 : rs.length = 60) (hlen : s.len + 14 * (1 + na + nb + nc) ≤ 20000) (h0 : 0 ≤ s.regs) (hreg : s.regs + 2 * (1 + (na : Int) + nb + nc) ≤ 20000) (cb : Nat) (l : List Co) (i : Nat) (hcv : cv = .slice (some ⟨cb, 0, none⟩) l.length l.length) (hrow : Co.Row w0 cb l) (hcb : cb < w0.heap.size) (hi : i < l.length) (hl9 : l.length ≤ 900) (a b c3 : Int) (num : Int) (val : List M.Cl) (hn : l.getD i Co.zero = ⟨2, a, b, c3, num, val⟩) (hval : val.length ≤ 100000) :
    Calls Try.prog 19 #[.pointer (some ⟨pb, 0, none⟩), .int .i64 (i : Int)] w fun e w' => e = .returned (.tuple #[]) ∧ Cm.Li pb cv (rs.map (Value.int .i64)) w v cs (Cm.one rec ⟨2, a, b, c3, num, val⟩ rs s) w' := by
  obtain ⟨g', f0, f1, f2, f3, f4, f5, hg, hr⟩ := Cm.node_at hrow hB0 hcb hi hn
  dsimp only at f0 f1 f2 f3 f4 f5 hr
  have p0 := hsp.own.cell 0
  rw [hcv] at p0
  simp only [List.cons_append, List.getElem?_cons_zero] at p0
  have hiI : (i : Int) < (l.length : Int) := by omega
  obtain ⟨t0, q0⟩ : ∃ t, s = t := ⟨_, rfl⟩
  have HVL := hsp.vlow hp
  obtain ⟨wS, hwS⟩ : ∃ wS, w.alloc (.cells #[.int .i64 2, .int .i64 a, .int .i64 b, .int .i64 c3, .int .i64 num, .slice (some ⟨g', 0, none⟩) val.length val.length] 48) = wS := ⟨_, rfl⟩
  have BS : Below w.heap.size w wS := by rw [← hwS]; exact (Below.refl _ _).alloc (Nat.le_refl _) _
  have X0 : Own wS w.heap.size 48 [.int .i64 2, .int .i64 a, .int .i64 b, .int .i64 c3, .int .i64 num, .slice (some ⟨g', 0, none⟩) val.length val.length] := by rw [← hwS]; exact ⟨_, heap_alloc_new _ _, rfl⟩
  have HN1 : w.heap.size ≠ pb := by have := hsp.own.lt; omega
  have HN2 := hsp.vnew
  have HBS : Below w0.heap.size w0 wS := hB0.trans (BS.mono hB0.size)
  have L0 : Cm.Li pb cv (rs.map (Value.int .i64)) wS v cs t0 wS := by rw [← q0]; exact Cm.Li.start (hsp.below BS)
  rw [q0] at hlen h0 hreg
  obtain ⟨t1, q1⟩ : ∃ t, (t0.put 2 0).val 3 val = t := ⟨_, rfl⟩
  have n1 := Cm.putv_len t0 2 0 3 val
  have r1 := Cm.putv_regs t0 2 0 3 val
  rw [q1] at n1 r1
  have CC := hide (cclone_any val g' 0 val.length wS (hr.below HBS hg) (Nat.lt_of_lt_of_le hg HBS.size) (by omega))
  have C0 := hide (fun (U W : World) (x : Value) (L : Cm.Li pb cv (rs.map (Value.int .i64)) wS v cs t0 U) (hb : Below U.heap.size U W) (hx : Res W U.heap.size x val) => Cm.putv_li 2 0 3 val L hb (by omega) hx q1)
  have HF := hide (show t1 = Cm.one rec ⟨2, a, b, c3, num, val⟩ rs t0 by rw [← q1]; rfl)
  clear q1
  clear n1 r1
  rw [← q0] at HF
  have FIN := hide (fun (W : World) (L : Cm.Li pb cv (rs.map (Value.int .i64)) wS v cs t1 W) => show Cm.Li pb cv (rs.map (Value.int .i64)) w v cs (Cm.one rec ⟨2, a, b, c3, num, val⟩ rs s) W from (unhide HF) ▸ (Cm.Li.ahead BS L))
  clear hrow hn hr hg hcv hcb hi
  clear hsp hp hB0 HBS HVL HF hlen h0 hreg BS
  clear q0
  go_enter Try.func19, Try.ntmps19
  have y0_0 := (L0.own X0 HN1 HN2).cell 0
  have y0_5 := (L0.own X0 HN1 HN2).cell 5
  simp only [List.getElem?_cons_zero, List.getElem?_cons_succ] at y0_0 y0_5
  go_wp2_with fail
  try rw [hwS]
  clear hwS f0 f1 f2 f3 f4 f5 p0
  refine (unhide CC).mono ?_
  rintro e u0 ⟨x0, rfl, hx0, hb0⟩
  obtain ⟨xa, xn, xc, rfl⟩ := hx0.shape
  go_wp2_with fail
  refine ((unhide C0) _ _ _ L0 hb0 hx0).mono ?_
  rintro e w1 ⟨rfl, L1⟩
  go_wp2_with fail
  go_end0
  exact ⟨rfl, (unhide FIN) _ L1⟩

set_option maxRecDepth 100000 in
set_option maxHeartbeats 4000000 in
theorem clay_15 (w0 : World) (pb : Nat) (cv : Value) (rec : Cm.Rec) (na nb nc : Nat) (rs : List Int) (s : Cm.St) (v : Value) (cs : List (Ic × Value)) (w : World) (hsp : Cm.Sp 52 w pb cv (rs.map (Value.int .i64)) s v cs) (hp : w0.heap.size ≤ pb) (hB0 : Below w0.heap.size w0 w) (h60 : rs.length = 60) (hlen : s.len + 14 * (1 + na + nb + nc) ≤ 20000) (h0 : 0 ≤ s.regs) (hreg : s.regs + 2 * (1 + (na : Int) + nb + nc) ≤ 20000) (cb : Nat) (l : List Co) (i : Nat) (hcv : cv = .slice (some ⟨cb, 0, none⟩) l.length l.length) (hrow : Co.Row w0 cb l) (hcb : cb < w0.heap.size) (hi : i < l.length) (hl9 : l.length ≤ 900) (a b c3 : Int) (num : Nat) (val : List M.Cl) (hn : l.getD i Co.zero = ⟨15, a, b, c3, (num : Int), val⟩) (hnum : num < 60) :
    Calls Try.prog 19 #[.pointer (some ⟨pb, 0, none⟩), .int .i64 (i : Int)] w fun e w' => e = .returned (.tuple #[]) ∧ Cm.Li pb cv (rs.map (Value.int .i64)) w v cs (Cm.one rec ⟨15, a, b, c3, (num : Int), val⟩ rs s) w' := by
  obtain ⟨g', f0, f1, f2, f3, f4, f5, hg, hr⟩ := Cm.node_at hrow hB0 hcb hi hn
  dsimp only at f0 f1 f2 f3 f4 f5 hr
  have p0 := hsp.own.cell 0
  rw [hcv] at p0
  simp only [List.cons_append, List.getElem?_cons_zero] at p0
  have hiI : (i : Int) < (l.length : Int) := by omega
  obtain ⟨t0, q0⟩ : ∃ t, s = t := ⟨_, rfl⟩
  have HVL := hsp.vlow hp
  obtain ⟨wS, hwS⟩ : ∃ wS, w.alloc (.cells #[.int .i64 15, .int .i64 a, .int .i64 b, .int .i64 c3, .int .i64 (num : Int), .slice (some ⟨g', 0, none⟩) val.length val.length] 48) = wS := ⟨_, rfl⟩
  have BS : Below w.heap.size w wS := by rw [← hwS]; exact (Below.refl _ _).alloc (Nat.le_refl _) _
  have X0 : Own wS w.heap.size 48 [.int .i64 15, .int .i64 a, .int .i64 b, .int .i64 c3, .int .i64 (num : Int), .slice (some ⟨g', 0, none⟩) val.length val.length] := by rw [← hwS]; exact ⟨_, heap_alloc_new _ _, rfl⟩
  have HN1 : w.heap.size ≠ pb := by have := hsp.own.lt; omega
  have HN2 := hsp.vnew
  have HBS : Below w0.heap.size w0 wS := hB0.trans (BS.mono hB0.size)
  have L0 : Cm.Li pb cv (rs.map (Value.int .i64)) wS v cs t0 wS := by rw [← q0]; exact Cm.Li.start (hsp.below BS)
  rw [q0] at hlen h0 hreg
  obtain ⟨t1, q1⟩ : ∃ t, (t0.put 2 0).put 17 (rs.getD num 0) = t := ⟨_, rfl⟩
  have n1 := Cm.put2_len t0 2 0 17 (rs.getD num 0)
  have r1 := Cm.put2_regs t0 2 0 17 (rs.getD num 0)
  rw [q1] at n1 r1
  have yr := (hsp.below BS).getTl (k := num) (by omega)
  have HGT := hide (fun (t : Cm.St) (W : World) (L : Cm.Li pb cv (rs.map (Value.int .i64)) wS v cs t W) => show W.cell? ⟨pb, 3 + num, none⟩ = some (.int .i64 (rs.getD num 0)) by obtain ⟨v2, cs2, h2, _⟩ := L; exact h2.getTl (k := num) (by omega))
  obtain ⟨x, hx⟩ : ∃ x, rs.getD num 0 = x := ⟨_, rfl⟩
  rw [hx] at yr HGT
  have C0 := hide (fun (W : World) (L : Cm.Li pb cv (rs.map (Value.int .i64)) wS v cs t0 W) => Cm.put2_li (s' := t1) 2 0 17 x L (by omega) (by rw [← hx]; exact q1))
  have hnI : (num : Int) < 60 := by omega
  have hn0 : (0 : Int) ≤ (num : Int) := by omega
  have LD := L0.below ((Below.refl wS.heap.size wS).drew)
  clear hx hnum
  have HF := hide (show t1 = Cm.one rec ⟨15, a, b, c3, (num : Int), val⟩ rs t0 by rw [← q1]; rfl)
  clear q1
  clear n1 r1
  rw [← q0] at HF
  have FIN := hide (fun (W : World) (L : Cm.Li pb cv (rs.map (Value.int .i64)) wS v cs t1 W) => show Cm.Li pb cv (rs.map (Value.int .i64)) w v cs (Cm.one rec ⟨15, a, b, c3, (num : Int), val⟩ rs s) W from (unhide HF) ▸ (Cm.Li.ahead BS L))
  clear hrow hn hr hg hcv hcb hi
  clear hsp hp hB0 HBS HVL HF hlen h0 hreg BS
  clear q0
  go_enter Try.func19, Try.ntmps19
  have y0_0 := (L0.own X0 HN1 HN2).cell 0
  have y0_4 := (L0.own X0 HN1 HN2).cell 4
  simp only [List.getElem?_cons_zero, List.getElem?_cons_succ] at y0_0 y0_4
  go_wp2_with fail
  try rw [hwS]
  clear hwS f0 f1 f2 f3 f4 f5 p0
  go_region_held3 (fun w' => w'.cell? ⟨w.heap.size, 4, none⟩ = some (.int .i64 (num : Int)) ∧ w'.cell? ⟨pb, 3 + num, none⟩ = some (.int .i64 x)) (first | exact ⟨z4, zr⟩ | assumption | exact ⟨y0_4, yr⟩ | go_keep)
    (first | (go_at_call 20; refine ((unhide C0) _ LD).mono ?_; rintro e w1 ⟨rfl, L1⟩; have z4 := (L1.own X0 HN1 HN2).cell 4; have zr := (unhide HGT) _ _ L1; simp only [List.getElem?_cons_zero, List.getElem?_cons_succ] at z4))
  go_wp2_with fail
  go_end0
  exact ⟨rfl, (unhide FIN) _ L1⟩

set_option maxRecDepth 100000 in
set_option maxHeartbeats 4000000 in
theorem clay_11 (w0 : World) (pb : Nat) (cv : Value) (rec : Cm.Rec) (na nb nc : Nat) (rs : List Int) (s : Cm.St) (v : Value) (cs : List (Ic × Value)) (w : World) (hsp : Cm.Sp 52 w pb cv (rs.map (Value.int .i64)) s v cs) (hp : w0.heap.size ≤ pb) (hB0 : Below w0.heap.size w0 w) (h60 : rs.length = 60) (hlen : s.len + 14 * (1 + na + nb + nc) ≤ 20000) (h0 : 0 ≤ s.regs) (hreg : s.regs + 2 * (1 + (na : Int) + nb + nc) ≤ 20000) (cb : Nat) (l : List Co) (i : Nat) (hcv : cv = .slice (some ⟨cb, 0, none⟩) l.length l.length) (hrow : Co.Row w0 cb l) (hcb : cb < w0.heap.size) (hi : i < l.length) (hl9 : l.length ≤ 900) (a b c3 : Int) (num : Int) (val : List M.Cl) (hn : l.getD i Co.zero = ⟨11, a, b, c3, num, val⟩) (hval : val.length ≤ 100000) (Ha : Cm.LaysI w0 pb cv rec na a) (Hb : Cm.LaysI w0 pb cv rec nb b) :
    Calls Try.prog 19 #[.pointer (some ⟨pb, 0, none⟩), .int .i64 (i : Int)] w fun e w' => e = .returned (.tuple #[]) ∧ Cm.Li pb cv (rs.map (Value.int .i64)) w v cs (Cm.one rec ⟨11, a, b, c3, num, val⟩ rs s) w' := by
  obtain ⟨g', f0, f1, f2, f3, f4, f5, hg, hr⟩ := Cm.node_at hrow hB0 hcb hi hn
  dsimp only at f0 f1 f2 f3 f4 f5 hr
  have p0 := hsp.own.cell 0
  rw [hcv] at p0
  simp only [List.cons_append, List.getElem?_cons_zero] at p0
  have hiI : (i : Int) < (l.length : Int) := by omega
  obtain ⟨t0, q0⟩ : ∃ t, s = t := ⟨_, rfl⟩
  have HVL := hsp.vlow hp
  obtain ⟨wS, hwS⟩ : ∃ wS, w.alloc (.cells #[.int .i64 11, .int .i64 a, .int .i64 b, .int .i64 c3, .int .i64 num, .slice (some ⟨g', 0, none⟩) val.length val.length] 48) = wS := ⟨_, rfl⟩
  have BS : Below w.heap.size w wS := by rw [← hwS]; exact (Below.refl _ _).alloc (Nat.le_refl _) _
  have X0 : Own wS w.heap.size 48 [.int .i64 11, .int .i64 a, .int .i64 b, .int .i64 c3, .int .i64 num, .slice (some ⟨g', 0, none⟩) val.length val.length] := by rw [← hwS]; exact ⟨_, heap_alloc_new _ _, rfl⟩
  have HN1 : w.heap.size ≠ pb := by have := hsp.own.lt; omega
  have HN2 := hsp.vnew
  have HBS : Below w0.heap.size w0 wS := hB0.trans (BS.mono hB0.size)
  have L0 : Cm.Li pb cv (rs.map (Value.int .i64)) wS v cs t0 wS := by rw [← q0]; exact Cm.Li.start (hsp.below BS)
  rw [q0] at hlen h0 hreg
  have CC := hide (fun (W : World) (L : Cm.Li pb cv (rs.map (Value.int .i64)) wS v cs t0 W) => cclone_any val g' 0 val.length W (hr.below (L.since hp HBS HVL) hg) (Nat.lt_of_lt_of_le hg (L.since hp HBS HVL).size) (by omega))
  obtain ⟨t1, q1⟩ : ∃ t, Cm.St.puts (Cm.pair rec a b rs t0) [⟨9, 0, val⟩] = t := ⟨_, rfl⟩
  have n1 : True := trivial
  have r1 : True := trivial
  have C0 := hide (fun (U W : World) (x : Value) (L : Cm.Li pb cv (rs.map (Value.int .i64)) wS v cs t0 U) (hb : Below U.heap.size U W) (hx : Res W U.heap.size x val) => L.useX hb [(⟨9, 0, val⟩, x)] (fun b q => hx.base b (by rw [Cm.bls_one] at q; simpa using q)) fun v2 cs2 h2 hf => clayPair_any w0 pb cv rec na nb nc rs t0 v2 cs2 W h2 hp ((L.below hb).since hp HBS HVL) h60 (by omega) (by omega) (by omega) a b 9 0 val x (hx.mono (by have := L.lt; omega)) (fun b e => hf b (by rw [Cm.bls_one, e]; simp)) Ha Hb)
  rw [q1] at C0
  have LD := L0.below ((Below.refl wS.heap.size wS).drew)
  have ylt := X0.lt
  have HF := hide (show t1 = Cm.one rec ⟨11, a, b, c3, num, val⟩ rs t0 by rw [← q1]; rfl)
  clear q1
  clear n1 r1
  rw [← q0] at HF
  have FIN := hide (fun (W : World) (L : Cm.Li pb cv (rs.map (Value.int .i64)) wS v cs t1 W) => show Cm.Li pb cv (rs.map (Value.int .i64)) w v cs (Cm.one rec ⟨11, a, b, c3, num, val⟩ rs s) W from (unhide HF) ▸ (Cm.Li.ahead BS L))
  clear hrow hn hr hg hcv hcb hi
  clear hsp hp hB0 HBS HVL HF hlen h0 hreg BS Ha Hb
  clear q0
  go_enter Try.func19, Try.ntmps19
  have y0_0 := (L0.own X0 HN1 HN2).cell 0
  have y0_1 := (L0.own X0 HN1 HN2).cell 1
  have y0_2 := (L0.own X0 HN1 HN2).cell 2
  have y0_5 := (L0.own X0 HN1 HN2).cell 5
  simp only [List.getElem?_cons_zero, List.getElem?_cons_succ] at y0_0 y0_1 y0_2 y0_5
  go_wp2_with fail
  try rw [hwS]
  clear hwS f0 f1 f2 f3 f4 f5 p0
  go_region_held3 (fun w' => w'.cell? ⟨w.heap.size, 1, none⟩ = some (.int .i64 a) ∧ w'.cell? ⟨w.heap.size, 2, none⟩ = some (.int .i64 b) ∧ w'.cell? ⟨w.heap.size, 5, none⟩ = some (.slice (some ⟨g', 0, none⟩) val.length val.length)) (first | exact ⟨y0_1, y0_2, y0_5⟩ | exact ⟨z1, z2, z5⟩ | exact ⟨(hb0.cell (by exact ylt)).trans y0_1, (hb0.cell (by exact ylt)).trans y0_2, (hb0.cell (by exact ylt)).trans y0_5⟩ | assumption | go_keep)
    (first | (go_at_call 49; refine ((unhide CC) _ LD).mono ?_; rintro e u0 ⟨x0, rfl, hx0, hb0⟩; obtain ⟨xa, xn, xc, rfl⟩ := hx0.shape) | (go_at_call 51; refine ((unhide C0) _ _ _ LD hb0 hx0).mono ?_; rintro e w1 ⟨rfl, L1⟩; have z1 := (L1.own X0 HN1 HN2).cell 1; have z2 := (L1.own X0 HN1 HN2).cell 2; have z5 := (L1.own X0 HN1 HN2).cell 5; simp only [List.getElem?_cons_zero, List.getElem?_cons_succ] at z1 z2 z5))
  go_wp2_with fail
  go_end0
  exact ⟨rfl, (unhide FIN) _ L1⟩

end Go.Proofs.Ytodpmonbfecfdaa

namespace Go.Proofs.Ytodpmonbfecfdaa
open Go.RowKit
set_option linter.unusedVariables false
set_option linter.unusedSimpArgs false


set_option maxRecDepth 100000 in
set_option maxHeartbeats 4000000 in
theorem clay_4 (w0 : World) (pb : Nat) (cv : Value) (rec : Cm.Rec) (na nb nc : Nat) (rs : List Int) (s : Cm.St) (v : Value) (cs : List (Ic × Value)) (w : World) (hsp : Cm.Sp 52 w pb cv (rs.map (Value.int .i64)) s v cs) (hp : w0.heap.size ≤ pb) (hB0 : Below w0.heap.size w0 w) (h60 : rs.length = 60) (hlen : s.len + 14 * (1 + na + nb + nc) ≤ 20000) (h0 : 0 ≤ s.regs) (hreg : s.regs + 2 * (1 + (na : Int) + nb + nc) ≤ 20000) (cb : Nat) (l : List Co) (i : Nat) (hcv : cv = .slice (some ⟨cb, 0, none⟩) l.length l.length) (hrow : Co.Row w0 cb l) (hcb : cb < w0.heap.size) (hi : i < l.length) (hl9 : l.length ≤ 900) (a b c3 : Int) (num : Int) (val : List M.Cl) (hn : l.getD i Co.zero = ⟨4, a, b, c3, num, val⟩) (Ha : Cm.LaysI w0 pb cv rec na a) (Hb : Cm.LaysI w0 pb cv rec nb b) :
    Calls Try.prog 19 #[.pointer (some ⟨pb, 0, none⟩), .int .i64 (i : Int)] w fun e w' => e = .returned (.tuple #[]) ∧ Cm.Li pb cv (rs.map (Value.int .i64)) w v cs (Cm.one rec ⟨4, a, b, c3, num, val⟩ rs s) w' := by
  obtain ⟨g', f0, f1, f2, f3, f4, f5, hg, hr⟩ := Cm.node_at hrow hB0 hcb hi hn
  dsimp only at f0 f1 f2 f3 f4 f5 hr
  have p0 := hsp.own.cell 0
  rw [hcv] at p0
  simp only [List.cons_append, List.getElem?_cons_zero] at p0
  have hiI : (i : Int) < (l.length : Int) := by omega
  obtain ⟨t0, q0⟩ : ∃ t, s = t := ⟨_, rfl⟩
  have HVL := hsp.vlow hp
  obtain ⟨wS, hwS⟩ : ∃ wS, w.alloc (.cells #[.int .i64 4, .int .i64 a, .int .i64 b, .int .i64 c3, .int .i64 num, .slice (some ⟨g', 0, none⟩) val.length val.length] 48) = wS := ⟨_, rfl⟩
  have BS : Below w.heap.size w wS := by rw [← hwS]; exact (Below.refl _ _).alloc (Nat.le_refl _) _
  have X0 : Own wS w.heap.size 48 [.int .i64 4, .int .i64 a, .int .i64 b, .int .i64 c3, .int .i64 num, .slice (some ⟨g', 0, none⟩) val.length val.length] := by rw [← hwS]; exact ⟨_, heap_alloc_new _ _, rfl⟩
  have HN1 : w.heap.size ≠ pb := by have := hsp.own.lt; omega
  have HN2 := hsp.vnew
  have HBS : Below w0.heap.size w0 wS := hB0.trans (BS.mono hB0.size)
  have L0 : Cm.Li pb cv (rs.map (Value.int .i64)) wS v cs t0 wS := by rw [← q0]; exact Cm.Li.start (hsp.below BS)
  rw [q0] at hlen h0 hreg
  obtain ⟨t1, q1⟩ : ∃ t, Cm.either rec 12 a b rs t0 = t := ⟨_, rfl⟩
  have n1 : True := trivial
  have r1 : True := trivial
  have C0 := hide (fun (W : World) (L : Cm.Li pb cv (rs.map (Value.int .i64)) wS v cs t0 W) => L.use fun v2 cs2 h2 => clayEither_any w0 pb cv rec na nb nc rs t0 v2 cs2 W h2 hp (L.since hp HBS HVL) h60 (by omega) (by omega) (by omega) 12 a b Ha Hb)
  rw [q1] at C0
  have HF := hide (show t1 = Cm.one rec ⟨4, a, b, c3, num, val⟩ rs t0 by rw [← q1]; rfl)
  clear q1
  clear n1 r1
  rw [← q0] at HF
  have FIN := hide (fun (W : World) (L : Cm.Li pb cv (rs.map (Value.int .i64)) wS v cs t1 W) => show Cm.Li pb cv (rs.map (Value.int .i64)) w v cs (Cm.one rec ⟨4, a, b, c3, num, val⟩ rs s) W from (unhide HF) ▸ (Cm.Li.ahead BS L))
  clear hrow hn hr hg hcv hcb hi
  clear hsp hp hB0 HBS HVL HF hlen h0 hreg BS Ha Hb
  clear q0
  go_enter Try.func19, Try.ntmps19
  have y0_0 := (L0.own X0 HN1 HN2).cell 0
  have y0_1 := (L0.own X0 HN1 HN2).cell 1
  have y0_2 := (L0.own X0 HN1 HN2).cell 2
  simp only [List.getElem?_cons_zero, List.getElem?_cons_succ] at y0_0 y0_1 y0_2
  go_wp2_with fail
  try rw [hwS]
  clear hwS f0 f1 f2 f3 f4 f5 p0
  refine ((unhide C0) _ L0).mono ?_
  rintro e w1 ⟨rfl, L1⟩
  go_wp2_with fail
  go_end0
  exact ⟨rfl, (unhide FIN) _ L1⟩

set_option maxRecDepth 100000 in
set_option maxHeartbeats 4000000 in
theorem clay_12 (w0 : World) (pb : Nat) (cv : Value) (rec : Cm.Rec) (na nb nc : Nat) (rs : List Int) (s : Cm.St) (v : Value) (cs : List (Ic × Value)) (w : World) (hsp : Cm.Sp 52 w pb cv (rs.map (Value.int .i64)) s v cs) (hp : w0.heap.size ≤ pb) (hB0 : Below w0.heap.size w0 w) (h60 : rs.length = 60) (hlen : s.len + 14 * (1 + na + nb + nc) ≤ 20000) (h0 : 0 ≤ s.regs) (hreg : s.regs + 2 * (1 + (na : Int) + nb + nc) ≤ 20000) (cb : Nat) (l : List Co) (i : Nat) (hcv : cv = .slice (some ⟨cb, 0, none⟩) l.length l.length) (hrow : Co.Row w0 cb l) (hcb : cb < w0.heap.size) (hi : i < l.length) (hl9 : l.length ≤ 900) (a b c3 : Int) (num : Int) (val : List M.Cl) (hn : l.getD i Co.zero = ⟨12, a, b, c3, num, val⟩) (Ha : Cm.LaysI w0 pb cv rec na a) (Hb : Cm.LaysI w0 pb cv rec nb b) (Hc : Cm.LaysI w0 pb cv rec nc c3) :
    Calls Try.prog 19 #[.pointer (some ⟨pb, 0, none⟩), .int .i64 (i : Int)] w fun e w' => e = .returned (.tuple #[]) ∧ Cm.Li pb cv (rs.map (Value.int .i64)) w v cs (Cm.one rec ⟨12, a, b, c3, num, val⟩ rs s) w' := by
  obtain ⟨g', f0, f1, f2, f3, f4, f5, hg, hr⟩ := Cm.node_at hrow hB0 hcb hi hn
  dsimp only at f0 f1 f2 f3 f4 f5 hr
  have p0 := hsp.own.cell 0
  rw [hcv] at p0
  simp only [List.cons_append, List.getElem?_cons_zero] at p0
  have hiI : (i : Int) < (l.length : Int) := by omega
  obtain ⟨t0, q0⟩ : ∃ t, s = t := ⟨_, rfl⟩
  have HVL := hsp.vlow hp
  obtain ⟨wS, hwS⟩ : ∃ wS, w.alloc (.cells #[.int .i64 12, .int .i64 a, .int .i64 b, .int .i64 c3, .int .i64 num, .slice (some ⟨g', 0, none⟩) val.length val.length] 48) = wS := ⟨_, rfl⟩
  have BS : Below w.heap.size w wS := by rw [← hwS]; exact (Below.refl _ _).alloc (Nat.le_refl _) _
  have X0 : Own wS w.heap.size 48 [.int .i64 12, .int .i64 a, .int .i64 b, .int .i64 c3, .int .i64 num, .slice (some ⟨g', 0, none⟩) val.length val.length] := by rw [← hwS]; exact ⟨_, heap_alloc_new _ _, rfl⟩
  have HN1 : w.heap.size ≠ pb := by have := hsp.own.lt; omega
  have HN2 := hsp.vnew
  have HBS : Below w0.heap.size w0 wS := hB0.trans (BS.mono hB0.size)
  have L0 : Cm.Li pb cv (rs.map (Value.int .i64)) wS v cs t0 wS := by rw [← q0]; exact Cm.Li.start (hsp.below BS)
  rw [q0] at hlen h0 hreg
  obtain ⟨t1, q1⟩ : ∃ t, t0.put 1 0 = t := ⟨_, rfl⟩
  have n1 := Cm.put_len t0 1 0
  have r1 := Cm.put_regs t0 1 0
  rw [q1] at n1 r1
  have C0 := hide (fun (W : World) (L : Cm.Li pb cv (rs.map (Value.int .i64)) wS v cs t0 W) => Cm.put1_li 1 0 L (by omega) q1)
  obtain ⟨t2, q2⟩ : ∃ t, rec a rs t1 = t := ⟨_, rfl⟩
  have n2 := Ha.1 rs t1
  rw [q2] at n2
  obtain ⟨n2, m2, r2, x2⟩ := n2
  have C1 := hide (fun (W : World) (L : Cm.Li pb cv (rs.map (Value.int .i64)) wS v cs t1 W) => Ha.at hp HBS HVL L h60 (by omega) (by omega) (by omega) q2)
  obtain ⟨t3, q3⟩ : ∃ t, Cm.either rec 11 b c3 rs t2 = t := ⟨_, rfl⟩
  have n3 : True := trivial
  have r3 : True := trivial
  have C2 := hide (fun (W : World) (L : Cm.Li pb cv (rs.map (Value.int .i64)) wS v cs t2 W) => L.use fun v2 cs2 h2 => clayEither_any w0 pb cv rec nb nc 0 rs t2 v2 cs2 W h2 hp (L.since hp HBS HVL) h60 (by omega) (by omega) (by omega) 11 b c3 Hb Hc)
  rw [q3] at C2
  have HF := hide (show t3 = Cm.one rec ⟨12, a, b, c3, num, val⟩ rs t0 by rw [← q3, ← q2, ← q1]; rfl)
  clear q1 q2 q3
  clear n1 r1 n2 r2 m2 x2 n3 r3
  rw [← q0] at HF
  have FIN := hide (fun (W : World) (L : Cm.Li pb cv (rs.map (Value.int .i64)) wS v cs t3 W) => show Cm.Li pb cv (rs.map (Value.int .i64)) w v cs (Cm.one rec ⟨12, a, b, c3, num, val⟩ rs s) W from (unhide HF) ▸ (Cm.Li.ahead BS L))
  clear hrow hn hr hg hcv hcb hi
  clear hsp hp hB0 HBS HVL HF hlen h0 hreg BS Ha Hb Hc
  clear q0
  go_enter Try.func19, Try.ntmps19
  have y0_0 := (L0.own X0 HN1 HN2).cell 0
  simp only [List.getElem?_cons_zero, List.getElem?_cons_succ] at y0_0
  go_wp2_with fail
  try rw [hwS]
  clear hwS f0 f1 f2 f3 f4 f5 p0
  refine ((unhide C0) _ L0).mono ?_
  rintro e w1 ⟨rfl, L1⟩
  have y1_1 := (L1.own X0 HN1 HN2).cell 1
  simp only [List.getElem?_cons_zero, List.getElem?_cons_succ] at y1_1
  go_wp2_with fail
  refine ((unhide C1) _ L1).mono ?_
  rintro e w2 ⟨rfl, L2⟩
  have y2_2 := (L2.own X0 HN1 HN2).cell 2
  have y2_3 := (L2.own X0 HN1 HN2).cell 3
  simp only [List.getElem?_cons_zero, List.getElem?_cons_succ] at y2_2 y2_3
  go_wp2_with fail
  refine ((unhide C2) _ L2).mono ?_
  rintro e w3 ⟨rfl, L3⟩
  go_wp2_with fail
  go_end0
  exact ⟨rfl, (unhide FIN) _ L3⟩

set_option maxRecDepth 100000 in
set_option maxHeartbeats 4000000 in
theorem clay_6 (w0 : World) (pb : Nat) (cv : Value) (rec : Cm.Rec) (na nb nc : Nat) (rs : List Int) (s : Cm.St) (v : Value) (cs : List (Ic × Value)) (w : World) (hsp : Cm.Sp 52 w pb cv (rs.map (Value.int .i64)) s v cs) (hp : w0.heap.size ≤ pb) (hB0 : Below w0.heap.size w0 w) (h60 : rs.length = 60) (hlen : s.len + 14 * (1 + na + nb + nc) ≤ 20000) (h0 : 0 ≤ s.regs) (hreg : s.regs + 2 * (1 + (na : Int) + nb + nc) ≤ 20000) (cb : Nat) (l : List Co) (i : Nat) (hcv : cv = .slice (some ⟨cb, 0, none⟩) l.length l.length) (hrow : Co.Row w0 cb l) (hcb : cb < w0.heap.size) (hi : i < l.length) (hl9 : l.length ≤ 900) (a b c3 : Int) (num : Int) (val : List M.Cl) (hn : l.getD i Co.zero = ⟨6, a, b, c3, num, val⟩) (Ha : Cm.LaysI w0 pb cv rec na a) (Hb : Cm.LaysI w0 pb cv rec nb b) :
    Calls Try.prog 19 #[.pointer (some ⟨pb, 0, none⟩), .int .i64 (i : Int)] w fun e w' => e = .returned (.tuple #[]) ∧ Cm.Li pb cv (rs.map (Value.int .i64)) w v cs (Cm.one rec ⟨6, a, b, c3, num, val⟩ rs s) w' := by
  obtain ⟨g', f0, f1, f2, f3, f4, f5, hg, hr⟩ := Cm.node_at hrow hB0 hcb hi hn
  dsimp only at f0 f1 f2 f3 f4 f5 hr
  have p0 := hsp.own.cell 0
  rw [hcv] at p0
  simp only [List.cons_append, List.getElem?_cons_zero] at p0
  have hiI : (i : Int) < (l.length : Int) := by omega
  obtain ⟨t0, q0⟩ : ∃ t, s = t := ⟨_, rfl⟩
  have HVL := hsp.vlow hp
  obtain ⟨wS, hwS⟩ : ∃ wS, w.alloc (.cells #[.int .i64 6, .int .i64 a, .int .i64 b, .int .i64 c3, .int .i64 num, .slice (some ⟨g', 0, none⟩) val.length val.length] 48) = wS := ⟨_, rfl⟩
  have BS : Below w.heap.size w wS := by rw [← hwS]; exact (Below.refl _ _).alloc (Nat.le_refl _) _
  have X0 : Own wS w.heap.size 48 [.int .i64 6, .int .i64 a, .int .i64 b, .int .i64 c3, .int .i64 num, .slice (some ⟨g', 0, none⟩) val.length val.length] := by rw [← hwS]; exact ⟨_, heap_alloc_new _ _, rfl⟩
  have HN1 : w.heap.size ≠ pb := by have := hsp.own.lt; omega
  have HN2 := hsp.vnew
  have HBS : Below w0.heap.size w0 wS := hB0.trans (BS.mono hB0.size)
  have L0 : Cm.Li pb cv (rs.map (Value.int .i64)) wS v cs t0 wS := by rw [← q0]; exact Cm.Li.start (hsp.below BS)
  rw [q0] at hlen h0 hreg
  obtain ⟨t1, q1⟩ : ∃ t, Cm.St.puts (Cm.pair rec b a rs t0) [⟨5, num, []⟩] = t := ⟨_, rfl⟩
  have n1 : True := trivial
  have r1 : True := trivial
  have C0 := hide (fun (W : World) (L : Cm.Li pb cv (rs.map (Value.int .i64)) wS v cs t0 W) => L.useX (Below.refl _ _) [(⟨5, num, []⟩, .slice none 0 0)] (fun b q => by rw [Cm.bls_one] at q; simp [Value.ownBlock] at q) fun v2 cs2 h2 _ => clayPair_any w0 pb cv rec nb na nc rs t0 v2 cs2 W h2 hp (L.since hp HBS HVL) h60 (by omega) (by omega) (by omega) b a 5 num [] _ (Cm.res_nil _ _) (fun b hb => by cases hb) Hb Ha)
  rw [q1] at C0
  have HF := hide (show t1 = Cm.one rec ⟨6, a, b, c3, num, val⟩ rs t0 by rw [← q1]; rfl)
  clear q1
  clear n1 r1
  rw [← q0] at HF
  have FIN := hide (fun (W : World) (L : Cm.Li pb cv (rs.map (Value.int .i64)) wS v cs t1 W) => show Cm.Li pb cv (rs.map (Value.int .i64)) w v cs (Cm.one rec ⟨6, a, b, c3, num, val⟩ rs s) W from (unhide HF) ▸ (Cm.Li.ahead BS L))
  clear hrow hn hr hg hcv hcb hi
  clear hsp hp hB0 HBS HVL HF hlen h0 hreg BS Ha Hb
  clear q0
  go_enter Try.func19, Try.ntmps19
  have y0_0 := (L0.own X0 HN1 HN2).cell 0
  have y0_1 := (L0.own X0 HN1 HN2).cell 1
  have y0_2 := (L0.own X0 HN1 HN2).cell 2
  have y0_4 := (L0.own X0 HN1 HN2).cell 4
  simp only [List.getElem?_cons_zero, List.getElem?_cons_succ] at y0_0 y0_1 y0_2 y0_4
  go_wp2_with fail
  try rw [hwS]
  clear hwS f0 f1 f2 f3 f4 f5 p0
  refine ((unhide C0) _ L0).mono ?_
  rintro e w1 ⟨rfl, L1⟩
  go_wp2_with fail
  go_end0
  exact ⟨rfl, (unhide FIN) _ L1⟩

set_option maxRecDepth 100000 in
set_option maxHeartbeats 4000000 in
theorem clay_7 (w0 : World) (pb : Nat) (cv : Value) (rec : Cm.Rec) (na nb nc : Nat) (rs : List Int) (s : Cm.St) (v : Value) (cs : List (Ic × Value)) (w : World) (hsp : Cm.Sp 52 w pb cv (rs.map (Value.int .i64)) s v cs) (hp : w0.heap.size ≤ pb) (hB0 : Below w0.heap.size w0 w) (h60 : rs.length = 60) (hlen : s.len + 14 * (1 + na + nb + nc) ≤ 20000) (h0 : 0 ≤ s.regs) (hreg : s.regs + 2 * (1 + (na : Int) + nb + nc) ≤ 20000) (cb : Nat) (l : List Co) (i : Nat) (hcv : cv = .slice (some ⟨cb, 0, none⟩) l.length l.length) (hrow : Co.Row w0 cb l) (hcb : cb < w0.heap.size) (hi : i < l.length) (hl9 : l.length ≤ 900) (a b c3 : Int) (num : Int) (val : List M.Cl) (hn : l.getD i Co.zero = ⟨7, a, b, c3, num, val⟩) (Ha : Cm.LaysI w0 pb cv rec na a) (Hb : Cm.LaysI w0 pb cv rec nb b) :
    Calls Try.prog 19 #[.pointer (some ⟨pb, 0, none⟩), .int .i64 (i : Int)] w fun e w' => e = .returned (.tuple #[]) ∧ Cm.Li pb cv (rs.map (Value.int .i64)) w v cs (Cm.one rec ⟨7, a, b, c3, num, val⟩ rs s) w' := by
  obtain ⟨g', f0, f1, f2, f3, f4, f5, hg, hr⟩ := Cm.node_at hrow hB0 hcb hi hn
  dsimp only at f0 f1 f2 f3 f4 f5 hr
  have p0 := hsp.own.cell 0
  rw [hcv] at p0
  simp only [List.cons_append, List.getElem?_cons_zero] at p0
  have hiI : (i : Int) < (l.length : Int) := by omega
  obtain ⟨t0, q0⟩ : ∃ t, s = t := ⟨_, rfl⟩
  have HVL := hsp.vlow hp
  obtain ⟨wS, hwS⟩ : ∃ wS, w.alloc (.cells #[.int .i64 7, .int .i64 a, .int .i64 b, .int .i64 c3, .int .i64 num, .slice (some ⟨g', 0, none⟩) val.length val.length] 48) = wS := ⟨_, rfl⟩
  have BS : Below w.heap.size w wS := by rw [← hwS]; exact (Below.refl _ _).alloc (Nat.le_refl _) _
  have X0 : Own wS w.heap.size 48 [.int .i64 7, .int .i64 a, .int .i64 b, .int .i64 c3, .int .i64 num, .slice (some ⟨g', 0, none⟩) val.length val.length] := by rw [← hwS]; exact ⟨_, heap_alloc_new _ _, rfl⟩
  have HN1 : w.heap.size ≠ pb := by have := hsp.own.lt; omega
  have HN2 := hsp.vnew
  have HBS : Below w0.heap.size w0 wS := hB0.trans (BS.mono hB0.size)
  have L0 : Cm.Li pb cv (rs.map (Value.int .i64)) wS v cs t0 wS := by rw [← q0]; exact Cm.Li.start (hsp.below BS)
  rw [q0] at hlen h0 hreg
  obtain ⟨t1, q1⟩ : ∃ t, Cm.St.puts (Cm.pair rec a b rs t0) [⟨6, 0, []⟩] = t := ⟨_, rfl⟩
  have n1 : True := trivial
  have r1 : True := trivial
  have C0 := hide (fun (W : World) (L : Cm.Li pb cv (rs.map (Value.int .i64)) wS v cs t0 W) => L.useX (Below.refl _ _) [(⟨6, 0, []⟩, .slice none 0 0)] (fun b q => by rw [Cm.bls_one] at q; simp [Value.ownBlock] at q) fun v2 cs2 h2 _ => clayPair_any w0 pb cv rec na nb nc rs t0 v2 cs2 W h2 hp (L.since hp HBS HVL) h60 (by omega) (by omega) (by omega) a b 6 0 [] _ (Cm.res_nil _ _) (fun b hb => by cases hb) Ha Hb)
  rw [q1] at C0
  have HF := hide (show t1 = Cm.one rec ⟨7, a, b, c3, num, val⟩ rs t0 by rw [← q1]; rfl)
  clear q1
  clear n1 r1
  rw [← q0] at HF
  have FIN := hide (fun (W : World) (L : Cm.Li pb cv (rs.map (Value.int .i64)) wS v cs t1 W) => show Cm.Li pb cv (rs.map (Value.int .i64)) w v cs (Cm.one rec ⟨7, a, b, c3, num, val⟩ rs s) W from (unhide HF) ▸ (Cm.Li.ahead BS L))
  clear hrow hn hr hg hcv hcb hi
  clear hsp hp hB0 HBS HVL HF hlen h0 hreg BS Ha Hb
  clear q0
  go_enter Try.func19, Try.ntmps19
  have y0_0 := (L0.own X0 HN1 HN2).cell 0
  have y0_1 := (L0.own X0 HN1 HN2).cell 1
  have y0_2 := (L0.own X0 HN1 HN2).cell 2
  simp only [List.getElem?_cons_zero, List.getElem?_cons_succ] at y0_0 y0_1 y0_2
  go_wp2_with fail
  try rw [hwS]
  clear hwS f0 f1 f2 f3 f4 f5 p0
  refine ((unhide C0) _ L0).mono ?_
  rintro e w1 ⟨rfl, L1⟩
  go_wp2_with fail
  go_end0
  exact ⟨rfl, (unhide FIN) _ L1⟩

set_option maxRecDepth 100000 in
set_option maxHeartbeats 4000000 in
theorem clay_10 (w0 : World) (pb : Nat) (cv : Value) (rec : Cm.Rec) (na nb nc : Nat) (rs : List Int) (s : Cm.St) (v : Value) (cs : List (Ic × Value)) (w : World) (hsp : Cm.Sp 52 w pb cv (rs.map (Value.int .i64)) s v cs) (hp : w0.heap.size ≤ pb) (hB0 : Below w0.heap.size w0 w) (h60 : rs.length = 60) (hlen : s.len + 14 * (1 + na + nb + nc) ≤ 20000) (h0 : 0 ≤ s.regs) (hreg : s.regs + 2 * (1 + (na : Int) + nb + nc) ≤ 20000) (cb : Nat) (l : List Co) (i : Nat) (hcv : cv = .slice (some ⟨cb, 0, none⟩) l.length l.length) (hrow : Co.Row w0 cb l) (hcb : cb < w0.heap.size) (hi : i < l.length) (hl9 : l.length ≤ 900) (a b c3 : Int) (num : Int) (val : List M.Cl) (hn : l.getD i Co.zero = ⟨10, a, b, c3, num, val⟩) (Ha : Cm.LaysI w0 pb cv rec na a) :
    Calls Try.prog 19 #[.pointer (some ⟨pb, 0, none⟩), .int .i64 (i : Int)] w fun e w' => e = .returned (.tuple #[]) ∧ Cm.Li pb cv (rs.map (Value.int .i64)) w v cs (Cm.one rec ⟨10, a, b, c3, num, val⟩ rs s) w' := by
  obtain ⟨g', f0, f1, f2, f3, f4, f5, hg, hr⟩ := Cm.node_at hrow hB0 hcb hi hn
  dsimp only at f0 f1 f2 f3 f4 f5 hr
  have p0 := hsp.own.cell 0
  rw [hcv] at p0
  simp only [List.cons_append, List.getElem?_cons_zero] at p0
  have hiI : (i : Int) < (l.length : Int) := by omega
  obtain ⟨t0, q0⟩ : ∃ t, s = t := ⟨_, rfl⟩
  have HVL := hsp.vlow hp
  obtain ⟨wS, hwS⟩ : ∃ wS, w.alloc (.cells #[.int .i64 10, .int .i64 a, .int .i64 b, .int .i64 c3, .int .i64 num, .slice (some ⟨g', 0, none⟩) val.length val.length] 48) = wS := ⟨_, rfl⟩
  have BS : Below w.heap.size w wS := by rw [← hwS]; exact (Below.refl _ _).alloc (Nat.le_refl _) _
  have X0 : Own wS w.heap.size 48 [.int .i64 10, .int .i64 a, .int .i64 b, .int .i64 c3, .int .i64 num, .slice (some ⟨g', 0, none⟩) val.length val.length] := by rw [← hwS]; exact ⟨_, heap_alloc_new _ _, rfl⟩
  have HN1 : w.heap.size ≠ pb := by have := hsp.own.lt; omega
  have HN2 := hsp.vnew
  have HBS : Below w0.heap.size w0 wS := hB0.trans (BS.mono hB0.size)
  have L0 : Cm.Li pb cv (rs.map (Value.int .i64)) wS v cs t0 wS := by rw [← q0]; exact Cm.Li.start (hsp.below BS)
  rw [q0] at hlen h0 hreg
  obtain ⟨t1, q1⟩ : ∃ t, Cm.list rec a rs t0 = t := ⟨_, rfl⟩
  have n1 : True := trivial
  have r1 : True := trivial
  have C0 := hide (fun (W : World) (L : Cm.Li pb cv (rs.map (Value.int .i64)) wS v cs t0 W) => L.use fun v2 cs2 h2 => clayList_any w0 pb cv rec na nb nc rs t0 v2 cs2 W h2 hp (L.since hp HBS HVL) h60 (by omega) (by omega) (by omega) a b c3 num (.slice (some ⟨g', 0, none⟩) val.length val.length) ⟨_, _, _, rfl⟩ Ha)
  rw [q1] at C0
  have HF := hide (show t1 = Cm.one rec ⟨10, a, b, c3, num, val⟩ rs t0 by rw [← q1]; rfl)
  clear q1
  clear n1 r1
  rw [← q0] at HF
  have FIN := hide (fun (W : World) (L : Cm.Li pb cv (rs.map (Value.int .i64)) wS v cs t1 W) => show Cm.Li pb cv (rs.map (Value.int .i64)) w v cs (Cm.one rec ⟨10, a, b, c3, num, val⟩ rs s) W from (unhide HF) ▸ (Cm.Li.ahead BS L))
  clear hrow hn hr hg hcv hcb hi
  clear hsp hp hB0 HBS HVL HF hlen h0 hreg BS Ha
  clear q0
  go_enter Try.func19, Try.ntmps19
  have y0_0 := (L0.own X0 HN1 HN2).cell 0
  have y0_1 := (L0.own X0 HN1 HN2).cell 1
  have y0_2 := (L0.own X0 HN1 HN2).cell 2
  have y0_3 := (L0.own X0 HN1 HN2).cell 3
  have y0_4 := (L0.own X0 HN1 HN2).cell 4
  have y0_5 := (L0.own X0 HN1 HN2).cell 5
  simp only [List.getElem?_cons_zero, List.getElem?_cons_succ] at y0_0 y0_1 y0_2 y0_3 y0_4 y0_5
  go_wp2_with fail
  try rw [hwS]
  clear hwS f0 f1 f2 f3 f4 f5 p0
  refine ((unhide C0) _ L0).mono ?_
  rintro e w1 ⟨rfl, L1⟩
  go_wp2_with fail
  go_end0
  exact ⟨rfl, (unhide FIN) _ L1⟩

set_option maxRecDepth 100000 in
set_option maxHeartbeats 4000000 in
theorem clay_14 (w0 : World) (pb : Nat) (cv : Value) (rec : Cm.Rec) (na nb nc : Nat) (rs : List Int) (s : Cm.St) (v : Value) (cs : List (Ic × Value)) (w : World) (hsp : Cm.Sp 52 w pb cv (rs.map (Value.int .i64)) s v cs) (hp : w0.heap.size ≤ pb) (hB0 : Below w0.heap.size w0 w) (h60 : rs.length = 60) (hlen : s.len + 14 * (1 + na + nb + nc) ≤ 20000) (h0 : 0 ≤ s.regs) (hreg : s.regs + 2 * (1 + (na : Int) + nb + nc) ≤ 20000) (cb : Nat) (l : List Co) (i : Nat) (hcv : cv = .slice (some ⟨cb, 0, none⟩) l.length l.length) (hrow : Co.Row w0 cb l) (hcb : cb < w0.heap.size) (hi : i < l.length) (hl9 : l.length ≤ 900) (a b c3 : Int) (num : Nat) (val : List M.Cl) (hn : l.getD i Co.zero = ⟨14, a, b, c3, (num : Int), val⟩) (hnum : num < 60) (Ha : Cm.LaysI w0 pb cv rec na a) (Hb : Cm.LaysI w0 pb cv rec nb b) :
    Calls Try.prog 19 #[.pointer (some ⟨pb, 0, none⟩), .int .i64 (i : Int)] w fun e w' => e = .returned (.tuple #[]) ∧ Cm.Li pb cv (rs.map (Value.int .i64)) w v cs (Cm.one rec ⟨14, a, b, c3, (num : Int), val⟩ rs s) w' := by
  obtain ⟨g', f0, f1, f2, f3, f4, f5, hg, hr⟩ := Cm.node_at hrow hB0 hcb hi hn
  dsimp only at f0 f1 f2 f3 f4 f5 hr
  have p0 := hsp.own.cell 0
  rw [hcv] at p0
  simp only [List.cons_append, List.getElem?_cons_zero] at p0
  have hiI : (i : Int) < (l.length : Int) := by omega
  obtain ⟨t0, q0⟩ : ∃ t, s = t := ⟨_, rfl⟩
  have HVL := hsp.vlow hp
  obtain ⟨wS, hwS⟩ : ∃ wS, w.alloc (.cells #[.int .i64 14, .int .i64 a, .int .i64 b, .int .i64 c3, .int .i64 (num : Int), .slice (some ⟨g', 0, none⟩) val.length val.length] 48) = wS := ⟨_, rfl⟩
  have BS : Below w.heap.size w wS := by rw [← hwS]; exact (Below.refl _ _).alloc (Nat.le_refl _) _
  have X0 : Own wS w.heap.size 48 [.int .i64 14, .int .i64 a, .int .i64 b, .int .i64 c3, .int .i64 (num : Int), .slice (some ⟨g', 0, none⟩) val.length val.length] := by rw [← hwS]; exact ⟨_, heap_alloc_new _ _, rfl⟩
  have HN1 : w.heap.size ≠ pb := by have := hsp.own.lt; omega
  have HN2 := hsp.vnew
  have HBS : Below w0.heap.size w0 wS := hB0.trans (BS.mono hB0.size)
  have L0 : Cm.Li pb cv (rs.map (Value.int .i64)) wS v cs t0 wS := by rw [← q0]; exact Cm.Li.start (hsp.below BS)
  rw [q0] at hlen h0 hreg
  obtain ⟨t1, q1⟩ : ∃ t, Cm.asV rec a b (num : Int) rs t0 = t := ⟨_, rfl⟩
  have n1 : True := trivial
  have r1 : True := trivial
  have C0 := hide (fun (W : World) (L : Cm.Li pb cv (rs.map (Value.int .i64)) wS v cs t0 W) => L.use fun v2 cs2 h2 => clayAs_any w0 pb cv rec na nb nc rs t0 v2 cs2 W h2 hp (L.since hp HBS HVL) h60 (by omega) (by omega) (by omega) a b c3 num hnum (.slice (some ⟨g', 0, none⟩) val.length val.length) ⟨_, _, _, rfl⟩ Ha Hb)
  rw [q1] at C0
  have HF := hide (show t1 = Cm.one rec ⟨14, a, b, c3, (num : Int), val⟩ rs t0 by rw [← q1]; rfl)
  clear q1
  clear n1 r1
  rw [← q0] at HF
  have FIN := hide (fun (W : World) (L : Cm.Li pb cv (rs.map (Value.int .i64)) wS v cs t1 W) => show Cm.Li pb cv (rs.map (Value.int .i64)) w v cs (Cm.one rec ⟨14, a, b, c3, (num : Int), val⟩ rs s) W from (unhide HF) ▸ (Cm.Li.ahead BS L))
  clear hrow hn hr hg hcv hcb hi
  clear hsp hp hB0 HBS HVL HF hlen h0 hreg BS Ha Hb
  clear q0
  go_enter Try.func19, Try.ntmps19
  have y0_0 := (L0.own X0 HN1 HN2).cell 0
  have y0_1 := (L0.own X0 HN1 HN2).cell 1
  have y0_2 := (L0.own X0 HN1 HN2).cell 2
  have y0_3 := (L0.own X0 HN1 HN2).cell 3
  have y0_4 := (L0.own X0 HN1 HN2).cell 4
  have y0_5 := (L0.own X0 HN1 HN2).cell 5
  simp only [List.getElem?_cons_zero, List.getElem?_cons_succ] at y0_0 y0_1 y0_2 y0_3 y0_4 y0_5
  go_wp2_with fail
  try rw [hwS]
  clear hwS f0 f1 f2 f3 f4 f5 p0
  refine ((unhide C0) _ L0).mono ?_
  rintro e w1 ⟨rfl, L1⟩
  go_wp2_with fail
  go_end0
  exact ⟨rfl, (unhide FIN) _ L1⟩

set_option maxRecDepth 100000 in
set_option maxHeartbeats 4000000 in
theorem clay_13 (w0 : World) (pb : Nat) (cv : Value) (rec : Cm.Rec) (na nb nc : Nat) (rs : List Int) (s : Cm.St) (v : Value) (cs : List (Ic × Value)) (w : World) (hsp : Cm.Sp 52 w pb cv (rs.map (Value.int .i64)) s v cs) (hp : w0.heap.size ≤ pb) (hB0 : Below w0.heap.size w0 w) (h60 : rs.length = 60) (hlen : s.len + 14 * (1 + na + nb + nc) ≤ 20000) (h0 : 0 ≤ s.regs) (hreg : s.regs + 2 * (1 + (na : Int) + nb + nc) ≤ 20000) (cb : Nat) (l : List Co) (i : Nat) (hcv : cv = .slice (some ⟨cb, 0, none⟩) l.length l.length) (hrow : Co.Row w0 cb l) (hcb : cb < w0.heap.size) (hi : i < l.length) (hl9 : l.length ≤ 900) (a b c3 : Int) (num : Nat) (val : List M.Cl) (hn : l.getD i Co.zero = ⟨13, a, b, c3, (num : Int), val⟩) (hnum : num < 60) (Ha : Cm.LaysI w0 pb cv rec na a) (Hb : Cm.LaysI w0 pb cv rec nb b) (Hc : Cm.LaysI w0 pb cv rec nc c3) :
    Calls Try.prog 19 #[.pointer (some ⟨pb, 0, none⟩), .int .i64 (i : Int)] w fun e w' => e = .returned (.tuple #[]) ∧ Cm.Li pb cv (rs.map (Value.int .i64)) w v cs (Cm.one rec ⟨13, a, b, c3, (num : Int), val⟩ rs s) w' := by
  obtain ⟨g', f0, f1, f2, f3, f4, f5, hg, hr⟩ := Cm.node_at hrow hB0 hcb hi hn
  dsimp only at f0 f1 f2 f3 f4 f5 hr
  have p0 := hsp.own.cell 0
  rw [hcv] at p0
  simp only [List.cons_append, List.getElem?_cons_zero] at p0
  have hiI : (i : Int) < (l.length : Int) := by omega
  obtain ⟨t0, q0⟩ : ∃ t, s = t := ⟨_, rfl⟩
  have HVL := hsp.vlow hp
  obtain ⟨wS, hwS⟩ : ∃ wS, w.alloc (.cells #[.int .i64 13, .int .i64 a, .int .i64 b, .int .i64 c3, .int .i64 (num : Int), .slice (some ⟨g', 0, none⟩) val.length val.length] 48) = wS := ⟨_, rfl⟩
  have BS : Below w.heap.size w wS := by rw [← hwS]; exact (Below.refl _ _).alloc (Nat.le_refl _) _
  have X0 : Own wS w.heap.size 48 [.int .i64 13, .int .i64 a, .int .i64 b, .int .i64 c3, .int .i64 (num : Int), .slice (some ⟨g', 0, none⟩) val.length val.length] := by rw [← hwS]; exact ⟨_, heap_alloc_new _ _, rfl⟩
  have HN1 : w.heap.size ≠ pb := by have := hsp.own.lt; omega
  have HN2 := hsp.vnew
  have HBS : Below w0.heap.size w0 wS := hB0.trans (BS.mono hB0.size)
  have L0 : Cm.Li pb cv (rs.map (Value.int .i64)) wS v cs t0 wS := by rw [← q0]; exact Cm.Li.start (hsp.below BS)
  rw [q0] at hlen h0 hreg
  obtain ⟨t1, q1⟩ : ∃ t, Cm.reduce rec a b c3 (num : Int) rs t0 = t := ⟨_, rfl⟩
  have n1 : True := trivial
  have r1 : True := trivial
  have C0 := hide (fun (W : World) (L : Cm.Li pb cv (rs.map (Value.int .i64)) wS v cs t0 W) => L.use fun v2 cs2 h2 => clayReduce_any w0 pb cv rec na nb nc rs t0 v2 cs2 W h2 hp (L.since hp HBS HVL) h60 (by omega) (by omega) (by omega) a b c3 num hnum (.slice (some ⟨g', 0, none⟩) val.length val.length) ⟨_, _, _, rfl⟩ Ha Hb Hc)
  rw [q1] at C0
  have HF := hide (show t1 = Cm.one rec ⟨13, a, b, c3, (num : Int), val⟩ rs t0 by rw [← q1]; rfl)
  clear q1
  clear n1 r1
  rw [← q0] at HF
  have FIN := hide (fun (W : World) (L : Cm.Li pb cv (rs.map (Value.int .i64)) wS v cs t1 W) => show Cm.Li pb cv (rs.map (Value.int .i64)) w v cs (Cm.one rec ⟨13, a, b, c3, (num : Int), val⟩ rs s) W from (unhide HF) ▸ (Cm.Li.ahead BS L))
  clear hrow hn hr hg hcv hcb hi
  clear hsp hp hB0 HBS HVL HF hlen h0 hreg BS Ha Hb Hc
  clear q0
  go_enter Try.func19, Try.ntmps19
  have y0_0 := (L0.own X0 HN1 HN2).cell 0
  have y0_1 := (L0.own X0 HN1 HN2).cell 1
  have y0_2 := (L0.own X0 HN1 HN2).cell 2
  have y0_3 := (L0.own X0 HN1 HN2).cell 3
  have y0_4 := (L0.own X0 HN1 HN2).cell 4
  have y0_5 := (L0.own X0 HN1 HN2).cell 5
  simp only [List.getElem?_cons_zero, List.getElem?_cons_succ] at y0_0 y0_1 y0_2 y0_3 y0_4 y0_5
  go_wp2_with fail
  try rw [hwS]
  clear hwS f0 f1 f2 f3 f4 f5 p0
  refine ((unhide C0) _ L0).mono ?_
  rintro e w1 ⟨rfl, L1⟩
  go_wp2_with fail
  go_end0
  exact ⟨rfl, (unhide FIN) _ L1⟩

set_option maxRecDepth 100000 in
set_option maxHeartbeats 4000000 in
theorem clay_5 (w0 : World) (pb : Nat) (cv : Value) (rec : Cm.Rec) (na nb nc : Nat) (rs : List Int) (s : Cm.St) (v : Value) (cs : List (Ic × Value)) (w : World) (hsp : Cm.Sp 52 w pb cv (rs.map (Value.int .i64)) s v cs) (hp : w0.heap.size ≤ pb) (hB0 : Below w0.heap.size w0 w) (h60 : rs.length = 60) (hlen : s.len + 14 * (1 + na + nb + nc) ≤ 20000) (h0 : 0 ≤ s.regs) (hreg : s.regs + 2 * (1 + (na : Int) + nb + nc) ≤ 20000) (cb : Nat) (l : List Co) (i : Nat) (hcv : cv = .slice (some ⟨cb, 0, none⟩) l.length l.length) (hrow : Co.Row w0 cb l) (hcb : cb < w0.heap.size) (hi : i < l.length) (hl9 : l.length ≤ 900) (a b c3 : Int) (num : Int) (val : List M.Cl) (hn : l.getD i Co.zero = ⟨5, a, b, c3, num, val⟩) (Ha : Cm.LaysI w0 pb cv rec na a) (Hb : Cm.LaysI w0 pb cv rec nb b) :
    Calls Try.prog 19 #[.pointer (some ⟨pb, 0, none⟩), .int .i64 (i : Int)] w fun e w' => e = .returned (.tuple #[]) ∧ Cm.Li pb cv (rs.map (Value.int .i64)) w v cs (Cm.one rec ⟨5, a, b, c3, num, val⟩ rs s) w' := by
  obtain ⟨g', f0, f1, f2, f3, f4, f5, hg, hr⟩ := Cm.node_at hrow hB0 hcb hi hn
  dsimp only at f0 f1 f2 f3 f4 f5 hr
  have p0 := hsp.own.cell 0
  rw [hcv] at p0
  simp only [List.cons_append, List.getElem?_cons_zero] at p0
  have hiI : (i : Int) < (l.length : Int) := by omega
  obtain ⟨t0, q0⟩ : ∃ t, s = t := ⟨_, rfl⟩
  have HVL := hsp.vlow hp
  obtain ⟨wS, hwS⟩ : ∃ wS, w.alloc (.cells #[.int .i64 5, .int .i64 a, .int .i64 b, .int .i64 c3, .int .i64 num, .slice (some ⟨g', 0, none⟩) val.length val.length] 48) = wS := ⟨_, rfl⟩
  have BS : Below w.heap.size w wS := by rw [← hwS]; exact (Below.refl _ _).alloc (Nat.le_refl _) _
  have X0 : Own wS w.heap.size 48 [.int .i64 5, .int .i64 a, .int .i64 b, .int .i64 c3, .int .i64 num, .slice (some ⟨g', 0, none⟩) val.length val.length] := by rw [← hwS]; exact ⟨_, heap_alloc_new _ _, rfl⟩
  have HN1 : w.heap.size ≠ pb := by have := hsp.own.lt; omega
  have HN2 := hsp.vnew
  have HBS : Below w0.heap.size w0 wS := hB0.trans (BS.mono hB0.size)
  have L0 : Cm.Li pb cv (rs.map (Value.int .i64)) wS v cs t0 wS := by rw [← q0]; exact Cm.Li.start (hsp.below BS)
  rw [q0] at hlen h0 hreg
  obtain ⟨t1, q1⟩ : ∃ t, Cm.alt rec a b rs t0 = t := ⟨_, rfl⟩
  have n1 : True := trivial
  have r1 : True := trivial
  have C0 := hide (fun (W : World) (L : Cm.Li pb cv (rs.map (Value.int .i64)) wS v cs t0 W) => L.use fun v2 cs2 h2 => clayAlt_any w0 pb cv rec na nb nc rs t0 v2 cs2 W h2 hp (L.since hp HBS HVL) h60 (by omega) (by omega) (by omega) a b c3 num (.slice (some ⟨g', 0, none⟩) val.length val.length) ⟨_, _, _, rfl⟩ Ha Hb)
  rw [q1] at C0
  have HF := hide (show t1 = Cm.one rec ⟨5, a, b, c3, num, val⟩ rs t0 by rw [← q1]; rfl)
  clear q1
  clear n1 r1
  rw [← q0] at HF
  have FIN := hide (fun (W : World) (L : Cm.Li pb cv (rs.map (Value.int .i64)) wS v cs t1 W) => show Cm.Li pb cv (rs.map (Value.int .i64)) w v cs (Cm.one rec ⟨5, a, b, c3, num, val⟩ rs s) W from (unhide HF) ▸ (Cm.Li.ahead BS L))
  clear hrow hn hr hg hcv hcb hi
  clear hsp hp hB0 HBS HVL HF hlen h0 hreg BS Ha Hb
  clear q0
  go_enter Try.func19, Try.ntmps19
  have y0_0 := (L0.own X0 HN1 HN2).cell 0
  have y0_1 := (L0.own X0 HN1 HN2).cell 1
  have y0_2 := (L0.own X0 HN1 HN2).cell 2
  have y0_3 := (L0.own X0 HN1 HN2).cell 3
  have y0_4 := (L0.own X0 HN1 HN2).cell 4
  have y0_5 := (L0.own X0 HN1 HN2).cell 5
  simp only [List.getElem?_cons_zero, List.getElem?_cons_succ] at y0_0 y0_1 y0_2 y0_3 y0_4 y0_5
  go_wp2_with fail
  try rw [hwS]
  clear hwS f0 f1 f2 f3 f4 f5 p0
  refine ((unhide C0) _ L0).mono ?_
  rintro e w1 ⟨rfl, L1⟩
  go_wp2_with fail
  go_end0
  exact ⟨rfl, (unhide FIN) _ L1⟩

end Go.Proofs.Ytodpmonbfecfdaa

namespace Go.Proofs.Ytodpmonbfecfdaa
open Go.RowKit
set_option linter.unusedVariables false
set_option linter.unusedSimpArgs false


theorem clay_says (w0 : World) (pb cb : Nat) (cv : Value) (l : List Co) (G : Cm.Good l) (hp : w0.heap.size ≤ pb) (hcv : cv = .slice (some ⟨cb, 0, none⟩) l.length l.length) (hrow : Co.Row w0 cb l) (hcb : cb < w0.heap.size) (f : Nat) :
    ∀ i, i < l.length → i < f → Cm.LaysI w0 pb cv (Cm.code l f) (Cm.sz l f (i : Int)) (i : Int) := by
  induction f with
  | zero => intro i _ h; exact absurd h (Nat.not_lt_zero _)
  | succ f ih =>
    intro i hi hif
    refine ⟨fun rs s => Cm.code_up l (f + 1) (i : Int) rs s, ?_⟩
    intro rs s v cs w hsp hB0 h60 hlen h0 hreg
    have hlk := G.fine i (by rw [Co.tree_length]; exact hi)
    rw [Co.tree_links l hi] at hlk
    have hop := G.op i hi
    have hnum := G.num i hi
    have hval := G.val i hi
    have hcode : Cm.code l (f + 1) (i : Int) rs s = Cm.one (Cm.code l f) (l.getD i Co.zero) rs s := rfl
    have hsz : Cm.sz l (f + 1) (i : Int) = 1 + (if 1 ≤ Co.kids (l.getD i Co.zero).op then Cm.sz l f (l.getD i Co.zero).a else 0) + (if 2 ≤ Co.kids (l.getD i Co.zero).op then Cm.sz l f (l.getD i Co.zero).b else 0) + (if 3 ≤ Co.kids (l.getD i Co.zero).op then Cm.sz l f (l.getD i Co.zero).c else 0) := by rw [Cm.sz, Int.toNat_natCast]
    rw [hcode]
    rw [hsz] at hlen hreg
    clear hcode hsz
    obtain ⟨n, hn⟩ : ∃ n, l.getD i Co.zero = n := ⟨_, rfl⟩
    rw [hn] at hlk hop hnum hval hlen hreg ⊢
    have kid : ∀ x ∈ [n.a, n.b, n.c].take (Co.kids n.op), Cm.LaysI w0 pb cv (Cm.code l f) (Cm.sz l f x) x := by
      intro x hx
      obtain ⟨h1, h2⟩ := hlk x hx
      have h3 := ih x.toNat (by omega) (by omega)
      rwa [Int.toNat_of_nonneg h1] at h3
    obtain ⟨op, a, b, c3, num, val⟩ := n
    dsimp only at *
    have hcase : op = 1 ∨ op = 2 ∨ op = 3 ∨ op = 4 ∨ op = 5 ∨ op = 6 ∨ op = 7 ∨ op = 8 ∨ op = 9 ∨ op = 10 ∨ op = 11 ∨ op = 12 ∨ op = 13 ∨ op = 14 ∨ op = 15 ∨ op = 16 ∨ op = 17 := by omega
    obtain ⟨nn, hnn⟩ : ∃ nn : Nat, num = (nn : Int) := ⟨num.toNat, by omega⟩
    subst hnn
    have hn60 : nn < 60 := by omega
    rcases hcase with rfl | rfl | rfl | rfl | rfl | rfl | rfl | rfl | rfl | rfl | rfl | rfl | rfl | rfl | rfl | rfl | rfl
    · exact clay_1 w0 pb cv (Cm.code l f) 0 0 0 rs s v cs w hsp hp hB0 h60 (by simpa [Co.kids] using hlen) h0 (by simpa [Co.kids] using hreg) cb l i hcv hrow hcb hi G.le a b c3 (nn : Int) val hn
    · exact clay_2 w0 pb cv (Cm.code l f) 0 0 0 rs s v cs w hsp hp hB0 h60 (by simpa [Co.kids] using hlen) h0 (by simpa [Co.kids] using hreg) cb l i hcv hrow hcb hi G.le a b c3 (nn : Int) val hn hval
    · exact clay_3 w0 pb cv (Cm.code l f) (Cm.sz l f a) (Cm.sz l f b) 0 rs s v cs w hsp hp hB0 h60 (by simpa [Co.kids] using hlen) h0 (by simpa [Co.kids] using hreg) cb l i hcv hrow hcb hi G.le a b c3 (nn : Int) val hn (kid a (by simp [Co.kids])) (kid b (by simp [Co.kids]))
    · exact clay_4 w0 pb cv (Cm.code l f) (Cm.sz l f a) (Cm.sz l f b) 0 rs s v cs w hsp hp hB0 h60 (by simpa [Co.kids] using hlen) h0 (by simpa [Co.kids] using hreg) cb l i hcv hrow hcb hi G.le a b c3 (nn : Int) val hn (kid a (by simp [Co.kids])) (kid b (by simp [Co.kids]))
    · exact clay_5 w0 pb cv (Cm.code l f) (Cm.sz l f a) (Cm.sz l f b) 0 rs s v cs w hsp hp hB0 h60 (by simpa [Co.kids] using hlen) h0 (by simpa [Co.kids] using hreg) cb l i hcv hrow hcb hi G.le a b c3 (nn : Int) val hn (kid a (by simp [Co.kids])) (kid b (by simp [Co.kids]))
    · exact clay_6 w0 pb cv (Cm.code l f) (Cm.sz l f a) (Cm.sz l f b) 0 rs s v cs w hsp hp hB0 h60 (by simpa [Co.kids] using hlen) h0 (by simpa [Co.kids] using hreg) cb l i hcv hrow hcb hi G.le a b c3 (nn : Int) val hn (kid a (by simp [Co.kids])) (kid b (by simp [Co.kids]))
    · exact clay_7 w0 pb cv (Cm.code l f) (Cm.sz l f a) (Cm.sz l f b) 0 rs s v cs w hsp hp hB0 h60 (by simpa [Co.kids] using hlen) h0 (by simpa [Co.kids] using hreg) cb l i hcv hrow hcb hi G.le a b c3 (nn : Int) val hn (kid a (by simp [Co.kids])) (kid b (by simp [Co.kids]))
    · exact clay_8 w0 pb cv (Cm.code l f) (Cm.sz l f a) 0 0 rs s v cs w hsp hp hB0 h60 (by simpa [Co.kids] using hlen) h0 (by simpa [Co.kids] using hreg) cb l i hcv hrow hcb hi G.le a b c3 (nn : Int) val hn (kid a (by simp [Co.kids]))
    · exact clay_9 w0 pb cv (Cm.code l f) (Cm.sz l f a) 0 0 rs s v cs w hsp hp hB0 h60 (by simpa [Co.kids] using hlen) h0 (by simpa [Co.kids] using hreg) cb l i hcv hrow hcb hi G.le a b c3 (nn : Int) val hn (kid a (by simp [Co.kids]))
    · exact clay_10 w0 pb cv (Cm.code l f) (Cm.sz l f a) 0 0 rs s v cs w hsp hp hB0 h60 (by simpa [Co.kids] using hlen) h0 (by simpa [Co.kids] using hreg) cb l i hcv hrow hcb hi G.le a b c3 (nn : Int) val hn (kid a (by simp [Co.kids]))
    · exact clay_11 w0 pb cv (Cm.code l f) (Cm.sz l f a) (Cm.sz l f b) 0 rs s v cs w hsp hp hB0 h60 (by simpa [Co.kids] using hlen) h0 (by simpa [Co.kids] using hreg) cb l i hcv hrow hcb hi G.le a b c3 (nn : Int) val hn hval (kid a (by simp [Co.kids])) (kid b (by simp [Co.kids]))
    · exact clay_12 w0 pb cv (Cm.code l f) (Cm.sz l f a) (Cm.sz l f b) (Cm.sz l f c3) rs s v cs w hsp hp hB0 h60 (by simpa [Co.kids] using hlen) h0 (by simpa [Co.kids] using hreg) cb l i hcv hrow hcb hi G.le a b c3 (nn : Int) val hn (kid a (by simp [Co.kids])) (kid b (by simp [Co.kids])) (kid c3 (by simp [Co.kids]))
    · exact clay_13 w0 pb cv (Cm.code l f) (Cm.sz l f a) (Cm.sz l f b) (Cm.sz l f c3) rs s v cs w hsp hp hB0 h60 (by simpa [Co.kids] using hlen) h0 (by simpa [Co.kids] using hreg) cb l i hcv hrow hcb hi G.le a b c3 nn val hn hn60 (kid a (by simp [Co.kids])) (kid b (by simp [Co.kids])) (kid c3 (by simp [Co.kids]))
    · exact clay_14 w0 pb cv (Cm.code l f) (Cm.sz l f a) (Cm.sz l f b) 0 rs s v cs w hsp hp hB0 h60 (by simpa [Co.kids] using hlen) h0 (by simpa [Co.kids] using hreg) cb l i hcv hrow hcb hi G.le a b c3 nn val hn hn60 (kid a (by simp [Co.kids])) (kid b (by simp [Co.kids]))
    · exact clay_15 w0 pb cv (Cm.code l f) 0 0 0 rs s v cs w hsp hp hB0 h60 (by simpa [Co.kids] using hlen) h0 (by simpa [Co.kids] using hreg) cb l i hcv hrow hcb hi G.le a b c3 nn val hn hn60
    · exact clay_16 w0 pb cv (Cm.code l f) 0 0 0 rs s v cs w hsp hp hB0 h60 (by simpa [Co.kids] using hlen) h0 (by simpa [Co.kids] using hreg) cb l i hcv hrow hcb hi G.le a b c3 (nn : Int) val hn
    · exact clay_17 w0 pb cv (Cm.code l f) 0 0 0 rs s v cs w hsp hp hB0 h60 (by simpa [Co.kids] using hlen) h0 (by simpa [Co.kids] using hreg) cb l i hcv hrow hcb hi G.le a b c3 (nn : Int) val hn

end Go.Proofs.Ytodpmonbfecfdaa
