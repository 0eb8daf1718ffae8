/-
  spec.l3Bool; spec.l8Both, l8List, l8Alt, l8Fork: by scripts.
  spec.l8Reduce; what a node lays with one more register.
-/
import Derived.Test.YtodpmonbfecfdaaCmS
import Derived.Test.YtodpmonbfecfdaaAns
import Derived.Deep.RegionHeld3
namespace Go.Proofs.Ytodpmonbfecfdaa
open Go.RowKit
set_option linter.unusedVariables false
set_option linter.unusedSimpArgs false


namespace Cm
def kindC (k : Int) : M.Cl := ⟨k, 0, ByteArray.empty, ByteArray.empty, 0⟩
theorem kindV_eq (k : Int) : kindV k = [kindC k] := rfl
end Cm
set_option maxHeartbeats 400000 in
theorem l3Bool_cm (q : Bool) (w : World) : Calls Try.prog 68 #[.bool q] w fun e w' => ∃ s, e = .returned s ∧ Res w' w.heap.size s [Cm.kindC (if q = true then 2 else 1)] ∧ Below w.heap.size w w' := by
  cases q
  · go_enter Try.func68, Try.ntmps68
    go_wp2_with fail
    go_ret
    exact ⟨_, rfl, one_cell w w.heap.size w.heap.size (Cm.kindC 1) rfl (Nat.le_refl _), (Below.refl _ _).alloc (Nat.le_refl _) _⟩
  · go_enter Try.func68, Try.ntmps68
    go_wp2_with fail
    go_ret
    exact ⟨_, rfl, one_cell w w.heap.size w.heap.size (Cm.kindC 2) rfl (Nat.le_refl _), (Below.refl _ _).alloc (Nat.le_refl _) _⟩

set_option maxRecDepth 100000 in
set_option maxHeartbeats 4000000 in
theorem l8Both_any (w0 : World) (pb : Nat) (cv : Value) (rec : Cm.Rec) (na nb nc : Nat) (rs : List Int) (rv : Value) (rb : Nat) (s : Cm.St) (w : World) (hsp : ∃ v cs, Cm.Sp 41 w pb cv [] s v cs) (hp : w0.heap.size ≤ pb) (hB0 : Below w0.heap.size w0 w) (hrg : w.ownsRow rb 2 1 rv rs.length (rs.map (Value.int .i64))) (h60 : rs.length = 60) (hlen : s.len + 14 * (1 + na + nb + nc) ≤ 20000) (h0 : 0 ≤ s.regs) (hreg : s.regs + 2 * (1 + (na : Int) + nb + nc) ≤ 20000) (a b : Int) (Ha : Cm.Lays w0 pb cv rec na a) (Hb : Cm.Lays w0 pb cv rec nb b) :
    Calls Try.prog 35 #[.pointer (some ⟨pb, 0, none⟩), .int .i64 a, .int .i64 b, rv] w fun e w' => e = .returned (.tuple #[]) ∧ Cm.Lg 41 pb cv [] w (Cm.pair rec a b rs s) w' := by
  obtain ⟨t0, q0⟩ : ∃ t, s = t := ⟨_, rfl⟩
  have L0 : Cm.Lg 41 pb cv [] w t0 w := by rw [← q0]; exact Cm.Lg.start hsp
  have HBS := hB0
  have HRS := hrg
  rw [q0] at hlen h0 hreg
  obtain ⟨t1, q1⟩ : ∃ t, t0.put 1 0 = t := ⟨_, rfl⟩
  have n1 := Cm.put_len t0 1 0
  have r1 := Cm.put_regs t0 1 0
  rw [q1] at n1 r1
  have C0 := hide (fun (W : World) (L : Cm.Lg 41 pb cv [] w t0 W) => Cm.put_lg 1 0 L (by omega) q1)
  obtain ⟨t2, q2⟩ : ∃ t, rec a rs t1 = t := ⟨_, rfl⟩
  have n2 := Ha.1 rs t1
  rw [q2] at n2
  obtain ⟨n2, m2, r2, x2⟩ := n2
  have C1 := hide (fun (W : World) (L : Cm.Lg 41 pb cv [] w t1 W) => Ha.at hp HBS L HRS h60 (by omega) (by omega) (by omega) q2)
  obtain ⟨t3, q3⟩ : ∃ t, t2.put 4 0 = t := ⟨_, rfl⟩
  have n3 := Cm.put_len t2 4 0
  have r3 := Cm.put_regs t2 4 0
  rw [q3] at n3 r3
  have C2 := hide (fun (W : World) (L : Cm.Lg 41 pb cv [] w t2 W) => Cm.put_lg 4 0 L (by omega) q3)
  obtain ⟨t4, q4⟩ : ∃ t, rec b rs t3 = t := ⟨_, rfl⟩
  have n4 := Hb.1 rs t3
  rw [q4] at n4
  obtain ⟨n4, m4, r4, x4⟩ := n4
  have C3 := hide (fun (W : World) (L : Cm.Lg 41 pb cv [] w t3 W) => Hb.at hp HBS L HRS h60 (by omega) (by omega) (by omega) q4)
  have HF := hide (show t4 = Cm.pair rec a b rs t0 by rw [← q4, ← q3, ← q2, ← q1]; rfl)
  clear q1 q2 q3 q4
  clear n1 r1 n2 r2 m2 x2 n3 r3 n4 r4 m4 x4
  rw [← q0] at HF
  have FIN := hide (fun (W : World) (L : Cm.Lg 41 pb cv [] w t4 W) => show Cm.Lg 41 pb cv [] w (Cm.pair rec a b rs s) W from (unhide HF) ▸ L)
  clear hsp hp hB0 hrg HBS HRS HF hlen h0 hreg h60 Ha Hb
  clear q0
  go_enter Try.func35, Try.ntmps35
  go_wp2_with fail
  refine ((unhide C0) _ L0).mono ?_
  rintro e w1 ⟨rfl, L1⟩
  go_wp2_with fail
  refine ((unhide C1) _ L1).mono ?_
  rintro e w2 ⟨rfl, L2⟩
  go_wp2_with fail
  refine ((unhide C2) _ L2).mono ?_
  rintro e w3 ⟨rfl, L3⟩
  go_wp2_with fail
  refine ((unhide C3) _ L3).mono ?_
  rintro e w4 ⟨rfl, L4⟩
  go_wp2_with fail
  go_end0
  exact ⟨rfl, (unhide FIN) _ L4⟩

set_option maxRecDepth 100000 in
set_option maxHeartbeats 4000000 in
theorem l8List_any (w0 : World) (pb : Nat) (cv : Value) (rec : Cm.Rec) (na nb nc : Nat) (rs : List Int) (rv : Value) (rb : Nat) (s : Cm.St) (w : World) (hsp : ∃ v cs, Cm.Sp 41 w pb cv [] s v cs) (hp : w0.heap.size ≤ pb) (hB0 : Below w0.heap.size w0 w) (hrg : w.ownsRow rb 2 1 rv rs.length (rs.map (Value.int .i64))) (h60 : rs.length = 60) (hlen : s.len + 14 * (1 + na + nb + nc) ≤ 20000) (h0 : 0 ≤ s.regs) (hreg : s.regs + 2 * (1 + (na : Int) + nb + nc) ≤ 20000) (a b c3 num : Int) (vv : Value) (hvv : ∃ x y z, vv = .slice x y z) (Ha : Cm.Lays w0 pb cv rec na a) :
    Calls Try.prog 37 #[.pointer (some ⟨pb, 0, none⟩), .agg #[.int .i64 10, .int .i64 a, .int .i64 b, .int .i64 c3, .int .i64 num, vv], rv] w fun e w' => e = .returned (.tuple #[]) ∧ Cm.Lg 41 pb cv [] w (Cm.list rec a rs s) w' := by
  obtain ⟨vx, vy, vz, rfl⟩ := hvv
  obtain ⟨t0, q0⟩ : ∃ t, s = t := ⟨_, rfl⟩
  obtain ⟨wS, hwS⟩ : ∃ wS, w.alloc (.cells #[.int .i64 10, .int .i64 a, .int .i64 b, .int .i64 c3, .int .i64 num, .slice vx vy vz] 48) = wS := ⟨_, rfl⟩
  have BS : Below w.heap.size w wS := by rw [← hwS]; exact (Below.refl _ _).alloc (Nat.le_refl _) _
  have X0 : Own wS w.heap.size 48 [.int .i64 10, .int .i64 a, .int .i64 b, .int .i64 c3, .int .i64 num, .slice vx vy vz] := by rw [← hwS]; exact ⟨_, heap_alloc_new _ _, rfl⟩
  have LW : Cm.Lg 41 pb cv [] w s w := Cm.Lg.start hsp
  have HAH := hide (LW.below BS)
  have L0 : Cm.Lg 41 pb cv [] wS t0 wS := by rw [← q0]; exact Cm.Lg.start (LW.below BS).1
  have HBS : Below w0.heap.size w0 wS := hB0.trans (BS.mono hB0.size)
  have HRS := Tr.owns_below hrg BS
  rw [q0] at hlen h0 hreg
  obtain ⟨t1, q1⟩ : ∃ t, t0.reg = t := ⟨_, rfl⟩
  have n1 := Cm.reg_len t0
  have r1 := Cm.reg_regs t0
  rw [q1] at n1 r1
  have C0 := hide (fun (W : World) (L : Cm.Lg 41 pb cv [] wS t0 W) => Cm.reg_lg L (by omega) (by omega) q1)
  obtain ⟨t2, q2⟩ : ∃ t, t1.val 3 (Cm.kindV 5) = t := ⟨_, rfl⟩
  have n2 := Cm.val_len t1 3 (Cm.kindV 5)
  have r2 := Cm.val_regs t1 3 (Cm.kindV 5)
  rw [q2] at n2 r2
  have C1 := hide (fun (W : World) (x : Value) (B : Nat) (L : Cm.Lg 41 pb cv [] wS t1 W) (hx : Res W B x [Cm.kindC 5]) => Cm.val1_lg 3 L (by omega) hx q2)
  obtain ⟨t3, q3⟩ : ∃ t, t2.put 16 t0.regs = t := ⟨_, rfl⟩
  have n3 := Cm.put_len t2 16 t0.regs
  have r3 := Cm.put_regs t2 16 t0.regs
  rw [q3] at n3 r3
  have C2 := hide (fun (W : World) (L : Cm.Lg 41 pb cv [] wS t2 W) => Cm.put_lg 16 t0.regs L (by omega) q3)
  obtain ⟨t4, q4⟩ : ∃ t, t3.put 12 0 = t := ⟨_, rfl⟩
  have n4 := Cm.put_len t3 12 0
  have r4 := Cm.put_regs t3 12 0
  rw [q4] at n4 r4
  have C3 := hide (fun (W : World) (L : Cm.Lg 41 pb cv [] wS t3 W) => Cm.put_lg 12 0 L (by omega) q4)
  obtain ⟨t5, q5⟩ : ∃ t, rec a rs t4 = t := ⟨_, rfl⟩
  have n5 := Ha.1 rs t4
  rw [q5] at n5
  obtain ⟨n5, m5, r5, x5⟩ := n5
  have C4 := hide (fun (W : World) (L : Cm.Lg 41 pb cv [] wS t4 W) => Ha.at hp HBS L HRS h60 (by omega) (by omega) (by omega) q5)
  obtain ⟨t6, q6⟩ : ∃ t, t5.put 18 t0.regs = t := ⟨_, rfl⟩
  have n6 := Cm.put_len t5 18 t0.regs
  have r6 := Cm.put_regs t5 18 t0.regs
  rw [q6] at n6 r6
  have C5 := hide (fun (W : World) (L : Cm.Lg 41 pb cv [] wS t5 W) => Cm.put_lg 18 t0.regs L (by omega) q6)
  obtain ⟨t7, q7⟩ : ∃ t, t6.put 15 0 = t := ⟨_, rfl⟩
  have n7 := Cm.put_len t6 15 0
  have r7 := Cm.put_regs t6 15 0
  rw [q7] at n7 r7
  have C6 := hide (fun (W : World) (L : Cm.Lg 41 pb cv [] wS t6 W) => Cm.put_lg 15 0 L (by omega) q7)
  obtain ⟨t8, q8⟩ : ∃ t, t7.here t3.len = t := ⟨_, rfl⟩
  have n8 := Cm.here_len t7 t3.len
  have r8 := Cm.here_regs t7 t3.len
  rw [q8] at n8 r8
  have C7 := hide (fun (W : World) (L : Cm.Lg 41 pb cv [] wS t7 W) => Cm.here_lg t3.len L (by omega) (by omega) q8)
  obtain ⟨t9, q9⟩ : ∃ t, t8.put 2 0 = t := ⟨_, rfl⟩
  have n9 := Cm.put_len t8 2 0
  have r9 := Cm.put_regs t8 2 0
  rw [q9] at n9 r9
  have C8 := hide (fun (W : World) (L : Cm.Lg 41 pb cv [] wS t8 W) => Cm.put_lg 2 0 L (by omega) q9)
  obtain ⟨t10, q10⟩ : ∃ t, t9.put 17 t0.regs = t := ⟨_, rfl⟩
  have n10 := Cm.put_len t9 17 t0.regs
  have r10 := Cm.put_regs t9 17 t0.regs
  rw [q10] at n10 r10
  have C9 := hide (fun (W : World) (L : Cm.Lg 41 pb cv [] wS t9 W) => Cm.put_lg 17 t0.regs L (by omega) q10)
  have HF := hide (show t10 = Cm.list rec a rs t0 by rw [← q10, ← q9, ← q8, ← q7, ← q6, ← q5, ← q4, ← q3, ← q2, ← q1]; rfl)
  clear q1 q2 q3 q4 q5 q6 q7 q8 q9 q10
  clear n1 r1 n2 r2 n3 r3 n4 r4 n5 r5 m5 x5 n6 r6 n7 r7 n8 r8 n9 r9 n10 r10
  rw [← q0] at HF
  have FIN := hide (fun (W : World) (L : Cm.Lg 41 pb cv [] wS t10 W) => show Cm.Lg 41 pb cv [] w (Cm.list rec a rs s) W from (unhide HF) ▸ ((unhide HAH).go L))
  clear hsp hp hB0 hrg HBS HRS LW BS HF hlen h0 hreg h60 Ha
  clear q0
  go_enter Try.func37, Try.ntmps37
  go_wp2_with fail
  try rw [hwS]
  clear hwS
  refine ((unhide C0) _ L0).mono ?_
  rintro e w1 ⟨rfl, L1⟩
  go_wp2_with fail
  refine ((unhide C1) _ _ _ (L1.alloc _) (one_cell _ _ _ (Cm.kindC 5) rfl (Nat.le_refl _))).mono ?_
  rintro e w2 ⟨rfl, L2⟩
  go_wp2_with fail
  refine ((unhide C2) _ L2).mono ?_
  rintro e w3 ⟨rfl, L3⟩
  go_wp2_with fail
  refine ((unhide C3) _ L3).mono ?_
  rintro e w4 ⟨rfl, L4⟩
  have y4 := (L4.own X0 (by decide)).cell 1
  simp only [List.getElem?_cons_zero, List.getElem?_cons_succ] at y4
  go_wp2_with fail
  refine ((unhide C4) _ L4).mono ?_
  rintro e w5 ⟨rfl, L5⟩
  go_wp2_with fail
  refine ((unhide C5) _ L5).mono ?_
  rintro e w6 ⟨rfl, L6⟩
  go_wp2_with fail
  refine ((unhide C6) _ L6).mono ?_
  rintro e w7 ⟨rfl, L7⟩
  go_wp2_with fail
  refine ((unhide C7) _ L7).mono ?_
  rintro e w8 ⟨rfl, L8⟩
  go_wp2_with fail
  refine ((unhide C8) _ L8).mono ?_
  rintro e w9 ⟨rfl, L9⟩
  go_wp2_with fail
  refine ((unhide C9) _ L9).mono ?_
  rintro e w10 ⟨rfl, L10⟩
  go_wp2_with fail
  go_end0
  exact ⟨rfl, (unhide FIN) _ L10⟩

set_option maxRecDepth 100000 in
set_option maxHeartbeats 4000000 in
theorem l8Alt_any (w0 : World) (pb : Nat) (cv : Value) (rec : Cm.Rec) (na nb nc : Nat) (rs : List Int) (rv : Value) (rb : Nat) (s : Cm.St) (w : World) (hsp : ∃ v cs, Cm.Sp 41 w pb cv [] s v cs) (hp : w0.heap.size ≤ pb) (hB0 : Below w0.heap.size w0 w) (hrg : w.ownsRow rb 2 1 rv rs.length (rs.map (Value.int .i64))) (h60 : rs.length = 60) (hlen : s.len + 14 * (1 + na + nb + nc) ≤ 20000) (h0 : 0 ≤ s.regs) (hreg : s.regs + 2 * (1 + (na : Int) + nb + nc) ≤ 20000) (a b c3 num : Int) (vv : Value) (hvv : ∃ x y z, vv = .slice x y z) (Ha : Cm.Lays w0 pb cv rec na a) (Hb : Cm.Lays w0 pb cv rec nb b) :
    Calls Try.prog 39 #[.pointer (some ⟨pb, 0, none⟩), .agg #[.int .i64 5, .int .i64 a, .int .i64 b, .int .i64 c3, .int .i64 num, vv], rv] w fun e w' => e = .returned (.tuple #[]) ∧ Cm.Lg 41 pb cv [] w (Cm.alt rec a b rs s) w' := by
  obtain ⟨vx, vy, vz, rfl⟩ := hvv
  obtain ⟨t0, q0⟩ : ∃ t, s = t := ⟨_, rfl⟩
  obtain ⟨wS, hwS⟩ : ∃ wS, w.alloc (.cells #[.int .i64 5, .int .i64 a, .int .i64 b, .int .i64 c3, .int .i64 num, .slice vx vy vz] 48) = wS := ⟨_, rfl⟩
  have BS : Below w.heap.size w wS := by rw [← hwS]; exact (Below.refl _ _).alloc (Nat.le_refl _) _
  have X0 : Own wS w.heap.size 48 [.int .i64 5, .int .i64 a, .int .i64 b, .int .i64 c3, .int .i64 num, .slice vx vy vz] := by rw [← hwS]; exact ⟨_, heap_alloc_new _ _, rfl⟩
  have LW : Cm.Lg 41 pb cv [] w s w := Cm.Lg.start hsp
  have HAH := hide (LW.below BS)
  have L0 : Cm.Lg 41 pb cv [] wS t0 wS := by rw [← q0]; exact Cm.Lg.start (LW.below BS).1
  have HBS : Below w0.heap.size w0 wS := hB0.trans (BS.mono hB0.size)
  have HRS := Tr.owns_below hrg BS
  rw [q0] at hlen h0 hreg
  obtain ⟨t1, q1⟩ : ∃ t, t0.reg = t := ⟨_, rfl⟩
  have n1 := Cm.reg_len t0
  have r1 := Cm.reg_regs t0
  rw [q1] at n1 r1
  have C0 := hide (fun (W : World) (L : Cm.Lg 41 pb cv [] wS t0 W) => Cm.reg_lg L (by omega) (by omega) q1)
  obtain ⟨t2, q2⟩ : ∃ t, t1.val 3 (Cm.kindV 1) = t := ⟨_, rfl⟩
  have n2 := Cm.val_len t1 3 (Cm.kindV 1)
  have r2 := Cm.val_regs t1 3 (Cm.kindV 1)
  rw [q2] at n2 r2
  have C1 := hide (fun (W : World) (x : Value) (B : Nat) (L : Cm.Lg 41 pb cv [] wS t1 W) (hx : Res W B x [Cm.kindC 1]) => Cm.val1_lg 3 L (by omega) hx q2)
  obtain ⟨t3, q3⟩ : ∃ t, t2.put 16 t0.regs = t := ⟨_, rfl⟩
  have n3 := Cm.put_len t2 16 t0.regs
  have r3 := Cm.put_regs t2 16 t0.regs
  rw [q3] at n3 r3
  have C2 := hide (fun (W : World) (L : Cm.Lg 41 pb cv [] wS t2 W) => Cm.put_lg 16 t0.regs L (by omega) q3)
  obtain ⟨t4, q4⟩ : ∃ t, t3.put 14 0 = t := ⟨_, rfl⟩
  have n4 := Cm.put_len t3 14 0
  have r4 := Cm.put_regs t3 14 0
  rw [q4] at n4 r4
  have C3 := hide (fun (W : World) (L : Cm.Lg 41 pb cv [] wS t3 W) => Cm.put_lg 14 0 L (by omega) q4)
  obtain ⟨t5, q5⟩ : ∃ t, rec a rs t4 = t := ⟨_, rfl⟩
  have n5 := Ha.1 rs t4
  rw [q5] at n5
  obtain ⟨n5, m5, r5, x5⟩ := n5
  have C4 := hide (fun (W : World) (L : Cm.Lg 41 pb cv [] wS t4 W) => Ha.at hp HBS L HRS h60 (by omega) (by omega) (by omega) q5)
  obtain ⟨t6, q6⟩ : ∃ t, t5.put 1 0 = t := ⟨_, rfl⟩
  have n6 := Cm.put_len t5 1 0
  have r6 := Cm.put_regs t5 1 0
  rw [q6] at n6 r6
  have C5 := hide (fun (W : World) (L : Cm.Lg 41 pb cv [] wS t5 W) => Cm.put_lg 1 0 L (by omega) q6)
  obtain ⟨t7, q7⟩ : ∃ t, t6.put 11 0 = t := ⟨_, rfl⟩
  have n7 := Cm.put_len t6 11 0
  have r7 := Cm.put_regs t6 11 0
  rw [q7] at n7 r7
  have C6 := hide (fun (W : World) (L : Cm.Lg 41 pb cv [] wS t6 W) => Cm.put_lg 11 0 L (by omega) q7)
  obtain ⟨t8, q8⟩ : ∃ t, t7.val 3 (Cm.kindV 2) = t := ⟨_, rfl⟩
  have n8 := Cm.val_len t7 3 (Cm.kindV 2)
  have r8 := Cm.val_regs t7 3 (Cm.kindV 2)
  rw [q8] at n8 r8
  have C7 := hide (fun (W : World) (x : Value) (B : Nat) (L : Cm.Lg 41 pb cv [] wS t7 W) (hx : Res W B x [Cm.kindC 2]) => Cm.val1_lg 3 L (by omega) hx q8)
  obtain ⟨t9, q9⟩ : ∃ t, t8.put 16 t0.regs = t := ⟨_, rfl⟩
  have n9 := Cm.put_len t8 16 t0.regs
  have r9 := Cm.put_regs t8 16 t0.regs
  rw [q9] at n9 r9
  have C8 := hide (fun (W : World) (L : Cm.Lg 41 pb cv [] wS t8 W) => Cm.put_lg 16 t0.regs L (by omega) q9)
  obtain ⟨t10, q10⟩ : ∃ t, t9.put 10 0 = t := ⟨_, rfl⟩
  have n10 := Cm.put_len t9 10 0
  have r10 := Cm.put_regs t9 10 0
  rw [q10] at n10 r10
  have C9 := hide (fun (W : World) (L : Cm.Lg 41 pb cv [] wS t9 W) => Cm.put_lg 10 0 L (by omega) q10)
  obtain ⟨t11, q11⟩ : ∃ t, t10.here t6.len = t := ⟨_, rfl⟩
  have n11 := Cm.here_len t10 t6.len
  have r11 := Cm.here_regs t10 t6.len
  rw [q11] at n11 r11
  have C10 := hide (fun (W : World) (L : Cm.Lg 41 pb cv [] wS t10 W) => Cm.here_lg t6.len L (by omega) (by omega) q11)
  obtain ⟨t12, q12⟩ : ∃ t, t11.put 15 0 = t := ⟨_, rfl⟩
  have n12 := Cm.put_len t11 15 0
  have r12 := Cm.put_regs t11 15 0
  rw [q12] at n12 r12
  have C11 := hide (fun (W : World) (L : Cm.Lg 41 pb cv [] wS t11 W) => Cm.put_lg 15 0 L (by omega) q12)
  obtain ⟨t13, q13⟩ : ∃ t, t12.here t3.len = t := ⟨_, rfl⟩
  have n13 := Cm.here_len t12 t3.len
  have r13 := Cm.here_regs t12 t3.len
  rw [q13] at n13 r13
  have C12 := hide (fun (W : World) (L : Cm.Lg 41 pb cv [] wS t12 W) => Cm.here_lg t3.len L (by omega) (by omega) q13)
  obtain ⟨t14, q14⟩ : ∃ t, t13.put 17 t0.regs = t := ⟨_, rfl⟩
  have n14 := Cm.put_len t13 17 t0.regs
  have r14 := Cm.put_regs t13 17 t0.regs
  rw [q14] at n14 r14
  have C13 := hide (fun (W : World) (L : Cm.Lg 41 pb cv [] wS t13 W) => Cm.put_lg 17 t0.regs L (by omega) q14)
  obtain ⟨t15, q15⟩ : ∃ t, t14.put 11 0 = t := ⟨_, rfl⟩
  have n15 := Cm.put_len t14 11 0
  have r15 := Cm.put_regs t14 11 0
  rw [q15] at n15 r15
  have C14 := hide (fun (W : World) (L : Cm.Lg 41 pb cv [] wS t14 W) => Cm.put_lg 11 0 L (by omega) q15)
  obtain ⟨t16, q16⟩ : ∃ t, t15.put 15 0 = t := ⟨_, rfl⟩
  have n16 := Cm.put_len t15 15 0
  have r16 := Cm.put_regs t15 15 0
  rw [q16] at n16 r16
  have C15 := hide (fun (W : World) (L : Cm.Lg 41 pb cv [] wS t15 W) => Cm.put_lg 15 0 L (by omega) q16)
  obtain ⟨t17, q17⟩ : ∃ t, t16.here t14.len = t := ⟨_, rfl⟩
  have n17 := Cm.here_len t16 t14.len
  have r17 := Cm.here_regs t16 t14.len
  rw [q17] at n17 r17
  have C16 := hide (fun (W : World) (L : Cm.Lg 41 pb cv [] wS t16 W) => Cm.here_lg t14.len L (by omega) (by omega) q17)
  obtain ⟨t18, q18⟩ : ∃ t, rec b rs t17 = t := ⟨_, rfl⟩
  have n18 := Hb.1 rs t17
  rw [q18] at n18
  obtain ⟨n18, m18, r18, x18⟩ := n18
  have C17 := hide (fun (W : World) (L : Cm.Lg 41 pb cv [] wS t17 W) => Hb.at hp HBS L HRS h60 (by omega) (by omega) (by omega) q18)
  obtain ⟨t19, q19⟩ : ∃ t, t18.here t9.len = t := ⟨_, rfl⟩
  have n19 := Cm.here_len t18 t9.len
  have r19 := Cm.here_regs t18 t9.len
  rw [q19] at n19 r19
  have C18 := hide (fun (W : World) (L : Cm.Lg 41 pb cv [] wS t18 W) => Cm.here_lg t9.len L (by omega) (by omega) q19)
  have HF := hide (show t19 = Cm.alt rec a b rs t0 by rw [← q19, ← q18, ← q17, ← q16, ← q15, ← q14, ← q13, ← q12, ← q11, ← q10, ← q9, ← q8, ← q7, ← q6, ← q5, ← q4, ← q3, ← q2, ← q1]; rfl)
  clear q1 q2 q3 q4 q5 q6 q7 q8 q9 q10 q11 q12 q13 q14 q15 q16 q17 q18 q19
  clear n1 r1 n2 r2 n3 r3 n4 r4 n5 r5 m5 x5 n6 r6 n7 r7 n8 r8 n9 r9 n10 r10 n11 r11 n12 r12 n13 r13 n14 r14 n15 r15 n16 r16 n17 r17 n18 r18 m18 x18 n19 r19
  rw [← q0] at HF
  have FIN := hide (fun (W : World) (L : Cm.Lg 41 pb cv [] wS t19 W) => show Cm.Lg 41 pb cv [] w (Cm.alt rec a b rs s) W from (unhide HF) ▸ ((unhide HAH).go L))
  clear hsp hp hB0 hrg HBS HRS LW BS HF hlen h0 hreg h60 Ha Hb
  clear q0
  go_enter Try.func39, Try.ntmps39
  go_wp2_with fail
  try rw [hwS]
  clear hwS
  refine ((unhide C0) _ L0).mono ?_
  rintro e w1 ⟨rfl, L1⟩
  go_wp2_with fail
  refine (l3Bool_cm false _).mono ?_
  rintro e u1 ⟨x1, rfl, hx1, hb1⟩
  go_wp2_with fail
  refine ((unhide C1) _ _ _ (L1.below hb1) hx1).mono ?_
  rintro e w2 ⟨rfl, L2⟩
  go_wp2_with fail
  refine ((unhide C2) _ L2).mono ?_
  rintro e w3 ⟨rfl, L3⟩
  go_wp2_with fail
  refine ((unhide C3) _ L3).mono ?_
  rintro e w4 ⟨rfl, L4⟩
  have y4 := (L4.own X0 (by decide)).cell 1
  simp only [List.getElem?_cons_zero, List.getElem?_cons_succ] at y4
  go_wp2_with fail
  refine ((unhide C4) _ L4).mono ?_
  rintro e w5 ⟨rfl, L5⟩
  go_wp2_with fail
  refine ((unhide C5) _ L5).mono ?_
  rintro e w6 ⟨rfl, L6⟩
  go_wp2_with fail
  refine ((unhide C6) _ L6).mono ?_
  rintro e w7 ⟨rfl, L7⟩
  go_wp2_with fail
  refine (l3Bool_cm true _).mono ?_
  rintro e u7 ⟨x7, rfl, hx7, hb7⟩
  go_wp2_with fail
  refine ((unhide C7) _ _ _ (L7.below hb7) hx7).mono ?_
  rintro e w8 ⟨rfl, L8⟩
  go_wp2_with fail
  refine ((unhide C8) _ L8).mono ?_
  rintro e w9 ⟨rfl, L9⟩
  go_wp2_with fail
  refine ((unhide C9) _ L9).mono ?_
  rintro e w10 ⟨rfl, L10⟩
  go_wp2_with fail
  refine ((unhide C10) _ L10).mono ?_
  rintro e w11 ⟨rfl, L11⟩
  go_wp2_with fail
  refine ((unhide C11) _ L11).mono ?_
  rintro e w12 ⟨rfl, L12⟩
  go_wp2_with fail
  refine ((unhide C12) _ L12).mono ?_
  rintro e w13 ⟨rfl, L13⟩
  go_wp2_with fail
  refine ((unhide C13) _ L13).mono ?_
  rintro e w14 ⟨rfl, L14⟩
  go_wp2_with fail
  refine ((unhide C14) _ L14).mono ?_
  rintro e w15 ⟨rfl, L15⟩
  go_wp2_with fail
  refine ((unhide C15) _ L15).mono ?_
  rintro e w16 ⟨rfl, L16⟩
  go_wp2_with fail
  refine ((unhide C16) _ L16).mono ?_
  rintro e w17 ⟨rfl, L17⟩
  have y17 := (L17.own X0 (by decide)).cell 2
  simp only [List.getElem?_cons_zero, List.getElem?_cons_succ] at y17
  go_wp2_with fail
  refine ((unhide C17) _ L17).mono ?_
  rintro e w18 ⟨rfl, L18⟩
  go_wp2_with fail
  refine ((unhide C18) _ L18).mono ?_
  rintro e w19 ⟨rfl, L19⟩
  go_wp2_with fail
  go_end0
  exact ⟨rfl, (unhide FIN) _ L19⟩

set_option maxRecDepth 100000 in
set_option maxHeartbeats 4000000 in
theorem l8Fork_4 (w0 : World) (pb : Nat) (cv : Value) (rec : Cm.Rec) (na nb nc : Nat) (rs : List Int) (rv : Value) (rb : Nat) (s : Cm.St) (w : World) (hsp : ∃ v cs, Cm.Sp 41 w pb cv [] s v cs) (hp : w0.heap.size ≤ pb) (hB0 : Below w0.heap.size w0 w) (hrg : w.ownsRow rb 2 1 rv rs.length (rs.map (Value.int .i64))) (h60 : rs.length = 60) (hlen : s.len + 14 * (1 + na + nb + nc) ≤ 20000) (h0 : 0 ≤ s.regs) (hreg : s.regs + 2 * (1 + (na : Int) + nb + nc) ≤ 20000) (a b c3 num : Int) (vv : Value) (hvv : ∃ x y z, vv = .slice x y z) (Ha : Cm.Lays w0 pb cv rec na a) (Hb : Cm.Lays w0 pb cv rec nb b) :
    Calls Try.prog 34 #[.pointer (some ⟨pb, 0, none⟩), .agg #[.int .i64 4, .int .i64 a, .int .i64 b, .int .i64 c3, .int .i64 num, vv], rv] w fun e w' => e = .returned (.tuple #[]) ∧ Cm.Lg 41 pb cv [] w (Cm.either rec 12 a b rs s) w' := by
  obtain ⟨vx, vy, vz, rfl⟩ := hvv
  obtain ⟨t0, q0⟩ : ∃ t, s = t := ⟨_, rfl⟩
  obtain ⟨wS, hwS⟩ : ∃ wS, w.alloc (.cells #[.int .i64 4, .int .i64 a, .int .i64 b, .int .i64 c3, .int .i64 num, .slice vx vy vz] 48) = wS := ⟨_, rfl⟩
  have BS : Below w.heap.size w wS := by rw [← hwS]; exact (Below.refl _ _).alloc (Nat.le_refl _) _
  have X0 : Own wS w.heap.size 48 [.int .i64 4, .int .i64 a, .int .i64 b, .int .i64 c3, .int .i64 num, .slice vx vy vz] := by rw [← hwS]; exact ⟨_, heap_alloc_new _ _, rfl⟩
  have LW : Cm.Lg 41 pb cv [] w s w := Cm.Lg.start hsp
  have HAH := hide (LW.below BS)
  have L0 : Cm.Lg 41 pb cv [] wS t0 wS := by rw [← q0]; exact Cm.Lg.start (LW.below BS).1
  have HBS : Below w0.heap.size w0 wS := hB0.trans (BS.mono hB0.size)
  have HRS := Tr.owns_below hrg BS
  rw [q0] at hlen h0 hreg
  obtain ⟨t1, q1⟩ : ∃ t, t0.put 12 0 = t := ⟨_, rfl⟩
  have n1 := Cm.put_len t0 12 0
  have r1 := Cm.put_regs t0 12 0
  rw [q1] at n1 r1
  have C0 := hide (fun (W : World) (L : Cm.Lg 41 pb cv [] wS t0 W) => Cm.put_lg 12 0 L (by omega) q1)
  obtain ⟨t2, q2⟩ : ∃ t, rec a rs t1 = t := ⟨_, rfl⟩
  have n2 := Ha.1 rs t1
  rw [q2] at n2
  obtain ⟨n2, m2, r2, x2⟩ := n2
  have C1 := hide (fun (W : World) (L : Cm.Lg 41 pb cv [] wS t1 W) => Ha.at hp HBS L HRS h60 (by omega) (by omega) (by omega) q2)
  obtain ⟨t3, q3⟩ : ∃ t, t2.put 10 0 = t := ⟨_, rfl⟩
  have n3 := Cm.put_len t2 10 0
  have r3 := Cm.put_regs t2 10 0
  rw [q3] at n3 r3
  have C2 := hide (fun (W : World) (L : Cm.Lg 41 pb cv [] wS t2 W) => Cm.put_lg 10 0 L (by omega) q3)
  obtain ⟨t4, q4⟩ : ∃ t, t3.here t0.len = t := ⟨_, rfl⟩
  have n4 := Cm.here_len t3 t0.len
  have r4 := Cm.here_regs t3 t0.len
  rw [q4] at n4 r4
  have C3 := hide (fun (W : World) (L : Cm.Lg 41 pb cv [] wS t3 W) => Cm.here_lg t0.len L (by omega) (by omega) q4)
  obtain ⟨t5, q5⟩ : ∃ t, rec b rs t4 = t := ⟨_, rfl⟩
  have n5 := Hb.1 rs t4
  rw [q5] at n5
  obtain ⟨n5, m5, r5, x5⟩ := n5
  have C4 := hide (fun (W : World) (L : Cm.Lg 41 pb cv [] wS t4 W) => Hb.at hp HBS L HRS h60 (by omega) (by omega) (by omega) q5)
  obtain ⟨t6, q6⟩ : ∃ t, t5.here t2.len = t := ⟨_, rfl⟩
  have n6 := Cm.here_len t5 t2.len
  have r6 := Cm.here_regs t5 t2.len
  rw [q6] at n6 r6
  have C5 := hide (fun (W : World) (L : Cm.Lg 41 pb cv [] wS t5 W) => Cm.here_lg t2.len L (by omega) (by omega) q6)
  have HF := hide (show t6 = Cm.either rec 12 a b rs t0 by rw [← q6, ← q5, ← q4, ← q3, ← q2, ← q1]; rfl)
  clear q1 q2 q3 q4 q5 q6
  clear n1 r1 n2 r2 m2 x2 n3 r3 n4 r4 n5 r5 m5 x5 n6 r6
  rw [← q0] at HF
  have FIN := hide (fun (W : World) (L : Cm.Lg 41 pb cv [] wS t6 W) => show Cm.Lg 41 pb cv [] w (Cm.either rec 12 a b rs s) W from (unhide HF) ▸ ((unhide HAH).go L))
  clear hsp hp hB0 hrg HBS HRS LW BS HF hlen h0 hreg h60 Ha Hb
  clear q0
  go_enter Try.func34, Try.ntmps34
  have y0 := (L0.own X0 (by decide)).cell 1
  simp only [List.getElem?_cons_zero, List.getElem?_cons_succ] at y0
  have y00 := (L0.own X0 (by decide)).cell 0
  have y02 := (L0.own X0 (by decide)).cell 2
  simp only [List.getElem?_cons_zero, List.getElem?_cons_succ] at y00 y02
  go_wp2_with fail
  try rw [hwS]
  clear hwS
  refine ((unhide C0) _ L0).mono ?_
  rintro e w1 ⟨rfl, L1⟩
  go_wp2_with fail
  refine ((unhide C1) _ L1).mono ?_
  rintro e w2 ⟨rfl, L2⟩
  go_wp2_with fail
  refine ((unhide C2) _ L2).mono ?_
  rintro e w3 ⟨rfl, L3⟩
  go_wp2_with fail
  refine ((unhide C3) _ L3).mono ?_
  rintro e w4 ⟨rfl, L4⟩
  go_wp2_with fail
  refine ((unhide C4) _ L4).mono ?_
  rintro e w5 ⟨rfl, L5⟩
  go_wp2_with fail
  refine ((unhide C5) _ L5).mono ?_
  rintro e w6 ⟨rfl, L6⟩
  go_wp2_with fail
  go_end0
  exact ⟨rfl, (unhide FIN) _ L6⟩

set_option maxRecDepth 100000 in
set_option maxHeartbeats 4000000 in
theorem l8Fork_12 (w0 : World) (pb : Nat) (cv : Value) (rec : Cm.Rec) (na nb nc : Nat) (rs : List Int) (rv : Value) (rb : Nat) (s : Cm.St) (w : World) (hsp : ∃ v cs, Cm.Sp 41 w pb cv [] s v cs) (hp : w0.heap.size ≤ pb) (hB0 : Below w0.heap.size w0 w) (hrg : w.ownsRow rb 2 1 rv rs.length (rs.map (Value.int .i64))) (h60 : rs.length = 60) (hlen : s.len + 14 * (1 + na + nb + nc) ≤ 20000) (h0 : 0 ≤ s.regs) (hreg : s.regs + 2 * (1 + (na : Int) + nb + nc) ≤ 20000) (a b c3 num : Int) (vv : Value) (hvv : ∃ x y z, vv = .slice x y z) (Ha : Cm.Lays w0 pb cv rec na a) (Hb : Cm.Lays w0 pb cv rec nb b) (Hc : Cm.Lays w0 pb cv rec nc c3) :
    Calls Try.prog 34 #[.pointer (some ⟨pb, 0, none⟩), .agg #[.int .i64 12, .int .i64 a, .int .i64 b, .int .i64 c3, .int .i64 num, vv], rv] w fun e w' => e = .returned (.tuple #[]) ∧ Cm.Lg 41 pb cv [] w (Cm.either rec 11 b c3 rs (rec a rs (s.put 1 0))) w' := by
  obtain ⟨vx, vy, vz, rfl⟩ := hvv
  obtain ⟨t0, q0⟩ : ∃ t, s = t := ⟨_, rfl⟩
  obtain ⟨wS, hwS⟩ : ∃ wS, w.alloc (.cells #[.int .i64 12, .int .i64 a, .int .i64 b, .int .i64 c3, .int .i64 num, .slice vx vy vz] 48) = wS := ⟨_, rfl⟩
  have BS : Below w.heap.size w wS := by rw [← hwS]; exact (Below.refl _ _).alloc (Nat.le_refl _) _
  have X0 : Own wS w.heap.size 48 [.int .i64 12, .int .i64 a, .int .i64 b, .int .i64 c3, .int .i64 num, .slice vx vy vz] := by rw [← hwS]; exact ⟨_, heap_alloc_new _ _, rfl⟩
  have LW : Cm.Lg 41 pb cv [] w s w := Cm.Lg.start hsp
  have HAH := hide (LW.below BS)
  have L0 : Cm.Lg 41 pb cv [] wS t0 wS := by rw [← q0]; exact Cm.Lg.start (LW.below BS).1
  have HBS : Below w0.heap.size w0 wS := hB0.trans (BS.mono hB0.size)
  have HRS := Tr.owns_below hrg BS
  rw [q0] at hlen h0 hreg
  obtain ⟨t1, q1⟩ : ∃ t, t0.put 1 0 = t := ⟨_, rfl⟩
  have n1 := Cm.put_len t0 1 0
  have r1 := Cm.put_regs t0 1 0
  rw [q1] at n1 r1
  have C0 := hide (fun (W : World) (L : Cm.Lg 41 pb cv [] wS t0 W) => Cm.put_lg 1 0 L (by omega) q1)
  obtain ⟨t2, q2⟩ : ∃ t, rec a rs t1 = t := ⟨_, rfl⟩
  have n2 := Ha.1 rs t1
  rw [q2] at n2
  obtain ⟨n2, m2, r2, x2⟩ := n2
  have C1 := hide (fun (W : World) (L : Cm.Lg 41 pb cv [] wS t1 W) => Ha.at hp HBS L HRS h60 (by omega) (by omega) (by omega) q2)
  obtain ⟨t3, q3⟩ : ∃ t, t2.put 11 0 = t := ⟨_, rfl⟩
  have n3 := Cm.put_len t2 11 0
  have r3 := Cm.put_regs t2 11 0
  rw [q3] at n3 r3
  have C2 := hide (fun (W : World) (L : Cm.Lg 41 pb cv [] wS t2 W) => Cm.put_lg 11 0 L (by omega) q3)
  obtain ⟨t4, q4⟩ : ∃ t, rec b rs t3 = t := ⟨_, rfl⟩
  have n4 := Hb.1 rs t3
  rw [q4] at n4
  obtain ⟨n4, m4, r4, x4⟩ := n4
  have C3 := hide (fun (W : World) (L : Cm.Lg 41 pb cv [] wS t3 W) => Hb.at hp HBS L HRS h60 (by omega) (by omega) (by omega) q4)
  obtain ⟨t5, q5⟩ : ∃ t, t4.put 10 0 = t := ⟨_, rfl⟩
  have n5 := Cm.put_len t4 10 0
  have r5 := Cm.put_regs t4 10 0
  rw [q5] at n5 r5
  have C4 := hide (fun (W : World) (L : Cm.Lg 41 pb cv [] wS t4 W) => Cm.put_lg 10 0 L (by omega) q5)
  obtain ⟨t6, q6⟩ : ∃ t, t5.here t2.len = t := ⟨_, rfl⟩
  have n6 := Cm.here_len t5 t2.len
  have r6 := Cm.here_regs t5 t2.len
  rw [q6] at n6 r6
  have C5 := hide (fun (W : World) (L : Cm.Lg 41 pb cv [] wS t5 W) => Cm.here_lg t2.len L (by omega) (by omega) q6)
  obtain ⟨t7, q7⟩ : ∃ t, rec c3 rs t6 = t := ⟨_, rfl⟩
  have n7 := Hc.1 rs t6
  rw [q7] at n7
  obtain ⟨n7, m7, r7, x7⟩ := n7
  have C6 := hide (fun (W : World) (L : Cm.Lg 41 pb cv [] wS t6 W) => Hc.at hp HBS L HRS h60 (by omega) (by omega) (by omega) q7)
  obtain ⟨t8, q8⟩ : ∃ t, t7.here t4.len = t := ⟨_, rfl⟩
  have n8 := Cm.here_len t7 t4.len
  have r8 := Cm.here_regs t7 t4.len
  rw [q8] at n8 r8
  have C7 := hide (fun (W : World) (L : Cm.Lg 41 pb cv [] wS t7 W) => Cm.here_lg t4.len L (by omega) (by omega) q8)
  have HF := hide (show t8 = Cm.either rec 11 b c3 rs (rec a rs (t0.put 1 0)) by rw [← q8, ← q7, ← q6, ← q5, ← q4, ← q3, ← q2, ← q1]; rfl)
  clear q1 q2 q3 q4 q5 q6 q7 q8
  clear n1 r1 n2 r2 m2 x2 n3 r3 n4 r4 m4 x4 n5 r5 n6 r6 n7 r7 m7 x7 n8 r8
  rw [← q0] at HF
  have FIN := hide (fun (W : World) (L : Cm.Lg 41 pb cv [] wS t8 W) => show Cm.Lg 41 pb cv [] w (Cm.either rec 11 b c3 rs (rec a rs (s.put 1 0))) W from (unhide HF) ▸ ((unhide HAH).go L))
  clear hsp hp hB0 hrg HBS HRS LW BS HF hlen h0 hreg h60 Ha Hb Hc
  clear q0
  go_enter Try.func34, Try.ntmps34
  have y0 := (L0.own X0 (by decide)).cell 1
  simp only [List.getElem?_cons_zero, List.getElem?_cons_succ] at y0
  have y00 := (L0.own X0 (by decide)).cell 0
  have y02 := (L0.own X0 (by decide)).cell 2
  simp only [List.getElem?_cons_zero, List.getElem?_cons_succ] at y00 y02
  go_wp2_with fail
  try rw [hwS]
  clear hwS
  refine ((unhide C0) _ L0).mono ?_
  rintro e w1 ⟨rfl, L1⟩
  have y1 := (L1.own X0 (by decide)).cell 1
  simp only [List.getElem?_cons_zero, List.getElem?_cons_succ] at y1
  go_wp2_with fail
  refine ((unhide C1) _ L1).mono ?_
  rintro e w2 ⟨rfl, L2⟩
  go_wp2_with fail
  refine ((unhide C2) _ L2).mono ?_
  rintro e w3 ⟨rfl, L3⟩
  have y3 := (L3.own X0 (by decide)).cell 2
  simp only [List.getElem?_cons_zero, List.getElem?_cons_succ] at y3
  have y33 := (L3.own X0 (by decide)).cell 3
  simp only [List.getElem?_cons_zero, List.getElem?_cons_succ] at y33
  go_wp2_with fail
  refine ((unhide C3) _ L3).mono ?_
  rintro e w4 ⟨rfl, L4⟩
  go_wp2_with fail
  refine ((unhide C4) _ L4).mono ?_
  rintro e w5 ⟨rfl, L5⟩
  go_wp2_with fail
  refine ((unhide C5) _ L5).mono ?_
  rintro e w6 ⟨rfl, L6⟩
  go_wp2_with fail
  refine ((unhide C6) _ L6).mono ?_
  rintro e w7 ⟨rfl, L7⟩
  go_wp2_with fail
  refine ((unhide C7) _ L7).mono ?_
  rintro e w8 ⟨rfl, L8⟩
  go_wp2_with fail
  go_end0
  exact ⟨rfl, (unhide FIN) _ L8⟩

end Go.Proofs.Ytodpmonbfecfdaa

namespace Go.Proofs.Ytodpmonbfecfdaa
open Go.RowKit
set_option linter.unusedVariables false
set_option linter.unusedSimpArgs false


set_option maxRecDepth 100000 in
set_option maxHeartbeats 4000000 in
theorem l8Reduce_any (w0 : World) (pb : Nat) (cv : Value) (rec : Cm.Rec) (na nb nc : Nat) (rs : List Int) (rv : Value) (rb : Nat) (s : Cm.St) (w : World) (hsp : ∃ v cs, Cm.Sp 41 w pb cv [] s v cs) (hp : w0.heap.size ≤ pb) (hB0 : Below w0.heap.size w0 w) (hrg : w.ownsRow rb 2 1 rv rs.length (rs.map (Value.int .i64))) (h60 : rs.length = 60) (hlen : s.len + 14 * (1 + na + nb + nc) ≤ 20000) (h0 : 0 ≤ s.regs) (hreg : s.regs + 2 * (1 + (na : Int) + nb + nc) ≤ 20000) (a b c3 : Int) (num : Nat) (hnum : num < 60) (vv : Value) (hvv : ∃ x y z, vv = .slice x y z) (Ha : Cm.Lays w0 pb cv rec na a) (Hb : Cm.Lays w0 pb cv rec nb b) (Hc : Cm.Lays w0 pb cv rec nc c3) :
    Calls Try.prog 38 #[.pointer (some ⟨pb, 0, none⟩), .agg #[.int .i64 13, .int .i64 a, .int .i64 b, .int .i64 c3, .int .i64 (num : Int), vv], rv] w fun e w' => e = .returned (.tuple #[]) ∧ Cm.Lg 41 pb cv [] w (Cm.reduce rec a b c3 (num : Int) rs s) w' := by
  obtain ⟨vx, vy, vz, rfl⟩ := hvv
  obtain ⟨t0, q0⟩ : ∃ t, s = t := ⟨_, rfl⟩
  obtain ⟨wS, hwS⟩ : ∃ wS, w.alloc (.cells #[.int .i64 13, .int .i64 a, .int .i64 b, .int .i64 c3, .int .i64 (num : Int), .slice vx vy vz] 48) = wS := ⟨_, rfl⟩
  have BS : Below w.heap.size w wS := by rw [← hwS]; exact (Below.refl _ _).alloc (Nat.le_refl _) _
  have X0 : Own wS w.heap.size 48 [.int .i64 13, .int .i64 a, .int .i64 b, .int .i64 c3, .int .i64 (num : Int), .slice vx vy vz] := by rw [← hwS]; exact ⟨_, heap_alloc_new _ _, rfl⟩
  have LW : Cm.Lg 41 pb cv [] w s w := Cm.Lg.start hsp
  have HAH := hide (LW.below BS)
  have L0 : Cm.Lg 41 pb cv [] wS t0 wS := by rw [← q0]; exact Cm.Lg.start (LW.below BS).1
  have HBS : Below w0.heap.size w0 wS := hB0.trans (BS.mono hB0.size)
  have HRS := Tr.owns_below hrg BS
  rw [q0] at hlen h0 hreg
  obtain ⟨t1, q1⟩ : ∃ t, t0.reg = t := ⟨_, rfl⟩
  have n1 := Cm.reg_len t0
  have r1 := Cm.reg_regs t0
  rw [q1] at n1 r1
  have C0 := hide (fun (W : World) (L : Cm.Lg 41 pb cv [] wS t0 W) => Cm.reg_lg L (by omega) (by omega) q1)
  obtain ⟨t2, q2⟩ : ∃ t, t1.reg = t := ⟨_, rfl⟩
  have n2 := Cm.reg_len t1
  have r2 := Cm.reg_regs t1
  rw [q2] at n2 r2
  have C1 := hide (fun (W : World) (L : Cm.Lg 41 pb cv [] wS t1 W) => Cm.reg_lg L (by omega) (by omega) q2)
  obtain ⟨t3, q3⟩ : ∃ t, t2.put 1 0 = t := ⟨_, rfl⟩
  have n3 := Cm.put_len t2 1 0
  have r3 := Cm.put_regs t2 1 0
  rw [q3] at n3 r3
  have C2 := hide (fun (W : World) (L : Cm.Lg 41 pb cv [] wS t2 W) => Cm.put_lg 1 0 L (by omega) q3)
  obtain ⟨t4, q4⟩ : ∃ t, rec b rs t3 = t := ⟨_, rfl⟩
  have n4 := Hb.1 rs t3
  rw [q4] at n4
  obtain ⟨n4, m4, r4, x4⟩ := n4
  have C3 := hide (fun (W : World) (L : Cm.Lg 41 pb cv [] wS t3 W) => Hb.at hp HBS L HRS h60 (by omega) (by omega) (by omega) q4)
  obtain ⟨t5, q5⟩ : ∃ t, t4.put 16 t0.regs = t := ⟨_, rfl⟩
  have n5 := Cm.put_len t4 16 t0.regs
  have r5 := Cm.put_regs t4 16 t0.regs
  rw [q5] at n5 r5
  have C4 := hide (fun (W : World) (L : Cm.Lg 41 pb cv [] wS t4 W) => Cm.put_lg 16 t0.regs L (by omega) q5)
  obtain ⟨t6, q6⟩ : ∃ t, t5.put 12 0 = t := ⟨_, rfl⟩
  have n6 := Cm.put_len t5 12 0
  have r6 := Cm.put_regs t5 12 0
  rw [q6] at n6 r6
  have C5 := hide (fun (W : World) (L : Cm.Lg 41 pb cv [] wS t5 W) => Cm.put_lg 12 0 L (by omega) q6)
  obtain ⟨t7, q7⟩ : ∃ t, rec a rs t6 = t := ⟨_, rfl⟩
  have n7 := Ha.1 rs t6
  rw [q7] at n7
  obtain ⟨n7, m7, r7, x7⟩ := n7
  have C6 := hide (fun (W : World) (L : Cm.Lg 41 pb cv [] wS t6 W) => Ha.at hp HBS L HRS h60 (by omega) (by omega) (by omega) q7)
  obtain ⟨t8, q8⟩ : ∃ t, t7.put 16 t1.regs = t := ⟨_, rfl⟩
  have n8 := Cm.put_len t7 16 t1.regs
  have r8 := Cm.put_regs t7 16 t1.regs
  rw [q8] at n8 r8
  have C7 := hide (fun (W : World) (L : Cm.Lg 41 pb cv [] wS t7 W) => Cm.put_lg 16 t1.regs L (by omega) q8)
  obtain ⟨t9, q9⟩ : ∃ t, t8.put 17 t0.regs = t := ⟨_, rfl⟩
  have n9 := Cm.put_len t8 17 t0.regs
  have r9 := Cm.put_regs t8 17 t0.regs
  rw [q9] at n9 r9
  have C8 := hide (fun (W : World) (L : Cm.Lg 41 pb cv [] wS t8 W) => Cm.put_lg 17 t0.regs L (by omega) q9)
  obtain ⟨t10, q10⟩ : ∃ t, t9.val 3 (Cm.kindV 0) = t := ⟨_, rfl⟩
  have n10 := Cm.val_len t9 3 (Cm.kindV 0)
  have r10 := Cm.val_regs t9 3 (Cm.kindV 0)
  rw [q10] at n10 r10
  have C9 := hide (fun (W : World) (x : Value) (B : Nat) (L : Cm.Lg 41 pb cv [] wS t9 W) (hx : Res W B x [Cm.kindC 0]) => Cm.val1_lg 3 L (by omega) hx q10)
  obtain ⟨t11, q11⟩ : ∃ t, t10.put 16 t0.regs = t := ⟨_, rfl⟩
  have n11 := Cm.put_len t10 16 t0.regs
  have r11 := Cm.put_regs t10 16 t0.regs
  rw [q11] at n11 r11
  have C10 := hide (fun (W : World) (L : Cm.Lg 41 pb cv [] wS t10 W) => Cm.put_lg 16 t0.regs L (by omega) q11)
  obtain ⟨rs2, hrs2⟩ : ∃ r2, rs.set num (t1.regs) = r2 := ⟨_, rfl⟩
  have h602 : rs2.length = 60 := by rw [← hrs2, List.length_set]; exact h60
  have CW := hide (fun (W : World) (L : Cm.Lg 41 pb cv [] wS t11 W) => l8With_any rb _ rs num (t1.regs) W (L.2.regs (by decide) HRS) (by omega) (by omega))
  rw [hrs2] at CW
  obtain ⟨t12, q12⟩ : ∃ t, rec c3 rs2 t11 = t := ⟨_, rfl⟩
  have n12 := Hc.1 rs2 t11
  rw [q12] at n12
  obtain ⟨n12, m12, r12, x12⟩ := n12
  have C11 := hide (fun (W : World) (y : Value) (b2 : Nat) (L : Cm.Lg 41 pb cv [] wS t11 W) (ho : W.ownsRow b2 2 1 y rs2.length (rs2.map (Value.int .i64))) => Hc.at hp (L.since hp HBS) (Cm.Lg.start L.1) ho h602 (by omega) (by omega) (by omega) q12)
  obtain ⟨t13, q13⟩ : ∃ t, t12.put 16 t0.regs = t := ⟨_, rfl⟩
  have n13 := Cm.put_len t12 16 t0.regs
  have r13 := Cm.put_regs t12 16 t0.regs
  rw [q13] at n13 r13
  have C12 := hide (fun (W : World) (L : Cm.Lg 41 pb cv [] wS t12 W) => Cm.put_lg 16 t0.regs L (by omega) q13)
  obtain ⟨t14, q14⟩ : ∃ t, t13.put 15 0 = t := ⟨_, rfl⟩
  have n14 := Cm.put_len t13 15 0
  have r14 := Cm.put_regs t13 15 0
  rw [q14] at n14 r14
  have C13 := hide (fun (W : World) (L : Cm.Lg 41 pb cv [] wS t13 W) => Cm.put_lg 15 0 L (by omega) q14)
  obtain ⟨t15, q15⟩ : ∃ t, t14.here t5.len = t := ⟨_, rfl⟩
  have n15 := Cm.here_len t14 t5.len
  have r15 := Cm.here_regs t14 t5.len
  rw [q15] at n15 r15
  have C14 := hide (fun (W : World) (L : Cm.Lg 41 pb cv [] wS t14 W) => Cm.here_lg t5.len L (by omega) (by omega) q15)
  obtain ⟨t16, q16⟩ : ∃ t, t15.put 2 0 = t := ⟨_, rfl⟩
  have n16 := Cm.put_len t15 2 0
  have r16 := Cm.put_regs t15 2 0
  rw [q16] at n16 r16
  have C15 := hide (fun (W : World) (L : Cm.Lg 41 pb cv [] wS t15 W) => Cm.put_lg 2 0 L (by omega) q16)
  obtain ⟨t17, q17⟩ : ∃ t, t16.put 17 t0.regs = t := ⟨_, rfl⟩
  have n17 := Cm.put_len t16 17 t0.regs
  have r17 := Cm.put_regs t16 17 t0.regs
  rw [q17] at n17 r17
  have C16 := hide (fun (W : World) (L : Cm.Lg 41 pb cv [] wS t16 W) => Cm.put_lg 17 t0.regs L (by omega) q17)
  have HF := hide (show t17 = Cm.reduce rec a b c3 (num : Int) rs t0 by rw [← q17, ← q16, ← q15, ← q14, ← q13, ← q12, ← hrs2, ← q11, ← q10, ← q9, ← q8, ← q7, ← q6, ← q5, ← q4, ← q3, ← q2, ← q1]; unfold Cm.reduce; rw [Int.toNat_natCast]; rfl)
  clear hrs2 q1 q2 q3 q4 q5 q6 q7 q8 q9 q10 q11 q12 q13 q14 q15 q16 q17
  clear n1 r1 n2 r2 n3 r3 n4 r4 m4 x4 n5 r5 n6 r6 n7 r7 m7 x7 n8 r8 n9 r9 n10 r10 n11 r11 n12 r12 m12 x12 n13 r13 n14 r14 n15 r15 n16 r16 n17 r17
  rw [← q0] at HF
  have FIN := hide (fun (W : World) (L : Cm.Lg 41 pb cv [] wS t17 W) => show Cm.Lg 41 pb cv [] w (Cm.reduce rec a b c3 (num : Int) rs s) W from (unhide HF) ▸ ((unhide HAH).go L))
  clear hsp hp hB0 hrg HBS HRS LW BS HF hlen h0 hreg h60 Ha Hb Hc
  clear q0
  go_enter Try.func38, Try.ntmps38
  go_wp2_with fail
  try rw [hwS]
  clear hwS
  refine ((unhide C0) _ L0).mono ?_
  rintro e w1 ⟨rfl, L1⟩
  go_wp2_with fail
  refine ((unhide C1) _ L1).mono ?_
  rintro e w2 ⟨rfl, L2⟩
  go_wp2_with fail
  refine ((unhide C2) _ L2).mono ?_
  rintro e w3 ⟨rfl, L3⟩
  have y3 := (L3.own X0 (by decide)).cell 2
  simp only [List.getElem?_cons_zero, List.getElem?_cons_succ] at y3
  go_wp2_with fail
  refine ((unhide C3) _ L3).mono ?_
  rintro e w4 ⟨rfl, L4⟩
  go_wp2_with fail
  refine ((unhide C4) _ L4).mono ?_
  rintro e w5 ⟨rfl, L5⟩
  go_wp2_with fail
  refine ((unhide C5) _ L5).mono ?_
  rintro e w6 ⟨rfl, L6⟩
  have y6 := (L6.own X0 (by decide)).cell 1
  simp only [List.getElem?_cons_zero, List.getElem?_cons_succ] at y6
  go_wp2_with fail
  refine ((unhide C6) _ L6).mono ?_
  rintro e w7 ⟨rfl, L7⟩
  go_wp2_with fail
  refine ((unhide C7) _ L7).mono ?_
  rintro e w8 ⟨rfl, L8⟩
  go_wp2_with fail
  refine ((unhide C8) _ L8).mono ?_
  rintro e w9 ⟨rfl, L9⟩
  go_wp2_with fail
  refine (l3Null_any _).mono ?_
  rintro e u9 ⟨x9, rfl, hx9, hb9⟩
  go_wp2_with fail
  refine ((unhide C9) _ _ _ (L9.below hb9) hx9).mono ?_
  rintro e w10 ⟨rfl, L10⟩
  go_wp2_with fail
  refine ((unhide C10) _ L10).mono ?_
  rintro e w11 ⟨rfl, L11⟩
  have ya := (L11.own X0 (by decide)).cell 3
  have yn := (L11.own X0 (by decide)).cell 4
  have ylt := (L11.own X0 (by decide)).lt
  simp only [List.getElem?_cons_zero, List.getElem?_cons_succ] at ya yn
  go_wp2_with fail
  have LD := L11.below ((Below.refl w11.heap.size w11).drew)
  go_region_held3 (fun w' => w'.cell? ⟨w.heap.size, 3, none⟩ = some (.int .i64 c3) ∧ w'.cell? ⟨w.heap.size, 4, none⟩ = some (.int .i64 (num : Int))) (first | (simp [go_sem, ya, yn]; done) | exact ⟨(hbx.cell (by exact ylt)).trans ya, (hbx.cell (by exact ylt)).trans yn⟩ | exact ⟨yb, ym⟩)
    (first | (go_at_call 41; refine ((unhide CW) _ LD).mono ?_; rintro e ux ⟨xx, rfl, hox, hbx⟩) | (go_at_call 15; have LX := LD.below hbx; refine ((unhide C11) _ _ _ LX hox).mono ?_; rintro e w12 ⟨rfl, LY⟩; have L12 := LX.go LY; have yb := (L12.own X0 (by decide)).cell 3; have ym := (L12.own X0 (by decide)).cell 4; simp only [List.getElem?_cons_zero, List.getElem?_cons_succ] at yb ym))
  go_wp2_with fail
  refine ((unhide C12) _ L12).mono ?_
  rintro e w13 ⟨rfl, L13⟩
  go_wp2_with fail
  refine ((unhide C13) _ L13).mono ?_
  rintro e w14 ⟨rfl, L14⟩
  go_wp2_with fail
  refine ((unhide C14) _ L14).mono ?_
  rintro e w15 ⟨rfl, L15⟩
  go_wp2_with fail
  refine ((unhide C15) _ L15).mono ?_
  rintro e w16 ⟨rfl, L16⟩
  go_wp2_with fail
  refine ((unhide C16) _ L16).mono ?_
  rintro e w17 ⟨rfl, L17⟩
  go_wp2_with fail
  go_end0
  exact ⟨rfl, (unhide FIN) _ L17⟩

end Go.Proofs.Ytodpmonbfecfdaa
