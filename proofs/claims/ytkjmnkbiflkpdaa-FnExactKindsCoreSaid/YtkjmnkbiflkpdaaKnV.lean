/-
  spec.l11Node at operations, conditions and reductions.
-/
import Derived.Test.YtkjmnkbiflkpdaaKnR
namespace Go.Proofs.Ytkjmnkbiflkpdaa
open Go.RowKit
set_option linter.unusedVariables false
set_option linter.unusedSimpArgs false

set_option maxRecDepth 100000 in
set_option maxHeartbeats 4000000 in
theorem l11Node_6a (bk len i : Nat) (c : Co) (vg vn vc : Nat) (A B : Kn) (w : World) (ho : c.op = 6) (hi : i < len) (hl : len ≤ 900)
    (g0 : w.cell? ⟨bk, i * 6, none⟩ = some (.int .i64 c.op)) (g1 : w.cell? ⟨bk, i * 6 + 1, none⟩ = some (.int .i64 c.a)) (g2 : w.cell? ⟨bk, i * 6 + 2, none⟩ = some (.int .i64 c.b)) (g3 : w.cell? ⟨bk, i * 6 + 3, none⟩ = some (.int .i64 c.c)) (g4 : w.cell? ⟨bk, i * 6 + 4, none⟩ = some (.int .i64 c.num)) (g5 : w.cell? ⟨bk, i * 6 + 5, none⟩ = some (.slice (some ⟨vg, 0, none⟩) vn vc)) (hbk : bk < w.heap.size) (HA : ∀ V, Below w.heap.size w V → Calls Try.prog 22 #[.slice (some ⟨bk, 0, none⟩) len len, .int .i64 c.a] V fun e w' => e = .returned (Kn.ans A) ∧ Below V.heap.size V w') (hA : Kn.Fit A) (HB : ∀ V, Below w.heap.size w V → Calls Try.prog 22 #[.slice (some ⟨bk, 0, none⟩) len len, .int .i64 c.b] V fun e w' => e = .returned (Kn.ans B) ∧ Below V.heap.size V w') (hB : Kn.Fit B) (hz : (A.fa || B.fa) = true) :
    Calls Try.prog 22 #[.slice (some ⟨bk, 0, none⟩) len len, .int .i64 (i : Int)] w fun e w' => e = .returned (Kn.ans (Kn.node c [A, B])) ∧ Below w.heap.size w w' := by
  have FIN := hide (Kn.ans_eq ((Kn.node_6 (c := c) (A := A) (B := B) hA ho).trans (show _ = (Kn.cp (A.lo * B.lo), Kn.cp (A.hi * B.hi), true) by rw [hz]; rfl)))
  rw [unhide FIN]
  have HT := hide (fun V => l11Times_any A.lo A.hi B.lo B.hi A.fa B.fa V ⟨hA.l0, hA.l1⟩ ⟨hA.h0, hA.h1⟩ ⟨hB.l0, hB.l1⟩ ⟨hB.h0, hB.h1⟩)
  generalize Kn.cp (A.lo * B.lo) = PX at *
  generalize Kn.cp (A.hi * B.hi) = PY at *
  rw [hz] at HT
  clear hz
  have FAA := hA
  unfold Kn.ans at HA
  have HHA := hide HA
  clear HA
  have FAB := hB
  unfold Kn.ans at HB
  have HHB := hide HB
  clear HB
  rw [ho] at g0
  have hiI : (i : Int) < (len : Int) := by omega
  have hi0 : (0 : Int) ≤ (i : Int) := by omega
  have HK := hide (fun V => l6Kids_6 V)
  have HL := hide (Kn.Led.first w [.int .i64 6, .int .i64 c.a, .int .i64 c.b, .int .i64 c.c, .int .i64 c.num, .slice (some ⟨vg, 0, none⟩) vn vc] rfl)
  generalize c.a = ca at *
  generalize c.b = cb at *
  generalize c.c = cc at *
  generalize c.num = cm at *
  obtain ⟨W, hW⟩ : ∃ W, W = ((((w.alloc (.cells #[.int .i64 0, .int .i64 0, .int .i64 0, .bool false] 25)).alloc (.cells #[.int .i64 6, .int .i64 ca, .int .i64 cb, .int .i64 cc, .int .i64 cm, .slice (some ⟨vg, 0, none⟩) vn vc] 48)).alloc (.cells #[.int .i64 0, .int .i64 1, .int .i64 1, .bool false] 25)).alloc (.cells #[.int .i64 0, .int .i64 0, .int .i64 0, .bool false] 25)).alloc (.cells #[.int .i64 0, .int .i64 0, .int .i64 0, .bool false] 25) := ⟨_, rfl⟩
  have L0 : Kn.Led w W [.int .i64 6, .int .i64 ca, .int .i64 cb, .int .i64 cc, .int .i64 cm, .slice (some ⟨vg, 0, none⟩) vn vc] [.int .i64 0, .int .i64 1, .int .i64 1, .bool false] [.int .i64 0, .int .i64 0, .int .i64 0, .bool false] [.int .i64 0, .int .i64 0, .int .i64 0, .bool false] := by rw [hW]; exact unhide HL
  clear HL
  go_enter Try.func22, Try.ntmps22
  go_wp2_with fail
  refine ((unhide HK) _).mono ?_
  rintro e wk ⟨rfl, hwk⟩
  subst wk
  go_upto_region 6 with fail
  try simp only [Nat.add_assoc, Nat.reduceAdd]
  rw [← hW]
  clear hW HK g0 g1 g2 g3 g4 g5
  obtain ⟨n0, n1, n2, n3, n4, n5⟩ := Kn.six_co L0.n
  go_wp2_with fail
  refine ((unhide HHA) _ L0.be).mono ?_
  rintro e w1 ⟨rfl, hb1⟩
  have M1 := L0.call hb1
  clear hb1 L0 n0 n1 n2 n3 n4 n5
  obtain ⟨c0, c1, c2, c3⟩ := Kn.four_co M1.a
  obtain ⟨z0, z1, z2, z3⟩ := Kn.four_fr M1.a
  have L1' := M1.setA (.int .i64 0) (.int .i64 A.lo) (.int .i64 A.hi) (.bool A.fa)
  obtain ⟨n0, n1, n2, n3, n4, n5⟩ := Kn.six_co M1.n
  go_upto_region 8 with fail
  rw [show (((w1.setCell ⟨w.heap.size + 3, 0, none⟩ (.int .i64 0)).setCell ⟨w.heap.size + 3, 1, none⟩ (.int .i64 A.lo)).setCell ⟨w.heap.size + 3, 2, none⟩ (.int .i64 A.hi)).setCell ⟨w.heap.size + 3, 3, none⟩ (.bool A.fa) = Kn.put4 w1 (w.heap.size + 3) (.int .i64 0) (.int .i64 A.lo) (.int .i64 A.hi) (.bool A.fa) from rfl]
  clear c0 c1 c2 c3 z0 z1 z2 z3 n0 n1 n2 n3 n4 n5 M1
  have L1 := L1'
  clear L1'
  generalize Kn.put4 w1 (w.heap.size + 3) (.int .i64 0) (.int .i64 A.lo) (.int .i64 A.hi) (.bool A.fa) = V1 at *
  obtain ⟨n0, n1, n2, n3, n4, n5⟩ := Kn.six_co L1.n
  go_wp2_with fail
  refine ((unhide HHB) _ L1.be).mono ?_
  rintro e w2 ⟨rfl, hb2⟩
  have M2 := L1.call hb2
  clear hb2 L1 n0 n1 n2 n3 n4 n5
  obtain ⟨c0, c1, c2, c3⟩ := Kn.four_co M2.b
  obtain ⟨z0, z1, z2, z3⟩ := Kn.four_fr M2.b
  have L2' := M2.setB (.int .i64 0) (.int .i64 B.lo) (.int .i64 B.hi) (.bool B.fa)
  obtain ⟨n0, n1, n2, n3, n4, n5⟩ := Kn.six_co M2.n
  go_upto_region 10 with fail
  rw [show (((w2.setCell ⟨w.heap.size + 4, 0, none⟩ (.int .i64 0)).setCell ⟨w.heap.size + 4, 1, none⟩ (.int .i64 B.lo)).setCell ⟨w.heap.size + 4, 2, none⟩ (.int .i64 B.hi)).setCell ⟨w.heap.size + 4, 3, none⟩ (.bool B.fa) = Kn.put4 w2 (w.heap.size + 4) (.int .i64 0) (.int .i64 B.lo) (.int .i64 B.hi) (.bool B.fa) from rfl]
  clear c0 c1 c2 c3 z0 z1 z2 z3 n0 n1 n2 n3 n4 n5 M2
  have L2 := L2'
  clear L2'
  generalize Kn.put4 w2 (w.heap.size + 4) (.int .i64 0) (.int .i64 B.lo) (.int .i64 B.hi) (.bool B.fa) = V2 at *
  obtain ⟨al, ah, af, ak⟩ := A
  simp only at *
  obtain ⟨bl, bh, bf, bk⟩ := B
  simp only at *
  obtain ⟨n0, n1, n2, n3, n4, n5⟩ := Kn.six_co L2.n
  obtain ⟨o0, o1, o2, o3⟩ := Kn.four_co L2.o
  obtain ⟨a0, a1, a2, a3⟩ := Kn.four_co L2.a
  obtain ⟨b0, b1, b2, b3⟩ := Kn.four_co L2.b
  go_wp2_with fail
  refine ((unhide HT) _).mono ?_
  rintro e w5 ⟨rfl, hw5⟩
  have L5 := L2.call hw5
  clear hw5 L2 n0 n1 n2 n3 n4 n5 o0 o1 o2 o3 a0 a1 a2 a3 b0 b1 b2 b3
  go_upto_region 26 with fail
  have O5 : Own (w5.alloc (.cells #[.int .i64 0, .int .i64 PX, .int .i64 PY, .bool true] 25)) w5.heap.size 25 [.int .i64 0, .int .i64 PX, .int .i64 PY, .bool true] := ⟨_, heap_alloc_new _ _, rfl⟩
  have L6 := L5.call ((Below.refl _ _).alloc (Nat.le_refl _) (.cells #[.int .i64 0, .int .i64 PX, .int .i64 PY, .bool true] 25))
  have hsz : w.heap.size ≤ w5.heap.size ∧ w.heap.size ≠ w5.heap.size ∧ w.heap.size + 1 ≠ w5.heap.size ∧ w.heap.size + 2 ≠ w5.heap.size ∧ w.heap.size + 3 ≠ w5.heap.size ∧ w.heap.size + 4 ≠ w5.heap.size := by
    have := L5.b.lt
    omega
  clear L5
  have HB5 := hide hsz.1
  have HN0 := hide hsz.2.1
  have HN1 := hide hsz.2.2.1
  have HN2 := hide hsz.2.2.2.1
  have HN3 := hide hsz.2.2.2.2.1
  have HN4 := hide hsz.2.2.2.2.2
  clear hsz
  generalize hV6 : w5.alloc (.cells #[.int .i64 0, .int .i64 PX, .int .i64 PY, .bool true] 25) = V6 at *
  clear hV6
  generalize w5.heap.size = b5 at *
  have z5 := O5.frozen 3
  obtain ⟨x0, x1, x2, x3⟩ := Kn.four_co O5
  obtain ⟨n0, n1, n2, n3, n4, n5⟩ := Kn.six_co L6.n
  have hbn : w.heap.size ≤ b5 := unhide HB5
  have L7 : Kn.Led w (V6.setCell ⟨b5, 3, none⟩ (.bool true)) _ _ _ _ := ⟨L6.be.setCell (p := ⟨b5, 3, none⟩) hbn _, L6.r.setOther _ _ (unhide HN0), L6.n.setOther _ _ (unhide HN1), L6.o.setOther _ _ (unhide HN2), L6.a.setOther _ _ (unhide HN3), L6.b.setOther _ _ (unhide HN4)⟩
  have O7 : Own (V6.setCell ⟨b5, 3, none⟩ (.bool true)) b5 25 [.int .i64 0, .int .i64 PX, .int .i64 PY, .bool true] := O5.set 3 _
  clear L6 O5
  go_upto_region 27 with fail
  clear z5 x0 x1 x2 x3 n0 n1 n2 n3 n4 n5
  generalize V6.setCell ⟨b5, 3, none⟩ (.bool true) = V7 at *
  obtain ⟨x0, x1, x2, x3⟩ := Kn.four_co O7
  obtain ⟨c0, c1, c2, c3⟩ := Kn.four_co L7.r
  obtain ⟨z0, z1, z2, z3⟩ := Kn.four_fr L7.r
  have O2 := hide (Kn.put4_own L7.r (.int .i64 0) (.int .i64 PX) (.int .i64 PY) (.bool true))
  have B2 := hide (Kn.put4_below L7.be (Nat.le_refl _) (.int .i64 0) (.int .i64 PX) (.int .i64 PY) (.bool true))
  clear L7
  go_wp2_with fail
  try rw [show (((V7.setCell ⟨w.heap.size, 0, none⟩ (.int .i64 0)).setCell ⟨w.heap.size, 1, none⟩ (.int .i64 PX)).setCell ⟨w.heap.size, 2, none⟩ (.int .i64 PY)).setCell ⟨w.heap.size, 3, none⟩ (.bool true) = Kn.put4 V7 w.heap.size (.int .i64 0) (.int .i64 PX) (.int .i64 PY) (.bool true) from rfl]
  have q := Kn.four_co (unhide O2)
  have BF := unhide B2
  clear O2 B2 c0 c1 c2 c3 z0 z1 z2 z3
  generalize Kn.put4 V7 w.heap.size (.int .i64 0) (.int .i64 PX) (.int .i64 PY) (.bool true) = WW at *
  obtain ⟨q0, q1, q2, q3⟩ := q
  refine bodyPost_ret (v := .agg #[.int .i64 0, .int .i64 PX, .int .i64 PY, .bool true]) (by simp [results, Try.results22, go_sem, q0, q1, q2, q3]; try rfl) rfl ?_
  exact ⟨rfl, BF⟩
set_option maxRecDepth 100000 in
set_option maxHeartbeats 4000000 in
theorem l11Node_6b (bk len i : Nat) (c : Co) (vg vn vc : Nat) (A B : Kn) (w : World) (ho : c.op = 6) (hi : i < len) (hl : len ≤ 900)
    (g0 : w.cell? ⟨bk, i * 6, none⟩ = some (.int .i64 c.op)) (g1 : w.cell? ⟨bk, i * 6 + 1, none⟩ = some (.int .i64 c.a)) (g2 : w.cell? ⟨bk, i * 6 + 2, none⟩ = some (.int .i64 c.b)) (g3 : w.cell? ⟨bk, i * 6 + 3, none⟩ = some (.int .i64 c.c)) (g4 : w.cell? ⟨bk, i * 6 + 4, none⟩ = some (.int .i64 c.num)) (g5 : w.cell? ⟨bk, i * 6 + 5, none⟩ = some (.slice (some ⟨vg, 0, none⟩) vn vc)) (hbk : bk < w.heap.size) (HA : ∀ V, Below w.heap.size w V → Calls Try.prog 22 #[.slice (some ⟨bk, 0, none⟩) len len, .int .i64 c.a] V fun e w' => e = .returned (Kn.ans A) ∧ Below V.heap.size V w') (hA : Kn.Fit A) (HB : ∀ V, Below w.heap.size w V → Calls Try.prog 22 #[.slice (some ⟨bk, 0, none⟩) len len, .int .i64 c.b] V fun e w' => e = .returned (Kn.ans B) ∧ Below V.heap.size V w') (hB : Kn.Fit B) (hz : (A.fa || B.fa) = false) :
    Calls Try.prog 22 #[.slice (some ⟨bk, 0, none⟩) len len, .int .i64 (i : Int)] w fun e w' => e = .returned (Kn.ans (Kn.node c [A, B])) ∧ Below w.heap.size w w' := by
  have FIN := hide (Kn.ans_eq ((Kn.node_6 (c := c) (A := A) (B := B) hA ho).trans (show _ = (Kn.cp (A.lo * B.lo), Kn.cp (A.hi * B.hi), !(decide (4 ≤ c.num) && decide (c.num ≤ 9))) by rw [hz]; rfl)))
  rw [unhide FIN]
  have HT := hide (fun V => l11Times_any A.lo A.hi B.lo B.hi A.fa B.fa V ⟨hA.l0, hA.l1⟩ ⟨hA.h0, hA.h1⟩ ⟨hB.l0, hB.l1⟩ ⟨hB.h0, hB.h1⟩)
  generalize Kn.cp (A.lo * B.lo) = PX at *
  generalize Kn.cp (A.hi * B.hi) = PY at *
  rw [hz] at HT
  clear hz
  have HI := hide (fun V => l1In_tr c.num 4 9 V)
  generalize (decide (4 ≤ c.num) && decide (c.num ≤ 9)) = PR at *
  have FAA := hA
  unfold Kn.ans at HA
  have HHA := hide HA
  clear HA
  have FAB := hB
  unfold Kn.ans at HB
  have HHB := hide HB
  clear HB
  rw [ho] at g0
  have hiI : (i : Int) < (len : Int) := by omega
  have hi0 : (0 : Int) ≤ (i : Int) := by omega
  have HK := hide (fun V => l6Kids_6 V)
  have HL := hide (Kn.Led.first w [.int .i64 6, .int .i64 c.a, .int .i64 c.b, .int .i64 c.c, .int .i64 c.num, .slice (some ⟨vg, 0, none⟩) vn vc] rfl)
  generalize c.a = ca at *
  generalize c.b = cb at *
  generalize c.c = cc at *
  generalize c.num = cm at *
  obtain ⟨W, hW⟩ : ∃ W, W = ((((w.alloc (.cells #[.int .i64 0, .int .i64 0, .int .i64 0, .bool false] 25)).alloc (.cells #[.int .i64 6, .int .i64 ca, .int .i64 cb, .int .i64 cc, .int .i64 cm, .slice (some ⟨vg, 0, none⟩) vn vc] 48)).alloc (.cells #[.int .i64 0, .int .i64 1, .int .i64 1, .bool false] 25)).alloc (.cells #[.int .i64 0, .int .i64 0, .int .i64 0, .bool false] 25)).alloc (.cells #[.int .i64 0, .int .i64 0, .int .i64 0, .bool false] 25) := ⟨_, rfl⟩
  have L0 : Kn.Led w W [.int .i64 6, .int .i64 ca, .int .i64 cb, .int .i64 cc, .int .i64 cm, .slice (some ⟨vg, 0, none⟩) vn vc] [.int .i64 0, .int .i64 1, .int .i64 1, .bool false] [.int .i64 0, .int .i64 0, .int .i64 0, .bool false] [.int .i64 0, .int .i64 0, .int .i64 0, .bool false] := by rw [hW]; exact unhide HL
  clear HL
  go_enter Try.func22, Try.ntmps22
  go_wp2_with fail
  refine ((unhide HK) _).mono ?_
  rintro e wk ⟨rfl, hwk⟩
  subst wk
  go_upto_region 6 with fail
  try simp only [Nat.add_assoc, Nat.reduceAdd]
  rw [← hW]
  clear hW HK g0 g1 g2 g3 g4 g5
  obtain ⟨n0, n1, n2, n3, n4, n5⟩ := Kn.six_co L0.n
  go_wp2_with fail
  refine ((unhide HHA) _ L0.be).mono ?_
  rintro e w1 ⟨rfl, hb1⟩
  have M1 := L0.call hb1
  clear hb1 L0 n0 n1 n2 n3 n4 n5
  obtain ⟨c0, c1, c2, c3⟩ := Kn.four_co M1.a
  obtain ⟨z0, z1, z2, z3⟩ := Kn.four_fr M1.a
  have L1' := M1.setA (.int .i64 0) (.int .i64 A.lo) (.int .i64 A.hi) (.bool A.fa)
  obtain ⟨n0, n1, n2, n3, n4, n5⟩ := Kn.six_co M1.n
  go_upto_region 8 with fail
  rw [show (((w1.setCell ⟨w.heap.size + 3, 0, none⟩ (.int .i64 0)).setCell ⟨w.heap.size + 3, 1, none⟩ (.int .i64 A.lo)).setCell ⟨w.heap.size + 3, 2, none⟩ (.int .i64 A.hi)).setCell ⟨w.heap.size + 3, 3, none⟩ (.bool A.fa) = Kn.put4 w1 (w.heap.size + 3) (.int .i64 0) (.int .i64 A.lo) (.int .i64 A.hi) (.bool A.fa) from rfl]
  clear c0 c1 c2 c3 z0 z1 z2 z3 n0 n1 n2 n3 n4 n5 M1
  have L1 := L1'
  clear L1'
  generalize Kn.put4 w1 (w.heap.size + 3) (.int .i64 0) (.int .i64 A.lo) (.int .i64 A.hi) (.bool A.fa) = V1 at *
  obtain ⟨n0, n1, n2, n3, n4, n5⟩ := Kn.six_co L1.n
  go_wp2_with fail
  refine ((unhide HHB) _ L1.be).mono ?_
  rintro e w2 ⟨rfl, hb2⟩
  have M2 := L1.call hb2
  clear hb2 L1 n0 n1 n2 n3 n4 n5
  obtain ⟨c0, c1, c2, c3⟩ := Kn.four_co M2.b
  obtain ⟨z0, z1, z2, z3⟩ := Kn.four_fr M2.b
  have L2' := M2.setB (.int .i64 0) (.int .i64 B.lo) (.int .i64 B.hi) (.bool B.fa)
  obtain ⟨n0, n1, n2, n3, n4, n5⟩ := Kn.six_co M2.n
  go_upto_region 10 with fail
  rw [show (((w2.setCell ⟨w.heap.size + 4, 0, none⟩ (.int .i64 0)).setCell ⟨w.heap.size + 4, 1, none⟩ (.int .i64 B.lo)).setCell ⟨w.heap.size + 4, 2, none⟩ (.int .i64 B.hi)).setCell ⟨w.heap.size + 4, 3, none⟩ (.bool B.fa) = Kn.put4 w2 (w.heap.size + 4) (.int .i64 0) (.int .i64 B.lo) (.int .i64 B.hi) (.bool B.fa) from rfl]
  clear c0 c1 c2 c3 z0 z1 z2 z3 n0 n1 n2 n3 n4 n5 M2
  have L2 := L2'
  clear L2'
  generalize Kn.put4 w2 (w.heap.size + 4) (.int .i64 0) (.int .i64 B.lo) (.int .i64 B.hi) (.bool B.fa) = V2 at *
  obtain ⟨al, ah, af, ak⟩ := A
  simp only at *
  obtain ⟨bl, bh, bf, bk⟩ := B
  simp only at *
  obtain ⟨n0, n1, n2, n3, n4, n5⟩ := Kn.six_co L2.n
  obtain ⟨o0, o1, o2, o3⟩ := Kn.four_co L2.o
  obtain ⟨a0, a1, a2, a3⟩ := Kn.four_co L2.a
  obtain ⟨b0, b1, b2, b3⟩ := Kn.four_co L2.b
  go_wp2_with fail
  refine ((unhide HT) _).mono ?_
  rintro e w5 ⟨rfl, hw5⟩
  have L5 := L2.call hw5
  clear hw5 L2 n0 n1 n2 n3 n4 n5 o0 o1 o2 o3 a0 a1 a2 a3 b0 b1 b2 b3
  go_upto_region 26 with fail
  have O5 : Own (w5.alloc (.cells #[.int .i64 0, .int .i64 PX, .int .i64 PY, .bool false] 25)) w5.heap.size 25 [.int .i64 0, .int .i64 PX, .int .i64 PY, .bool false] := ⟨_, heap_alloc_new _ _, rfl⟩
  have L6 := L5.call ((Below.refl _ _).alloc (Nat.le_refl _) (.cells #[.int .i64 0, .int .i64 PX, .int .i64 PY, .bool false] 25))
  have hsz : w.heap.size ≤ w5.heap.size ∧ w.heap.size ≠ w5.heap.size ∧ w.heap.size + 1 ≠ w5.heap.size ∧ w.heap.size + 2 ≠ w5.heap.size ∧ w.heap.size + 3 ≠ w5.heap.size ∧ w.heap.size + 4 ≠ w5.heap.size := by
    have := L5.b.lt
    omega
  clear L5
  have HB5 := hide hsz.1
  have HN0 := hide hsz.2.1
  have HN1 := hide hsz.2.2.1
  have HN2 := hide hsz.2.2.2.1
  have HN3 := hide hsz.2.2.2.2.1
  have HN4 := hide hsz.2.2.2.2.2
  clear hsz
  generalize hV6 : w5.alloc (.cells #[.int .i64 0, .int .i64 PX, .int .i64 PY, .bool false] 25) = V6 at *
  clear hV6
  generalize w5.heap.size = b5 at *
  have z5 := O5.frozen 3
  obtain ⟨x0, x1, x2, x3⟩ := Kn.four_co O5
  obtain ⟨n0, n1, n2, n3, n4, n5⟩ := Kn.six_co L6.n
  have hbn : w.heap.size ≤ b5 := unhide HB5
  have L7 : Kn.Led w (V6.setCell ⟨b5, 3, none⟩ (.bool (!PR))) _ _ _ _ := ⟨L6.be.setCell (p := ⟨b5, 3, none⟩) hbn _, L6.r.setOther _ _ (unhide HN0), L6.n.setOther _ _ (unhide HN1), L6.o.setOther _ _ (unhide HN2), L6.a.setOther _ _ (unhide HN3), L6.b.setOther _ _ (unhide HN4)⟩
  have O7 : Own (V6.setCell ⟨b5, 3, none⟩ (.bool (!PR))) b5 25 [.int .i64 0, .int .i64 PX, .int .i64 PY, .bool (!PR)] := O5.set 3 _
  clear L6 O5
  go_wp2_with fail
  refine ((unhide HI) _).mono ?_
  rintro e wz ⟨rfl, hwz⟩
  subst wz
  go_upto_region 27 with fail
  clear z5 x0 x1 x2 x3 n0 n1 n2 n3 n4 n5
  generalize V6.setCell ⟨b5, 3, none⟩ (.bool (!PR)) = V7 at *
  obtain ⟨x0, x1, x2, x3⟩ := Kn.four_co O7
  obtain ⟨c0, c1, c2, c3⟩ := Kn.four_co L7.r
  obtain ⟨z0, z1, z2, z3⟩ := Kn.four_fr L7.r
  have O2 := hide (Kn.put4_own L7.r (.int .i64 0) (.int .i64 PX) (.int .i64 PY) (.bool (!PR)))
  have B2 := hide (Kn.put4_below L7.be (Nat.le_refl _) (.int .i64 0) (.int .i64 PX) (.int .i64 PY) (.bool (!PR)))
  clear L7
  go_wp2_with fail
  try rw [show (((V7.setCell ⟨w.heap.size, 0, none⟩ (.int .i64 0)).setCell ⟨w.heap.size, 1, none⟩ (.int .i64 PX)).setCell ⟨w.heap.size, 2, none⟩ (.int .i64 PY)).setCell ⟨w.heap.size, 3, none⟩ (.bool (!PR)) = Kn.put4 V7 w.heap.size (.int .i64 0) (.int .i64 PX) (.int .i64 PY) (.bool (!PR)) from rfl]
  have q := Kn.four_co (unhide O2)
  have BF := unhide B2
  clear O2 B2 c0 c1 c2 c3 z0 z1 z2 z3
  generalize Kn.put4 V7 w.heap.size (.int .i64 0) (.int .i64 PX) (.int .i64 PY) (.bool (!PR)) = WW at *
  obtain ⟨q0, q1, q2, q3⟩ := q
  refine bodyPost_ret (v := .agg #[.int .i64 0, .int .i64 PX, .int .i64 PY, .bool (!PR)]) (by simp [results, Try.results22, go_sem, q0, q1, q2, q3]; try rfl) rfl ?_
  exact ⟨rfl, BF⟩
set_option maxRecDepth 100000 in
set_option maxHeartbeats 4000000 in
theorem l11Node_12a (bk len i : Nat) (c : Co) (vg vn vc : Nat) (A B C : Kn) (w : World) (ho : c.op = 12) (hi : i < len) (hl : len ≤ 900)
    (g0 : w.cell? ⟨bk, i * 6, none⟩ = some (.int .i64 c.op)) (g1 : w.cell? ⟨bk, i * 6 + 1, none⟩ = some (.int .i64 c.a)) (g2 : w.cell? ⟨bk, i * 6 + 2, none⟩ = some (.int .i64 c.b)) (g3 : w.cell? ⟨bk, i * 6 + 3, none⟩ = some (.int .i64 c.c)) (g4 : w.cell? ⟨bk, i * 6 + 4, none⟩ = some (.int .i64 c.num)) (g5 : w.cell? ⟨bk, i * 6 + 5, none⟩ = some (.slice (some ⟨vg, 0, none⟩) vn vc)) (hbk : bk < w.heap.size) (HA : ∀ V, Below w.heap.size w V → Calls Try.prog 22 #[.slice (some ⟨bk, 0, none⟩) len len, .int .i64 c.a] V fun e w' => e = .returned (Kn.ans A) ∧ Below V.heap.size V w') (hA : Kn.Fit A) (HB : ∀ V, Below w.heap.size w V → Calls Try.prog 22 #[.slice (some ⟨bk, 0, none⟩) len len, .int .i64 c.b] V fun e w' => e = .returned (Kn.ans B) ∧ Below V.heap.size V w') (hB : Kn.Fit B) (HC : ∀ V, Below w.heap.size w V → Calls Try.prog 22 #[.slice (some ⟨bk, 0, none⟩) len len, .int .i64 c.c] V fun e w' => e = .returned (Kn.ans C) ∧ Below V.heap.size V w') (hC : Kn.Fit C) (hz : B.fa = true) :
    Calls Try.prog 22 #[.slice (some ⟨bk, 0, none⟩) len len, .int .i64 (i : Int)] w fun e w' => e = .returned (Kn.ans (Kn.node c [A, B, C])) ∧ Below w.heap.size w w' := by
  have FIN := hide (Kn.ans_eq ((Kn.node_12 (c := c) (A := A) (B := B) (C := C) ho).trans (show _ = (Kn.cp (A.lo * Kn.lt B.lo C.lo), Kn.cp (A.hi * Kn.gt B.hi C.hi), A.fa || true) by rw [hz]; rfl)))
  rw [unhide FIN]
  have HMI := hide (fun V => l1Min_kn B.lo C.lo V)
  have HMA := hide (fun V => l1Max_kn B.hi C.hi V)
  have HT := hide (fun V => l11Times_any A.lo A.hi (Kn.lt B.lo C.lo) (Kn.gt B.hi C.hi) A.fa true V ⟨hA.l0, hA.l1⟩ ⟨hA.h0, hA.h1⟩ (Kn.either_fit (b := (B.lo, B.hi)) ⟨⟨hB.l0, hB.l1⟩, ⟨hB.h0, hB.h1⟩⟩ hC).1 (Kn.either_fit (b := (B.lo, B.hi)) ⟨⟨hB.l0, hB.l1⟩, ⟨hB.h0, hB.h1⟩⟩ hC).2)
  generalize Kn.cp (A.lo * Kn.lt B.lo C.lo) = PX at *
  generalize Kn.cp (A.hi * Kn.gt B.hi C.hi) = PY at *
  generalize Kn.lt B.lo C.lo = ML at *
  generalize Kn.gt B.hi C.hi = MH at *
  generalize (A.fa || true) = PF at *
  have HZ := hide hz
  clear hz
  have FAA := hA
  unfold Kn.ans at HA
  have HHA := hide HA
  clear HA
  have FAB := hB
  unfold Kn.ans at HB
  have HHB := hide HB
  clear HB
  have FAC := hC
  unfold Kn.ans at HC
  have HHC := hide HC
  clear HC
  rw [ho] at g0
  have hiI : (i : Int) < (len : Int) := by omega
  have hi0 : (0 : Int) ≤ (i : Int) := by omega
  have HK := hide (fun V => l6Kids_12 V)
  have HL := hide (Kn.Led.first w [.int .i64 12, .int .i64 c.a, .int .i64 c.b, .int .i64 c.c, .int .i64 c.num, .slice (some ⟨vg, 0, none⟩) vn vc] rfl)
  generalize c.a = ca at *
  generalize c.b = cb at *
  generalize c.c = cc at *
  generalize c.num = cm at *
  obtain ⟨W, hW⟩ : ∃ W, W = ((((w.alloc (.cells #[.int .i64 0, .int .i64 0, .int .i64 0, .bool false] 25)).alloc (.cells #[.int .i64 12, .int .i64 ca, .int .i64 cb, .int .i64 cc, .int .i64 cm, .slice (some ⟨vg, 0, none⟩) vn vc] 48)).alloc (.cells #[.int .i64 0, .int .i64 1, .int .i64 1, .bool false] 25)).alloc (.cells #[.int .i64 0, .int .i64 0, .int .i64 0, .bool false] 25)).alloc (.cells #[.int .i64 0, .int .i64 0, .int .i64 0, .bool false] 25) := ⟨_, rfl⟩
  have L0 : Kn.Led w W [.int .i64 12, .int .i64 ca, .int .i64 cb, .int .i64 cc, .int .i64 cm, .slice (some ⟨vg, 0, none⟩) vn vc] [.int .i64 0, .int .i64 1, .int .i64 1, .bool false] [.int .i64 0, .int .i64 0, .int .i64 0, .bool false] [.int .i64 0, .int .i64 0, .int .i64 0, .bool false] := by rw [hW]; exact unhide HL
  clear HL
  go_enter Try.func22, Try.ntmps22
  go_wp2_with fail
  refine ((unhide HK) _).mono ?_
  rintro e wk ⟨rfl, hwk⟩
  subst wk
  go_upto_region 6 with fail
  try simp only [Nat.add_assoc, Nat.reduceAdd]
  rw [← hW]
  clear hW HK g0 g1 g2 g3 g4 g5
  obtain ⟨n0, n1, n2, n3, n4, n5⟩ := Kn.six_co L0.n
  go_wp2_with fail
  refine ((unhide HHA) _ L0.be).mono ?_
  rintro e w1 ⟨rfl, hb1⟩
  have M1 := L0.call hb1
  clear hb1 L0 n0 n1 n2 n3 n4 n5
  obtain ⟨c0, c1, c2, c3⟩ := Kn.four_co M1.a
  obtain ⟨z0, z1, z2, z3⟩ := Kn.four_fr M1.a
  have L1' := M1.setA (.int .i64 0) (.int .i64 A.lo) (.int .i64 A.hi) (.bool A.fa)
  obtain ⟨n0, n1, n2, n3, n4, n5⟩ := Kn.six_co M1.n
  go_upto_region 8 with fail
  rw [show (((w1.setCell ⟨w.heap.size + 3, 0, none⟩ (.int .i64 0)).setCell ⟨w.heap.size + 3, 1, none⟩ (.int .i64 A.lo)).setCell ⟨w.heap.size + 3, 2, none⟩ (.int .i64 A.hi)).setCell ⟨w.heap.size + 3, 3, none⟩ (.bool A.fa) = Kn.put4 w1 (w.heap.size + 3) (.int .i64 0) (.int .i64 A.lo) (.int .i64 A.hi) (.bool A.fa) from rfl]
  clear c0 c1 c2 c3 z0 z1 z2 z3 n0 n1 n2 n3 n4 n5 M1
  have L1 := L1'
  clear L1'
  generalize Kn.put4 w1 (w.heap.size + 3) (.int .i64 0) (.int .i64 A.lo) (.int .i64 A.hi) (.bool A.fa) = V1 at *
  obtain ⟨n0, n1, n2, n3, n4, n5⟩ := Kn.six_co L1.n
  go_wp2_with fail
  refine ((unhide HHB) _ L1.be).mono ?_
  rintro e w2 ⟨rfl, hb2⟩
  have M2 := L1.call hb2
  clear hb2 L1 n0 n1 n2 n3 n4 n5
  obtain ⟨c0, c1, c2, c3⟩ := Kn.four_co M2.b
  obtain ⟨z0, z1, z2, z3⟩ := Kn.four_fr M2.b
  have L2' := M2.setB (.int .i64 0) (.int .i64 B.lo) (.int .i64 B.hi) (.bool B.fa)
  obtain ⟨n0, n1, n2, n3, n4, n5⟩ := Kn.six_co M2.n
  go_upto_region 10 with fail
  rw [show (((w2.setCell ⟨w.heap.size + 4, 0, none⟩ (.int .i64 0)).setCell ⟨w.heap.size + 4, 1, none⟩ (.int .i64 B.lo)).setCell ⟨w.heap.size + 4, 2, none⟩ (.int .i64 B.hi)).setCell ⟨w.heap.size + 4, 3, none⟩ (.bool B.fa) = Kn.put4 w2 (w.heap.size + 4) (.int .i64 0) (.int .i64 B.lo) (.int .i64 B.hi) (.bool B.fa) from rfl]
  clear c0 c1 c2 c3 z0 z1 z2 z3 n0 n1 n2 n3 n4 n5 M2
  have L2 := L2'
  clear L2'
  generalize Kn.put4 w2 (w.heap.size + 4) (.int .i64 0) (.int .i64 B.lo) (.int .i64 B.hi) (.bool B.fa) = V2 at *
  obtain ⟨al, ah, af, ak⟩ := A
  simp only at *
  obtain ⟨bl, bh, bf, bk_⟩ := B
  simp only at *
  obtain ⟨cl, ch, cf, ck⟩ := C
  simp only at *
  have hz := unhide HZ
  try simp only at hz
  subst hz
  obtain ⟨n0, n1, n2, n3, n4, n5⟩ := Kn.six_co L2.n
  obtain ⟨o0, o1, o2, o3⟩ := Kn.four_co L2.o
  obtain ⟨a0, a1, a2, a3⟩ := Kn.four_co L2.a
  obtain ⟨b0, b1, b2, b3⟩ := Kn.four_co L2.b
  go_wp2_with fail
  refine ((unhide HHC) _ L2.be).mono ?_
  rintro e w3 ⟨rfl, hb3⟩
  have L3 := L2.call hb3
  clear hb3 L2 n0 n1 n2 n3 n4 n5 o0 o1 o2 o3 a0 a1 a2 a3 b0 b1 b2 b3
  go_upto_region 23 with fail
  have O5 : Own (w3.alloc (.cells #[.int .i64 0, .int .i64 cl, .int .i64 ch, .bool cf] 25)) w3.heap.size 25 [.int .i64 0, .int .i64 cl, .int .i64 ch, .bool cf] := ⟨_, heap_alloc_new _ _, rfl⟩
  have L6 := L3.call ((Below.refl _ _).alloc (Nat.le_refl _) (.cells #[.int .i64 0, .int .i64 cl, .int .i64 ch, .bool cf] 25))
  have hsz : w.heap.size ≤ w3.heap.size ∧ w.heap.size ≠ w3.heap.size ∧ w.heap.size + 1 ≠ w3.heap.size ∧ w.heap.size + 2 ≠ w3.heap.size ∧ w.heap.size + 3 ≠ w3.heap.size ∧ w.heap.size + 4 ≠ w3.heap.size := by
    have := L3.b.lt
    omega
  clear L3
  have HB5 := hide hsz.1
  have HN0 := hide hsz.2.1
  have HN1 := hide hsz.2.2.1
  have HN2 := hide hsz.2.2.2.1
  have HN3 := hide hsz.2.2.2.2.1
  have HN4 := hide hsz.2.2.2.2.2
  clear hsz
  generalize hV6 : w3.alloc (.cells #[.int .i64 0, .int .i64 cl, .int .i64 ch, .bool cf] 25) = V6 at *
  clear hV6
  generalize w3.heap.size = b5 at *
  refine Z.region 19 (fun w' => Below V6.heap.size V6 w') (by kernel_rfl) (Below.refl _ _).drew (fun hHeld => ?_)
  refine Z.take (i := 0) (d := 81) (v := .agg #[.int .i64 0, .int .i64 al, .int .i64 ah, .bool af]) rfl rfl (by kernel_rfl) (by kernel_rfl) (by kernel_rfl) (by kernel_rfl) (fun _ _ _ h => h) (Or.inl ⟨by rfl, ?_⟩) hHeld ?_
  · intro w' hSw; obtain ⟨s0, s1, s2, s3⟩ := Kn.four_co (L6.a.below hSw L6.a.lt); obtain ⟨r0, r1, r2, r3⟩ := Kn.four_co (L6.b.below hSw L6.b.lt); obtain ⟨t0, t1, t2, t3⟩ := Kn.four_co (O5.below hSw O5.lt); go_simp
  simp only [Act.put, List.setIfInBounds_toArray, List.set_cons_zero, List.set_cons_succ]
  refine Z.take (i := 1) (d := 82) (v := .pointer (some ⟨w.heap.size + 4, 1, none⟩)) rfl rfl (by kernel_rfl) (by kernel_rfl) (by kernel_rfl) (by kernel_rfl) (fun _ _ _ h => h) (Or.inl ⟨by rfl, ?_⟩) hHeld ?_
  · intro w' hSw; obtain ⟨s0, s1, s2, s3⟩ := Kn.four_co (L6.a.below hSw L6.a.lt); obtain ⟨r0, r1, r2, r3⟩ := Kn.four_co (L6.b.below hSw L6.b.lt); obtain ⟨t0, t1, t2, t3⟩ := Kn.four_co (O5.below hSw O5.lt); go_simp
  simp only [Act.put, List.setIfInBounds_toArray, List.set_cons_zero, List.set_cons_succ]
  refine Z.take (i := 2) (d := 83) (v := .int .i64 bl) rfl rfl (by kernel_rfl) (by kernel_rfl) (by kernel_rfl) (by kernel_rfl) (fun _ _ _ h => h) (Or.inl ⟨by rfl, ?_⟩) hHeld ?_
  · intro w' hSw; obtain ⟨s0, s1, s2, s3⟩ := Kn.four_co (L6.a.below hSw L6.a.lt); obtain ⟨r0, r1, r2, r3⟩ := Kn.four_co (L6.b.below hSw L6.b.lt); obtain ⟨t0, t1, t2, t3⟩ := Kn.four_co (O5.below hSw O5.lt); go_simp
  simp only [Act.put, List.setIfInBounds_toArray, List.set_cons_zero, List.set_cons_succ]
  refine Z.take (i := 3) (d := 84) (v := .pointer (some ⟨b5, 1, none⟩)) rfl rfl (by kernel_rfl) (by kernel_rfl) (by kernel_rfl) (by kernel_rfl) (fun _ _ _ h => h) (Or.inl ⟨by rfl, ?_⟩) hHeld ?_
  · intro w' hSw; obtain ⟨s0, s1, s2, s3⟩ := Kn.four_co (L6.a.below hSw L6.a.lt); obtain ⟨r0, r1, r2, r3⟩ := Kn.four_co (L6.b.below hSw L6.b.lt); obtain ⟨t0, t1, t2, t3⟩ := Kn.four_co (O5.below hSw O5.lt); go_simp
  simp only [Act.put, List.setIfInBounds_toArray, List.set_cons_zero, List.set_cons_succ]
  refine Z.take (i := 4) (d := 85) (v := .int .i64 cl) rfl rfl (by kernel_rfl) (by kernel_rfl) (by kernel_rfl) (by kernel_rfl) (fun _ _ _ h => h) (Or.inl ⟨by rfl, ?_⟩) hHeld ?_
  · intro w' hSw; obtain ⟨s0, s1, s2, s3⟩ := Kn.four_co (L6.a.below hSw L6.a.lt); obtain ⟨r0, r1, r2, r3⟩ := Kn.four_co (L6.b.below hSw L6.b.lt); obtain ⟨t0, t1, t2, t3⟩ := Kn.four_co (O5.below hSw O5.lt); go_simp
  simp only [Act.put, List.setIfInBounds_toArray, List.set_cons_zero, List.set_cons_succ]
  refine Z.take (i := 6) (d := 87) (v := .pointer (some ⟨w.heap.size + 4, 2, none⟩)) rfl rfl (by kernel_rfl) (by kernel_rfl) (by kernel_rfl) (by kernel_rfl) (fun _ _ _ h => h) (Or.inl ⟨by rfl, ?_⟩) hHeld ?_
  · intro w' hSw; obtain ⟨s0, s1, s2, s3⟩ := Kn.four_co (L6.a.below hSw L6.a.lt); obtain ⟨r0, r1, r2, r3⟩ := Kn.four_co (L6.b.below hSw L6.b.lt); obtain ⟨t0, t1, t2, t3⟩ := Kn.four_co (O5.below hSw O5.lt); go_simp
  simp only [Act.put, List.setIfInBounds_toArray, List.set_cons_zero, List.set_cons_succ]
  refine Z.take (i := 7) (d := 88) (v := .int .i64 bh) rfl rfl (by kernel_rfl) (by kernel_rfl) (by kernel_rfl) (by kernel_rfl) (fun _ _ _ h => h) (Or.inl ⟨by rfl, ?_⟩) hHeld ?_
  · intro w' hSw; obtain ⟨s0, s1, s2, s3⟩ := Kn.four_co (L6.a.below hSw L6.a.lt); obtain ⟨r0, r1, r2, r3⟩ := Kn.four_co (L6.b.below hSw L6.b.lt); obtain ⟨t0, t1, t2, t3⟩ := Kn.four_co (O5.below hSw O5.lt); go_simp
  simp only [Act.put, List.setIfInBounds_toArray, List.set_cons_zero, List.set_cons_succ]
  refine Z.take (i := 8) (d := 89) (v := .pointer (some ⟨b5, 2, none⟩)) rfl rfl (by kernel_rfl) (by kernel_rfl) (by kernel_rfl) (by kernel_rfl) (fun _ _ _ h => h) (Or.inl ⟨by rfl, ?_⟩) hHeld ?_
  · intro w' hSw; obtain ⟨s0, s1, s2, s3⟩ := Kn.four_co (L6.a.below hSw L6.a.lt); obtain ⟨r0, r1, r2, r3⟩ := Kn.four_co (L6.b.below hSw L6.b.lt); obtain ⟨t0, t1, t2, t3⟩ := Kn.four_co (O5.below hSw O5.lt); go_simp
  simp only [Act.put, List.setIfInBounds_toArray, List.set_cons_zero, List.set_cons_succ]
  refine Z.take (i := 9) (d := 90) (v := .int .i64 ch) rfl rfl (by kernel_rfl) (by kernel_rfl) (by kernel_rfl) (by kernel_rfl) (fun _ _ _ h => h) (Or.inl ⟨by rfl, ?_⟩) hHeld ?_
  · intro w' hSw; obtain ⟨s0, s1, s2, s3⟩ := Kn.four_co (L6.a.below hSw L6.a.lt); obtain ⟨r0, r1, r2, r3⟩ := Kn.four_co (L6.b.below hSw L6.b.lt); obtain ⟨t0, t1, t2, t3⟩ := Kn.four_co (O5.below hSw O5.lt); go_simp
  simp only [Act.put, List.setIfInBounds_toArray, List.set_cons_zero, List.set_cons_succ]
  refine Z.take (i := 11) (d := 92) (v := .pointer (some ⟨w.heap.size + 4, 3, none⟩)) rfl rfl (by kernel_rfl) (by kernel_rfl) (by kernel_rfl) (by kernel_rfl) (fun _ _ _ h => h) (Or.inl ⟨by rfl, ?_⟩) hHeld ?_
  · intro w' hSw; obtain ⟨s0, s1, s2, s3⟩ := Kn.four_co (L6.a.below hSw L6.a.lt); obtain ⟨r0, r1, r2, r3⟩ := Kn.four_co (L6.b.below hSw L6.b.lt); obtain ⟨t0, t1, t2, t3⟩ := Kn.four_co (O5.below hSw O5.lt); go_simp
  simp only [Act.put, List.setIfInBounds_toArray, List.set_cons_zero, List.set_cons_succ]
  refine Z.take (i := 12) (d := 93) (v := .bool true) rfl rfl (by kernel_rfl) (by kernel_rfl) (by kernel_rfl) (by kernel_rfl) (fun _ _ _ h => h) (Or.inl ⟨by rfl, ?_⟩) hHeld ?_
  · intro w' hSw; obtain ⟨s0, s1, s2, s3⟩ := Kn.four_co (L6.a.below hSw L6.a.lt); obtain ⟨r0, r1, r2, r3⟩ := Kn.four_co (L6.b.below hSw L6.b.lt); obtain ⟨t0, t1, t2, t3⟩ := Kn.four_co (O5.below hSw O5.lt); go_simp
  simp only [Act.put, List.setIfInBounds_toArray, List.set_cons_zero, List.set_cons_succ]
  refine Z.call1 (i := 5) (d := 86) rfl rfl (by kernel_rfl) (by rfl) (fun K hK => ?_)
  go_simp
  refine ((unhide HMI) _).mono ?_
  rintro e wz ⟨rfl, hwz⟩
  subst wz
  go_simp
  refine hK.out (.int .i64 ML) _ hHeld ?_
  clear hK K
  simp only [Act.put, List.setIfInBounds_toArray, List.set_cons_zero, List.set_cons_succ]
  refine Z.call1 (i := 10) (d := 91) rfl rfl (by kernel_rfl) (by rfl) (fun K hK => ?_)
  go_simp
  refine ((unhide HMA) _).mono ?_
  rintro e wz ⟨rfl, hwz⟩
  subst wz
  go_simp
  refine hK.out (.int .i64 MH) _ hHeld ?_
  clear hK K
  simp only [Act.put, List.setIfInBounds_toArray, List.set_cons_zero, List.set_cons_succ]
  refine Z.take (i := 13) (d := 94) (v := .bool true) rfl rfl (by kernel_rfl) (by kernel_rfl) (by kernel_rfl) (by kernel_rfl) (fun _ _ _ h => h) (Or.inl ⟨by rfl, ?_⟩) hHeld ?_
  · intro w' hSw; obtain ⟨s0, s1, s2, s3⟩ := Kn.four_co (L6.a.below hSw L6.a.lt); obtain ⟨r0, r1, r2, r3⟩ := Kn.four_co (L6.b.below hSw L6.b.lt); obtain ⟨t0, t1, t2, t3⟩ := Kn.four_co (O5.below hSw O5.lt); go_simp
  simp only [Act.put, List.setIfInBounds_toArray, List.set_cons_zero, List.set_cons_succ]
  refine Z.take (i := 14) (d := 95) (v := undef) rfl rfl (by kernel_rfl) (by kernel_rfl) (by kernel_rfl) (by kernel_rfl) (fun _ _ _ h => h) (Or.inr ⟨by rfl, rfl⟩) hHeld ?_
  simp only [Act.put, List.setIfInBounds_toArray, List.set_cons_zero, List.set_cons_succ]
  refine Z.take (i := 15) (d := 96) (v := undef) rfl rfl (by kernel_rfl) (by kernel_rfl) (by kernel_rfl) (by kernel_rfl) (fun _ _ _ h => h) (Or.inr ⟨by rfl, rfl⟩) hHeld ?_
  simp only [Act.put, List.setIfInBounds_toArray, List.set_cons_zero, List.set_cons_succ]
  refine Z.take (i := 16) (d := 97) (v := .bool true) rfl rfl (by kernel_rfl) (by kernel_rfl) (by kernel_rfl) (by kernel_rfl) (fun _ _ _ h => h) (Or.inl ⟨by rfl, ?_⟩) hHeld ?_
  · intro w' hSw; obtain ⟨s0, s1, s2, s3⟩ := Kn.four_co (L6.a.below hSw L6.a.lt); obtain ⟨r0, r1, r2, r3⟩ := Kn.four_co (L6.b.below hSw L6.b.lt); obtain ⟨t0, t1, t2, t3⟩ := Kn.four_co (O5.below hSw O5.lt); go_simp
  simp only [Act.put, List.setIfInBounds_toArray, List.set_cons_zero, List.set_cons_succ]
  refine Z.take (i := 17) (d := 98) (v := .agg #[.int .i64 0, .int .i64 ML, .int .i64 MH, .bool true]) rfl rfl (by kernel_rfl) (by kernel_rfl) (by kernel_rfl) (by kernel_rfl) (fun _ _ _ h => h) (Or.inl ⟨by rfl, ?_⟩) hHeld ?_
  · intro w' hSw; go_simp
  simp only [Act.put, List.setIfInBounds_toArray, List.set_cons_zero, List.set_cons_succ]
  refine Z.call1 (i := 18) (d := 99) rfl rfl (by kernel_rfl) (by rfl) (fun K hK => ?_)
  go_simp
  refine ((unhide HT) _).mono ?_
  rintro e w7 ⟨rfl, hb7⟩
  have hb7' : Below V6.heap.size V6 w7 := ((Below.refl _ _).drew).trans (hb7.mono (Nat.le_refl _))
  have L8 := L6.call hb7'
  go_simp
  refine hK.out (.agg #[.int .i64 0, .int .i64 PX, .int .i64 PY, .bool PF]) _ hb7' ?_
  clear hK K hb7 hb7' L6 O5
  simp only [Act.put, List.setIfInBounds_toArray, List.set_cons_zero, List.set_cons_succ]
  obtain ⟨c0, c1, c2, c3⟩ := Kn.four_co L8.r
  obtain ⟨z0, z1, z2, z3⟩ := Kn.four_fr L8.r
  have O2 := hide (Kn.put4_own L8.r (.int .i64 0) (.int .i64 PX) (.int .i64 PY) (.bool PF))
  have B2 := hide (Kn.put4_below L8.be (Nat.le_refl _) (.int .i64 0) (.int .i64 PX) (.int .i64 PY) (.bool PF))
  clear L8
  refine Z.last_at (w' := Kn.put4 w7 w.heap.size (.int .i64 0) (.int .i64 PX) (.int .i64 PY) (.bool PF)) rfl (by kernel_rfl) (by rfl) (fun K hK => ?_) ?_
  · unfold Kn.put4 at hK
    go_simp
    exact hK.out
  refine Z.done (by kernel_rfl) ?_ _
  have q := Kn.four_co (unhide O2)
  have BF := unhide B2
  clear O2 B2 c0 c1 c2 c3 z0 z1 z2 z3
  generalize Kn.put4 w7 w.heap.size (.int .i64 0) (.int .i64 PX) (.int .i64 PY) (.bool PF) = WW at *
  obtain ⟨q0, q1, q2, q3⟩ := q
  go_wp2_with fail
  refine bodyPost_ret (v := .agg #[.int .i64 0, .int .i64 PX, .int .i64 PY, .bool PF]) (by simp [results, Try.results22, go_sem, q0, q1, q2, q3]; try rfl) rfl ?_
  exact ⟨rfl, BF⟩
set_option maxRecDepth 100000 in
set_option maxHeartbeats 4000000 in
theorem l11Node_12b (bk len i : Nat) (c : Co) (vg vn vc : Nat) (A B C : Kn) (w : World) (ho : c.op = 12) (hi : i < len) (hl : len ≤ 900)
    (g0 : w.cell? ⟨bk, i * 6, none⟩ = some (.int .i64 c.op)) (g1 : w.cell? ⟨bk, i * 6 + 1, none⟩ = some (.int .i64 c.a)) (g2 : w.cell? ⟨bk, i * 6 + 2, none⟩ = some (.int .i64 c.b)) (g3 : w.cell? ⟨bk, i * 6 + 3, none⟩ = some (.int .i64 c.c)) (g4 : w.cell? ⟨bk, i * 6 + 4, none⟩ = some (.int .i64 c.num)) (g5 : w.cell? ⟨bk, i * 6 + 5, none⟩ = some (.slice (some ⟨vg, 0, none⟩) vn vc)) (hbk : bk < w.heap.size) (HA : ∀ V, Below w.heap.size w V → Calls Try.prog 22 #[.slice (some ⟨bk, 0, none⟩) len len, .int .i64 c.a] V fun e w' => e = .returned (Kn.ans A) ∧ Below V.heap.size V w') (hA : Kn.Fit A) (HB : ∀ V, Below w.heap.size w V → Calls Try.prog 22 #[.slice (some ⟨bk, 0, none⟩) len len, .int .i64 c.b] V fun e w' => e = .returned (Kn.ans B) ∧ Below V.heap.size V w') (hB : Kn.Fit B) (HC : ∀ V, Below w.heap.size w V → Calls Try.prog 22 #[.slice (some ⟨bk, 0, none⟩) len len, .int .i64 c.c] V fun e w' => e = .returned (Kn.ans C) ∧ Below V.heap.size V w') (hC : Kn.Fit C) (hz : B.fa = false) :
    Calls Try.prog 22 #[.slice (some ⟨bk, 0, none⟩) len len, .int .i64 (i : Int)] w fun e w' => e = .returned (Kn.ans (Kn.node c [A, B, C])) ∧ Below w.heap.size w w' := by
  have FIN := hide (Kn.ans_eq ((Kn.node_12 (c := c) (A := A) (B := B) (C := C) ho).trans (show _ = (Kn.cp (A.lo * Kn.lt B.lo C.lo), Kn.cp (A.hi * Kn.gt B.hi C.hi), A.fa || C.fa) by rw [hz]; rfl)))
  rw [unhide FIN]
  have HMI := hide (fun V => l1Min_kn B.lo C.lo V)
  have HMA := hide (fun V => l1Max_kn B.hi C.hi V)
  have HT := hide (fun V => l11Times_any A.lo A.hi (Kn.lt B.lo C.lo) (Kn.gt B.hi C.hi) A.fa C.fa V ⟨hA.l0, hA.l1⟩ ⟨hA.h0, hA.h1⟩ (Kn.either_fit (b := (B.lo, B.hi)) ⟨⟨hB.l0, hB.l1⟩, ⟨hB.h0, hB.h1⟩⟩ hC).1 (Kn.either_fit (b := (B.lo, B.hi)) ⟨⟨hB.l0, hB.l1⟩, ⟨hB.h0, hB.h1⟩⟩ hC).2)
  generalize Kn.cp (A.lo * Kn.lt B.lo C.lo) = PX at *
  generalize Kn.cp (A.hi * Kn.gt B.hi C.hi) = PY at *
  generalize Kn.lt B.lo C.lo = ML at *
  generalize Kn.gt B.hi C.hi = MH at *
  generalize (A.fa || C.fa) = PF at *
  have HZ := hide hz
  clear hz
  have FAA := hA
  unfold Kn.ans at HA
  have HHA := hide HA
  clear HA
  have FAB := hB
  unfold Kn.ans at HB
  have HHB := hide HB
  clear HB
  have FAC := hC
  unfold Kn.ans at HC
  have HHC := hide HC
  clear HC
  rw [ho] at g0
  have hiI : (i : Int) < (len : Int) := by omega
  have hi0 : (0 : Int) ≤ (i : Int) := by omega
  have HK := hide (fun V => l6Kids_12 V)
  have HL := hide (Kn.Led.first w [.int .i64 12, .int .i64 c.a, .int .i64 c.b, .int .i64 c.c, .int .i64 c.num, .slice (some ⟨vg, 0, none⟩) vn vc] rfl)
  generalize c.a = ca at *
  generalize c.b = cb at *
  generalize c.c = cc at *
  generalize c.num = cm at *
  obtain ⟨W, hW⟩ : ∃ W, W = ((((w.alloc (.cells #[.int .i64 0, .int .i64 0, .int .i64 0, .bool false] 25)).alloc (.cells #[.int .i64 12, .int .i64 ca, .int .i64 cb, .int .i64 cc, .int .i64 cm, .slice (some ⟨vg, 0, none⟩) vn vc] 48)).alloc (.cells #[.int .i64 0, .int .i64 1, .int .i64 1, .bool false] 25)).alloc (.cells #[.int .i64 0, .int .i64 0, .int .i64 0, .bool false] 25)).alloc (.cells #[.int .i64 0, .int .i64 0, .int .i64 0, .bool false] 25) := ⟨_, rfl⟩
  have L0 : Kn.Led w W [.int .i64 12, .int .i64 ca, .int .i64 cb, .int .i64 cc, .int .i64 cm, .slice (some ⟨vg, 0, none⟩) vn vc] [.int .i64 0, .int .i64 1, .int .i64 1, .bool false] [.int .i64 0, .int .i64 0, .int .i64 0, .bool false] [.int .i64 0, .int .i64 0, .int .i64 0, .bool false] := by rw [hW]; exact unhide HL
  clear HL
  go_enter Try.func22, Try.ntmps22
  go_wp2_with fail
  refine ((unhide HK) _).mono ?_
  rintro e wk ⟨rfl, hwk⟩
  subst wk
  go_upto_region 6 with fail
  try simp only [Nat.add_assoc, Nat.reduceAdd]
  rw [← hW]
  clear hW HK g0 g1 g2 g3 g4 g5
  obtain ⟨n0, n1, n2, n3, n4, n5⟩ := Kn.six_co L0.n
  go_wp2_with fail
  refine ((unhide HHA) _ L0.be).mono ?_
  rintro e w1 ⟨rfl, hb1⟩
  have M1 := L0.call hb1
  clear hb1 L0 n0 n1 n2 n3 n4 n5
  obtain ⟨c0, c1, c2, c3⟩ := Kn.four_co M1.a
  obtain ⟨z0, z1, z2, z3⟩ := Kn.four_fr M1.a
  have L1' := M1.setA (.int .i64 0) (.int .i64 A.lo) (.int .i64 A.hi) (.bool A.fa)
  obtain ⟨n0, n1, n2, n3, n4, n5⟩ := Kn.six_co M1.n
  go_upto_region 8 with fail
  rw [show (((w1.setCell ⟨w.heap.size + 3, 0, none⟩ (.int .i64 0)).setCell ⟨w.heap.size + 3, 1, none⟩ (.int .i64 A.lo)).setCell ⟨w.heap.size + 3, 2, none⟩ (.int .i64 A.hi)).setCell ⟨w.heap.size + 3, 3, none⟩ (.bool A.fa) = Kn.put4 w1 (w.heap.size + 3) (.int .i64 0) (.int .i64 A.lo) (.int .i64 A.hi) (.bool A.fa) from rfl]
  clear c0 c1 c2 c3 z0 z1 z2 z3 n0 n1 n2 n3 n4 n5 M1
  have L1 := L1'
  clear L1'
  generalize Kn.put4 w1 (w.heap.size + 3) (.int .i64 0) (.int .i64 A.lo) (.int .i64 A.hi) (.bool A.fa) = V1 at *
  obtain ⟨n0, n1, n2, n3, n4, n5⟩ := Kn.six_co L1.n
  go_wp2_with fail
  refine ((unhide HHB) _ L1.be).mono ?_
  rintro e w2 ⟨rfl, hb2⟩
  have M2 := L1.call hb2
  clear hb2 L1 n0 n1 n2 n3 n4 n5
  obtain ⟨c0, c1, c2, c3⟩ := Kn.four_co M2.b
  obtain ⟨z0, z1, z2, z3⟩ := Kn.four_fr M2.b
  have L2' := M2.setB (.int .i64 0) (.int .i64 B.lo) (.int .i64 B.hi) (.bool B.fa)
  obtain ⟨n0, n1, n2, n3, n4, n5⟩ := Kn.six_co M2.n
  go_upto_region 10 with fail
  rw [show (((w2.setCell ⟨w.heap.size + 4, 0, none⟩ (.int .i64 0)).setCell ⟨w.heap.size + 4, 1, none⟩ (.int .i64 B.lo)).setCell ⟨w.heap.size + 4, 2, none⟩ (.int .i64 B.hi)).setCell ⟨w.heap.size + 4, 3, none⟩ (.bool B.fa) = Kn.put4 w2 (w.heap.size + 4) (.int .i64 0) (.int .i64 B.lo) (.int .i64 B.hi) (.bool B.fa) from rfl]
  clear c0 c1 c2 c3 z0 z1 z2 z3 n0 n1 n2 n3 n4 n5 M2
  have L2 := L2'
  clear L2'
  generalize Kn.put4 w2 (w.heap.size + 4) (.int .i64 0) (.int .i64 B.lo) (.int .i64 B.hi) (.bool B.fa) = V2 at *
  obtain ⟨al, ah, af, ak⟩ := A
  simp only at *
  obtain ⟨bl, bh, bf, bk_⟩ := B
  simp only at *
  obtain ⟨cl, ch, cf, ck⟩ := C
  simp only at *
  have hz := unhide HZ
  try simp only at hz
  subst hz
  obtain ⟨n0, n1, n2, n3, n4, n5⟩ := Kn.six_co L2.n
  obtain ⟨o0, o1, o2, o3⟩ := Kn.four_co L2.o
  obtain ⟨a0, a1, a2, a3⟩ := Kn.four_co L2.a
  obtain ⟨b0, b1, b2, b3⟩ := Kn.four_co L2.b
  go_wp2_with fail
  refine ((unhide HHC) _ L2.be).mono ?_
  rintro e w3 ⟨rfl, hb3⟩
  have L3 := L2.call hb3
  clear hb3 L2 n0 n1 n2 n3 n4 n5 o0 o1 o2 o3 a0 a1 a2 a3 b0 b1 b2 b3
  go_upto_region 23 with fail
  have O5 : Own (w3.alloc (.cells #[.int .i64 0, .int .i64 cl, .int .i64 ch, .bool cf] 25)) w3.heap.size 25 [.int .i64 0, .int .i64 cl, .int .i64 ch, .bool cf] := ⟨_, heap_alloc_new _ _, rfl⟩
  have L6 := L3.call ((Below.refl _ _).alloc (Nat.le_refl _) (.cells #[.int .i64 0, .int .i64 cl, .int .i64 ch, .bool cf] 25))
  have hsz : w.heap.size ≤ w3.heap.size ∧ w.heap.size ≠ w3.heap.size ∧ w.heap.size + 1 ≠ w3.heap.size ∧ w.heap.size + 2 ≠ w3.heap.size ∧ w.heap.size + 3 ≠ w3.heap.size ∧ w.heap.size + 4 ≠ w3.heap.size := by
    have := L3.b.lt
    omega
  clear L3
  have HB5 := hide hsz.1
  have HN0 := hide hsz.2.1
  have HN1 := hide hsz.2.2.1
  have HN2 := hide hsz.2.2.2.1
  have HN3 := hide hsz.2.2.2.2.1
  have HN4 := hide hsz.2.2.2.2.2
  clear hsz
  generalize hV6 : w3.alloc (.cells #[.int .i64 0, .int .i64 cl, .int .i64 ch, .bool cf] 25) = V6 at *
  clear hV6
  generalize w3.heap.size = b5 at *
  refine Z.region 19 (fun w' => Below V6.heap.size V6 w') (by kernel_rfl) (Below.refl _ _).drew (fun hHeld => ?_)
  refine Z.take (i := 0) (d := 81) (v := .agg #[.int .i64 0, .int .i64 al, .int .i64 ah, .bool af]) rfl rfl (by kernel_rfl) (by kernel_rfl) (by kernel_rfl) (by kernel_rfl) (fun _ _ _ h => h) (Or.inl ⟨by rfl, ?_⟩) hHeld ?_
  · intro w' hSw; obtain ⟨s0, s1, s2, s3⟩ := Kn.four_co (L6.a.below hSw L6.a.lt); obtain ⟨r0, r1, r2, r3⟩ := Kn.four_co (L6.b.below hSw L6.b.lt); obtain ⟨t0, t1, t2, t3⟩ := Kn.four_co (O5.below hSw O5.lt); go_simp
  simp only [Act.put, List.setIfInBounds_toArray, List.set_cons_zero, List.set_cons_succ]
  refine Z.take (i := 1) (d := 82) (v := .pointer (some ⟨w.heap.size + 4, 1, none⟩)) rfl rfl (by kernel_rfl) (by kernel_rfl) (by kernel_rfl) (by kernel_rfl) (fun _ _ _ h => h) (Or.inl ⟨by rfl, ?_⟩) hHeld ?_
  · intro w' hSw; obtain ⟨s0, s1, s2, s3⟩ := Kn.four_co (L6.a.below hSw L6.a.lt); obtain ⟨r0, r1, r2, r3⟩ := Kn.four_co (L6.b.below hSw L6.b.lt); obtain ⟨t0, t1, t2, t3⟩ := Kn.four_co (O5.below hSw O5.lt); go_simp
  simp only [Act.put, List.setIfInBounds_toArray, List.set_cons_zero, List.set_cons_succ]
  refine Z.take (i := 2) (d := 83) (v := .int .i64 bl) rfl rfl (by kernel_rfl) (by kernel_rfl) (by kernel_rfl) (by kernel_rfl) (fun _ _ _ h => h) (Or.inl ⟨by rfl, ?_⟩) hHeld ?_
  · intro w' hSw; obtain ⟨s0, s1, s2, s3⟩ := Kn.four_co (L6.a.below hSw L6.a.lt); obtain ⟨r0, r1, r2, r3⟩ := Kn.four_co (L6.b.below hSw L6.b.lt); obtain ⟨t0, t1, t2, t3⟩ := Kn.four_co (O5.below hSw O5.lt); go_simp
  simp only [Act.put, List.setIfInBounds_toArray, List.set_cons_zero, List.set_cons_succ]
  refine Z.take (i := 3) (d := 84) (v := .pointer (some ⟨b5, 1, none⟩)) rfl rfl (by kernel_rfl) (by kernel_rfl) (by kernel_rfl) (by kernel_rfl) (fun _ _ _ h => h) (Or.inl ⟨by rfl, ?_⟩) hHeld ?_
  · intro w' hSw; obtain ⟨s0, s1, s2, s3⟩ := Kn.four_co (L6.a.below hSw L6.a.lt); obtain ⟨r0, r1, r2, r3⟩ := Kn.four_co (L6.b.below hSw L6.b.lt); obtain ⟨t0, t1, t2, t3⟩ := Kn.four_co (O5.below hSw O5.lt); go_simp
  simp only [Act.put, List.setIfInBounds_toArray, List.set_cons_zero, List.set_cons_succ]
  refine Z.take (i := 4) (d := 85) (v := .int .i64 cl) rfl rfl (by kernel_rfl) (by kernel_rfl) (by kernel_rfl) (by kernel_rfl) (fun _ _ _ h => h) (Or.inl ⟨by rfl, ?_⟩) hHeld ?_
  · intro w' hSw; obtain ⟨s0, s1, s2, s3⟩ := Kn.four_co (L6.a.below hSw L6.a.lt); obtain ⟨r0, r1, r2, r3⟩ := Kn.four_co (L6.b.below hSw L6.b.lt); obtain ⟨t0, t1, t2, t3⟩ := Kn.four_co (O5.below hSw O5.lt); go_simp
  simp only [Act.put, List.setIfInBounds_toArray, List.set_cons_zero, List.set_cons_succ]
  refine Z.take (i := 6) (d := 87) (v := .pointer (some ⟨w.heap.size + 4, 2, none⟩)) rfl rfl (by kernel_rfl) (by kernel_rfl) (by kernel_rfl) (by kernel_rfl) (fun _ _ _ h => h) (Or.inl ⟨by rfl, ?_⟩) hHeld ?_
  · intro w' hSw; obtain ⟨s0, s1, s2, s3⟩ := Kn.four_co (L6.a.below hSw L6.a.lt); obtain ⟨r0, r1, r2, r3⟩ := Kn.four_co (L6.b.below hSw L6.b.lt); obtain ⟨t0, t1, t2, t3⟩ := Kn.four_co (O5.below hSw O5.lt); go_simp
  simp only [Act.put, List.setIfInBounds_toArray, List.set_cons_zero, List.set_cons_succ]
  refine Z.take (i := 7) (d := 88) (v := .int .i64 bh) rfl rfl (by kernel_rfl) (by kernel_rfl) (by kernel_rfl) (by kernel_rfl) (fun _ _ _ h => h) (Or.inl ⟨by rfl, ?_⟩) hHeld ?_
  · intro w' hSw; obtain ⟨s0, s1, s2, s3⟩ := Kn.four_co (L6.a.below hSw L6.a.lt); obtain ⟨r0, r1, r2, r3⟩ := Kn.four_co (L6.b.below hSw L6.b.lt); obtain ⟨t0, t1, t2, t3⟩ := Kn.four_co (O5.below hSw O5.lt); go_simp
  simp only [Act.put, List.setIfInBounds_toArray, List.set_cons_zero, List.set_cons_succ]
  refine Z.take (i := 8) (d := 89) (v := .pointer (some ⟨b5, 2, none⟩)) rfl rfl (by kernel_rfl) (by kernel_rfl) (by kernel_rfl) (by kernel_rfl) (fun _ _ _ h => h) (Or.inl ⟨by rfl, ?_⟩) hHeld ?_
  · intro w' hSw; obtain ⟨s0, s1, s2, s3⟩ := Kn.four_co (L6.a.below hSw L6.a.lt); obtain ⟨r0, r1, r2, r3⟩ := Kn.four_co (L6.b.below hSw L6.b.lt); obtain ⟨t0, t1, t2, t3⟩ := Kn.four_co (O5.below hSw O5.lt); go_simp
  simp only [Act.put, List.setIfInBounds_toArray, List.set_cons_zero, List.set_cons_succ]
  refine Z.take (i := 9) (d := 90) (v := .int .i64 ch) rfl rfl (by kernel_rfl) (by kernel_rfl) (by kernel_rfl) (by kernel_rfl) (fun _ _ _ h => h) (Or.inl ⟨by rfl, ?_⟩) hHeld ?_
  · intro w' hSw; obtain ⟨s0, s1, s2, s3⟩ := Kn.four_co (L6.a.below hSw L6.a.lt); obtain ⟨r0, r1, r2, r3⟩ := Kn.four_co (L6.b.below hSw L6.b.lt); obtain ⟨t0, t1, t2, t3⟩ := Kn.four_co (O5.below hSw O5.lt); go_simp
  simp only [Act.put, List.setIfInBounds_toArray, List.set_cons_zero, List.set_cons_succ]
  refine Z.take (i := 11) (d := 92) (v := .pointer (some ⟨w.heap.size + 4, 3, none⟩)) rfl rfl (by kernel_rfl) (by kernel_rfl) (by kernel_rfl) (by kernel_rfl) (fun _ _ _ h => h) (Or.inl ⟨by rfl, ?_⟩) hHeld ?_
  · intro w' hSw; obtain ⟨s0, s1, s2, s3⟩ := Kn.four_co (L6.a.below hSw L6.a.lt); obtain ⟨r0, r1, r2, r3⟩ := Kn.four_co (L6.b.below hSw L6.b.lt); obtain ⟨t0, t1, t2, t3⟩ := Kn.four_co (O5.below hSw O5.lt); go_simp
  simp only [Act.put, List.setIfInBounds_toArray, List.set_cons_zero, List.set_cons_succ]
  refine Z.take (i := 12) (d := 93) (v := .bool false) rfl rfl (by kernel_rfl) (by kernel_rfl) (by kernel_rfl) (by kernel_rfl) (fun _ _ _ h => h) (Or.inl ⟨by rfl, ?_⟩) hHeld ?_
  · intro w' hSw; obtain ⟨s0, s1, s2, s3⟩ := Kn.four_co (L6.a.below hSw L6.a.lt); obtain ⟨r0, r1, r2, r3⟩ := Kn.four_co (L6.b.below hSw L6.b.lt); obtain ⟨t0, t1, t2, t3⟩ := Kn.four_co (O5.below hSw O5.lt); go_simp
  simp only [Act.put, List.setIfInBounds_toArray, List.set_cons_zero, List.set_cons_succ]
  refine Z.call1 (i := 5) (d := 86) rfl rfl (by kernel_rfl) (by rfl) (fun K hK => ?_)
  go_simp
  refine ((unhide HMI) _).mono ?_
  rintro e wz ⟨rfl, hwz⟩
  subst wz
  go_simp
  refine hK.out (.int .i64 ML) _ hHeld ?_
  clear hK K
  simp only [Act.put, List.setIfInBounds_toArray, List.set_cons_zero, List.set_cons_succ]
  refine Z.call1 (i := 10) (d := 91) rfl rfl (by kernel_rfl) (by rfl) (fun K hK => ?_)
  go_simp
  refine ((unhide HMA) _).mono ?_
  rintro e wz ⟨rfl, hwz⟩
  subst wz
  go_simp
  refine hK.out (.int .i64 MH) _ hHeld ?_
  clear hK K
  simp only [Act.put, List.setIfInBounds_toArray, List.set_cons_zero, List.set_cons_succ]
  refine Z.take (i := 13) (d := 94) (v := .bool false) rfl rfl (by kernel_rfl) (by kernel_rfl) (by kernel_rfl) (by kernel_rfl) (fun _ _ _ h => h) (Or.inl ⟨by rfl, ?_⟩) hHeld ?_
  · intro w' hSw; obtain ⟨s0, s1, s2, s3⟩ := Kn.four_co (L6.a.below hSw L6.a.lt); obtain ⟨r0, r1, r2, r3⟩ := Kn.four_co (L6.b.below hSw L6.b.lt); obtain ⟨t0, t1, t2, t3⟩ := Kn.four_co (O5.below hSw O5.lt); go_simp
  simp only [Act.put, List.setIfInBounds_toArray, List.set_cons_zero, List.set_cons_succ]
  refine Z.take (i := 14) (d := 95) (v := .pointer (some ⟨b5, 3, none⟩)) rfl rfl (by kernel_rfl) (by kernel_rfl) (by kernel_rfl) (by kernel_rfl) (fun _ _ _ h => h) (Or.inl ⟨by rfl, ?_⟩) hHeld ?_
  · intro w' hSw; obtain ⟨s0, s1, s2, s3⟩ := Kn.four_co (L6.a.below hSw L6.a.lt); obtain ⟨r0, r1, r2, r3⟩ := Kn.four_co (L6.b.below hSw L6.b.lt); obtain ⟨t0, t1, t2, t3⟩ := Kn.four_co (O5.below hSw O5.lt); go_simp
  simp only [Act.put, List.setIfInBounds_toArray, List.set_cons_zero, List.set_cons_succ]
  refine Z.take (i := 15) (d := 96) (v := .bool cf) rfl rfl (by kernel_rfl) (by kernel_rfl) (by kernel_rfl) (by kernel_rfl) (fun _ _ _ h => h) (Or.inl ⟨by rfl, ?_⟩) hHeld ?_
  · intro w' hSw; obtain ⟨s0, s1, s2, s3⟩ := Kn.four_co (L6.a.below hSw L6.a.lt); obtain ⟨r0, r1, r2, r3⟩ := Kn.four_co (L6.b.below hSw L6.b.lt); obtain ⟨t0, t1, t2, t3⟩ := Kn.four_co (O5.below hSw O5.lt); go_simp
  simp only [Act.put, List.setIfInBounds_toArray, List.set_cons_zero, List.set_cons_succ]
  refine Z.take (i := 16) (d := 97) (v := .bool cf) rfl rfl (by kernel_rfl) (by kernel_rfl) (by kernel_rfl) (by kernel_rfl) (fun _ _ _ h => h) (Or.inl ⟨by rfl, ?_⟩) hHeld ?_
  · intro w' hSw; obtain ⟨s0, s1, s2, s3⟩ := Kn.four_co (L6.a.below hSw L6.a.lt); obtain ⟨r0, r1, r2, r3⟩ := Kn.four_co (L6.b.below hSw L6.b.lt); obtain ⟨t0, t1, t2, t3⟩ := Kn.four_co (O5.below hSw O5.lt); go_simp
  simp only [Act.put, List.setIfInBounds_toArray, List.set_cons_zero, List.set_cons_succ]
  refine Z.take (i := 17) (d := 98) (v := .agg #[.int .i64 0, .int .i64 ML, .int .i64 MH, .bool cf]) rfl rfl (by kernel_rfl) (by kernel_rfl) (by kernel_rfl) (by kernel_rfl) (fun _ _ _ h => h) (Or.inl ⟨by rfl, ?_⟩) hHeld ?_
  · intro w' hSw; go_simp
  simp only [Act.put, List.setIfInBounds_toArray, List.set_cons_zero, List.set_cons_succ]
  refine Z.call1 (i := 18) (d := 99) rfl rfl (by kernel_rfl) (by rfl) (fun K hK => ?_)
  go_simp
  refine ((unhide HT) _).mono ?_
  rintro e w7 ⟨rfl, hb7⟩
  have hb7' : Below V6.heap.size V6 w7 := ((Below.refl _ _).drew).trans (hb7.mono (Nat.le_refl _))
  have L8 := L6.call hb7'
  go_simp
  refine hK.out (.agg #[.int .i64 0, .int .i64 PX, .int .i64 PY, .bool PF]) _ hb7' ?_
  clear hK K hb7 hb7' L6 O5
  simp only [Act.put, List.setIfInBounds_toArray, List.set_cons_zero, List.set_cons_succ]
  obtain ⟨c0, c1, c2, c3⟩ := Kn.four_co L8.r
  obtain ⟨z0, z1, z2, z3⟩ := Kn.four_fr L8.r
  have O2 := hide (Kn.put4_own L8.r (.int .i64 0) (.int .i64 PX) (.int .i64 PY) (.bool PF))
  have B2 := hide (Kn.put4_below L8.be (Nat.le_refl _) (.int .i64 0) (.int .i64 PX) (.int .i64 PY) (.bool PF))
  clear L8
  refine Z.last_at (w' := Kn.put4 w7 w.heap.size (.int .i64 0) (.int .i64 PX) (.int .i64 PY) (.bool PF)) rfl (by kernel_rfl) (by rfl) (fun K hK => ?_) ?_
  · unfold Kn.put4 at hK
    go_simp
    exact hK.out
  refine Z.done (by kernel_rfl) ?_ _
  have q := Kn.four_co (unhide O2)
  have BF := unhide B2
  clear O2 B2 c0 c1 c2 c3 z0 z1 z2 z3
  generalize Kn.put4 w7 w.heap.size (.int .i64 0) (.int .i64 PX) (.int .i64 PY) (.bool PF) = WW at *
  obtain ⟨q0, q1, q2, q3⟩ := q
  go_wp2_with fail
  refine bodyPost_ret (v := .agg #[.int .i64 0, .int .i64 PX, .int .i64 PY, .bool PF]) (by simp [results, Try.results22, go_sem, q0, q1, q2, q3]; try rfl) rfl ?_
  exact ⟨rfl, BF⟩
set_option maxRecDepth 100000 in
set_option maxHeartbeats 4000000 in
theorem l11Node_13a (bk len i : Nat) (c : Co) (vg vn vc : Nat) (A B C : Kn) (w : World) (ho : c.op = 13) (hi : i < len) (hl : len ≤ 900)
    (g0 : w.cell? ⟨bk, i * 6, none⟩ = some (.int .i64 c.op)) (g1 : w.cell? ⟨bk, i * 6 + 1, none⟩ = some (.int .i64 c.a)) (g2 : w.cell? ⟨bk, i * 6 + 2, none⟩ = some (.int .i64 c.b)) (g3 : w.cell? ⟨bk, i * 6 + 3, none⟩ = some (.int .i64 c.c)) (g4 : w.cell? ⟨bk, i * 6 + 4, none⟩ = some (.int .i64 c.num)) (g5 : w.cell? ⟨bk, i * 6 + 5, none⟩ = some (.slice (some ⟨vg, 0, none⟩) vn vc)) (hbk : bk < w.heap.size) (HA : ∀ V, Below w.heap.size w V → Calls Try.prog 22 #[.slice (some ⟨bk, 0, none⟩) len len, .int .i64 c.a] V fun e w' => e = .returned (Kn.ans A) ∧ Below V.heap.size V w') (hA : Kn.Fit A) (HB : ∀ V, Below w.heap.size w V → Calls Try.prog 22 #[.slice (some ⟨bk, 0, none⟩) len len, .int .i64 c.b] V fun e w' => e = .returned (Kn.ans B) ∧ Below V.heap.size V w') (hB : Kn.Fit B) (HC : ∀ V, Below w.heap.size w V → Calls Try.prog 22 #[.slice (some ⟨bk, 0, none⟩) len len, .int .i64 c.c] V fun e w' => e = .returned (Kn.ans C) ∧ Below V.heap.size V w') (hC : Kn.Fit C) (hz : A.fa = true) :
    Calls Try.prog 22 #[.slice (some ⟨bk, 0, none⟩) len len, .int .i64 (i : Int)] w fun e w' => e = .returned (Kn.ans (Kn.node c [A, B, C])) ∧ Below w.heap.size w w' := by
  have FIN := hide (Kn.ans_eq ((Kn.node_13 (c := c) (A := A) (B := B) (C := C) ho).trans (show _ = (B.lo, B.hi, true) by rw [hz]; simp)))
  rw [unhide FIN]
  have HZ := hide hz
  clear hz
  have FAA := hA
  unfold Kn.ans at HA
  have HHA := hide HA
  clear HA
  have FAB := hB
  unfold Kn.ans at HB
  have HHB := hide HB
  clear HB
  have FAC := hC
  unfold Kn.ans at HC
  have HHC := hide HC
  clear HC
  rw [ho] at g0
  have hiI : (i : Int) < (len : Int) := by omega
  have hi0 : (0 : Int) ≤ (i : Int) := by omega
  have HK := hide (fun V => l6Kids_13 V)
  have HL := hide (Kn.Led.first w [.int .i64 13, .int .i64 c.a, .int .i64 c.b, .int .i64 c.c, .int .i64 c.num, .slice (some ⟨vg, 0, none⟩) vn vc] rfl)
  generalize c.a = ca at *
  generalize c.b = cb at *
  generalize c.c = cc at *
  generalize c.num = cm at *
  obtain ⟨W, hW⟩ : ∃ W, W = ((((w.alloc (.cells #[.int .i64 0, .int .i64 0, .int .i64 0, .bool false] 25)).alloc (.cells #[.int .i64 13, .int .i64 ca, .int .i64 cb, .int .i64 cc, .int .i64 cm, .slice (some ⟨vg, 0, none⟩) vn vc] 48)).alloc (.cells #[.int .i64 0, .int .i64 1, .int .i64 1, .bool false] 25)).alloc (.cells #[.int .i64 0, .int .i64 0, .int .i64 0, .bool false] 25)).alloc (.cells #[.int .i64 0, .int .i64 0, .int .i64 0, .bool false] 25) := ⟨_, rfl⟩
  have L0 : Kn.Led w W [.int .i64 13, .int .i64 ca, .int .i64 cb, .int .i64 cc, .int .i64 cm, .slice (some ⟨vg, 0, none⟩) vn vc] [.int .i64 0, .int .i64 1, .int .i64 1, .bool false] [.int .i64 0, .int .i64 0, .int .i64 0, .bool false] [.int .i64 0, .int .i64 0, .int .i64 0, .bool false] := by rw [hW]; exact unhide HL
  clear HL
  go_enter Try.func22, Try.ntmps22
  go_wp2_with fail
  refine ((unhide HK) _).mono ?_
  rintro e wk ⟨rfl, hwk⟩
  subst wk
  go_upto_region 6 with fail
  try simp only [Nat.add_assoc, Nat.reduceAdd]
  rw [← hW]
  clear hW HK g0 g1 g2 g3 g4 g5
  obtain ⟨n0, n1, n2, n3, n4, n5⟩ := Kn.six_co L0.n
  go_wp2_with fail
  refine ((unhide HHA) _ L0.be).mono ?_
  rintro e w1 ⟨rfl, hb1⟩
  have M1 := L0.call hb1
  clear hb1 L0 n0 n1 n2 n3 n4 n5
  obtain ⟨c0, c1, c2, c3⟩ := Kn.four_co M1.a
  obtain ⟨z0, z1, z2, z3⟩ := Kn.four_fr M1.a
  have L1' := M1.setA (.int .i64 0) (.int .i64 A.lo) (.int .i64 A.hi) (.bool A.fa)
  obtain ⟨n0, n1, n2, n3, n4, n5⟩ := Kn.six_co M1.n
  go_upto_region 8 with fail
  rw [show (((w1.setCell ⟨w.heap.size + 3, 0, none⟩ (.int .i64 0)).setCell ⟨w.heap.size + 3, 1, none⟩ (.int .i64 A.lo)).setCell ⟨w.heap.size + 3, 2, none⟩ (.int .i64 A.hi)).setCell ⟨w.heap.size + 3, 3, none⟩ (.bool A.fa) = Kn.put4 w1 (w.heap.size + 3) (.int .i64 0) (.int .i64 A.lo) (.int .i64 A.hi) (.bool A.fa) from rfl]
  clear c0 c1 c2 c3 z0 z1 z2 z3 n0 n1 n2 n3 n4 n5 M1
  have L1 := L1'
  clear L1'
  generalize Kn.put4 w1 (w.heap.size + 3) (.int .i64 0) (.int .i64 A.lo) (.int .i64 A.hi) (.bool A.fa) = V1 at *
  obtain ⟨n0, n1, n2, n3, n4, n5⟩ := Kn.six_co L1.n
  go_wp2_with fail
  refine ((unhide HHB) _ L1.be).mono ?_
  rintro e w2 ⟨rfl, hb2⟩
  have M2 := L1.call hb2
  clear hb2 L1 n0 n1 n2 n3 n4 n5
  obtain ⟨c0, c1, c2, c3⟩ := Kn.four_co M2.b
  obtain ⟨z0, z1, z2, z3⟩ := Kn.four_fr M2.b
  have L2' := M2.setB (.int .i64 0) (.int .i64 B.lo) (.int .i64 B.hi) (.bool B.fa)
  obtain ⟨n0, n1, n2, n3, n4, n5⟩ := Kn.six_co M2.n
  go_upto_region 10 with fail
  rw [show (((w2.setCell ⟨w.heap.size + 4, 0, none⟩ (.int .i64 0)).setCell ⟨w.heap.size + 4, 1, none⟩ (.int .i64 B.lo)).setCell ⟨w.heap.size + 4, 2, none⟩ (.int .i64 B.hi)).setCell ⟨w.heap.size + 4, 3, none⟩ (.bool B.fa) = Kn.put4 w2 (w.heap.size + 4) (.int .i64 0) (.int .i64 B.lo) (.int .i64 B.hi) (.bool B.fa) from rfl]
  clear c0 c1 c2 c3 z0 z1 z2 z3 n0 n1 n2 n3 n4 n5 M2
  have L2 := L2'
  clear L2'
  generalize Kn.put4 w2 (w.heap.size + 4) (.int .i64 0) (.int .i64 B.lo) (.int .i64 B.hi) (.bool B.fa) = V2 at *
  obtain ⟨al, ah, af, ak⟩ := A
  simp only at *
  obtain ⟨bl, bh, bf, bk_⟩ := B
  simp only at *
  obtain ⟨cl, ch, cf, ck⟩ := C
  simp only at *
  have hz := unhide HZ
  try simp only at hz
  subst hz
  obtain ⟨n0, n1, n2, n3, n4, n5⟩ := Kn.six_co L2.n
  obtain ⟨o0, o1, o2, o3⟩ := Kn.four_co L2.o
  obtain ⟨a0, a1, a2, a3⟩ := Kn.four_co L2.a
  obtain ⟨b0, b1, b2, b3⟩ := Kn.four_co L2.b
  go_wp2_with fail
  refine ((unhide HHC) _ L2.be).mono ?_
  rintro e w3 ⟨rfl, hb3⟩
  have L3 := L2.call hb3
  clear hb3 L2 n0 n1 n2 n3 n4 n5 o0 o1 o2 o3 a0 a1 a2 a3 b0 b1 b2 b3
  go_upto_region 45 with fail
  have O5 : Own (w3.alloc (.cells #[.int .i64 0, .int .i64 cl, .int .i64 ch, .bool cf] 25)) w3.heap.size 25 [.int .i64 0, .int .i64 cl, .int .i64 ch, .bool cf] := ⟨_, heap_alloc_new _ _, rfl⟩
  have L6 := L3.call ((Below.refl _ _).alloc (Nat.le_refl _) (.cells #[.int .i64 0, .int .i64 cl, .int .i64 ch, .bool cf] 25))
  have hsz : w.heap.size ≤ w3.heap.size ∧ w.heap.size ≠ w3.heap.size ∧ w.heap.size + 1 ≠ w3.heap.size ∧ w.heap.size + 2 ≠ w3.heap.size ∧ w.heap.size + 3 ≠ w3.heap.size ∧ w.heap.size + 4 ≠ w3.heap.size := by
    have := L3.b.lt
    omega
  clear L3
  have HB5 := hide hsz.1
  have HN0 := hide hsz.2.1
  have HN1 := hide hsz.2.2.1
  have HN2 := hide hsz.2.2.2.1
  have HN3 := hide hsz.2.2.2.2.1
  have HN4 := hide hsz.2.2.2.2.2
  clear hsz
  generalize hV6 : w3.alloc (.cells #[.int .i64 0, .int .i64 cl, .int .i64 ch, .bool cf] 25) = V6 at *
  clear hV6
  generalize w3.heap.size = b5 at *
  obtain ⟨n0, n1, n2, n3, n4, n5⟩ := Kn.six_co L6.n
  obtain ⟨o0, o1, o2, o3⟩ := Kn.four_co L6.o
  obtain ⟨a0, a1, a2, a3⟩ := Kn.four_co L6.a
  obtain ⟨b0, b1, b2, b3⟩ := Kn.four_co L6.b
  obtain ⟨x0, x1, x2, x3⟩ := Kn.four_co O5
  clear O5
  obtain ⟨c0, c1, c2, c3⟩ := Kn.four_co L6.r
  obtain ⟨z0, z1, z2, z3⟩ := Kn.four_fr L6.r
  have O2 := hide (Kn.put4_own L6.r (.int .i64 0) (.int .i64 bl) (.int .i64 bh) (.bool true))
  have B2 := hide (Kn.put4_below L6.be (Nat.le_refl _) (.int .i64 0) (.int .i64 bl) (.int .i64 bh) (.bool true))
  clear L6
  go_wp2_with fail
  try rw [show (((V6.setCell ⟨w.heap.size, 0, none⟩ (.int .i64 0)).setCell ⟨w.heap.size, 1, none⟩ (.int .i64 bl)).setCell ⟨w.heap.size, 2, none⟩ (.int .i64 bh)).setCell ⟨w.heap.size, 3, none⟩ (.bool true) = Kn.put4 V6 w.heap.size (.int .i64 0) (.int .i64 bl) (.int .i64 bh) (.bool true) from rfl]
  have q := Kn.four_co (unhide O2)
  have BF := unhide B2
  clear O2 B2 c0 c1 c2 c3 z0 z1 z2 z3
  generalize Kn.put4 V6 w.heap.size (.int .i64 0) (.int .i64 bl) (.int .i64 bh) (.bool true) = WW at *
  obtain ⟨q0, q1, q2, q3⟩ := q
  refine bodyPost_ret (v := .agg #[.int .i64 0, .int .i64 bl, .int .i64 bh, .bool true]) (by simp [results, Try.results22, go_sem, q0, q1, q2, q3]; try rfl) rfl ?_
  exact ⟨rfl, BF⟩
set_option maxRecDepth 100000 in
set_option maxHeartbeats 4000000 in
theorem l11Node_13b (bk len i : Nat) (c : Co) (vg vn vc : Nat) (A B C : Kn) (w : World) (ho : c.op = 13) (hi : i < len) (hl : len ≤ 900)
    (g0 : w.cell? ⟨bk, i * 6, none⟩ = some (.int .i64 c.op)) (g1 : w.cell? ⟨bk, i * 6 + 1, none⟩ = some (.int .i64 c.a)) (g2 : w.cell? ⟨bk, i * 6 + 2, none⟩ = some (.int .i64 c.b)) (g3 : w.cell? ⟨bk, i * 6 + 3, none⟩ = some (.int .i64 c.c)) (g4 : w.cell? ⟨bk, i * 6 + 4, none⟩ = some (.int .i64 c.num)) (g5 : w.cell? ⟨bk, i * 6 + 5, none⟩ = some (.slice (some ⟨vg, 0, none⟩) vn vc)) (hbk : bk < w.heap.size) (HA : ∀ V, Below w.heap.size w V → Calls Try.prog 22 #[.slice (some ⟨bk, 0, none⟩) len len, .int .i64 c.a] V fun e w' => e = .returned (Kn.ans A) ∧ Below V.heap.size V w') (hA : Kn.Fit A) (HB : ∀ V, Below w.heap.size w V → Calls Try.prog 22 #[.slice (some ⟨bk, 0, none⟩) len len, .int .i64 c.b] V fun e w' => e = .returned (Kn.ans B) ∧ Below V.heap.size V w') (hB : Kn.Fit B) (HC : ∀ V, Below w.heap.size w V → Calls Try.prog 22 #[.slice (some ⟨bk, 0, none⟩) len len, .int .i64 c.c] V fun e w' => e = .returned (Kn.ans C) ∧ Below V.heap.size V w') (hC : Kn.Fit C) (hz : A.fa = false) (hy : B.fa = true) :
    Calls Try.prog 22 #[.slice (some ⟨bk, 0, none⟩) len len, .int .i64 (i : Int)] w fun e w' => e = .returned (Kn.ans (Kn.node c [A, B, C])) ∧ Below w.heap.size w w' := by
  have FIN := hide (Kn.ans_eq ((Kn.node_13 (c := c) (A := A) (B := B) (C := C) ho).trans (show _ = (B.lo, B.hi, true) by rw [hz, hy]; rfl)))
  rw [unhide FIN]
  have HZ := hide hz
  clear hz
  have HY := hide hy
  clear hy
  have FAA := hA
  unfold Kn.ans at HA
  have HHA := hide HA
  clear HA
  have FAB := hB
  unfold Kn.ans at HB
  have HHB := hide HB
  clear HB
  have FAC := hC
  unfold Kn.ans at HC
  have HHC := hide HC
  clear HC
  rw [ho] at g0
  have hiI : (i : Int) < (len : Int) := by omega
  have hi0 : (0 : Int) ≤ (i : Int) := by omega
  have HK := hide (fun V => l6Kids_13 V)
  have HL := hide (Kn.Led.first w [.int .i64 13, .int .i64 c.a, .int .i64 c.b, .int .i64 c.c, .int .i64 c.num, .slice (some ⟨vg, 0, none⟩) vn vc] rfl)
  generalize c.a = ca at *
  generalize c.b = cb at *
  generalize c.c = cc at *
  generalize c.num = cm at *
  obtain ⟨W, hW⟩ : ∃ W, W = ((((w.alloc (.cells #[.int .i64 0, .int .i64 0, .int .i64 0, .bool false] 25)).alloc (.cells #[.int .i64 13, .int .i64 ca, .int .i64 cb, .int .i64 cc, .int .i64 cm, .slice (some ⟨vg, 0, none⟩) vn vc] 48)).alloc (.cells #[.int .i64 0, .int .i64 1, .int .i64 1, .bool false] 25)).alloc (.cells #[.int .i64 0, .int .i64 0, .int .i64 0, .bool false] 25)).alloc (.cells #[.int .i64 0, .int .i64 0, .int .i64 0, .bool false] 25) := ⟨_, rfl⟩
  have L0 : Kn.Led w W [.int .i64 13, .int .i64 ca, .int .i64 cb, .int .i64 cc, .int .i64 cm, .slice (some ⟨vg, 0, none⟩) vn vc] [.int .i64 0, .int .i64 1, .int .i64 1, .bool false] [.int .i64 0, .int .i64 0, .int .i64 0, .bool false] [.int .i64 0, .int .i64 0, .int .i64 0, .bool false] := by rw [hW]; exact unhide HL
  clear HL
  go_enter Try.func22, Try.ntmps22
  go_wp2_with fail
  refine ((unhide HK) _).mono ?_
  rintro e wk ⟨rfl, hwk⟩
  subst wk
  go_upto_region 6 with fail
  try simp only [Nat.add_assoc, Nat.reduceAdd]
  rw [← hW]
  clear hW HK g0 g1 g2 g3 g4 g5
  obtain ⟨n0, n1, n2, n3, n4, n5⟩ := Kn.six_co L0.n
  go_wp2_with fail
  refine ((unhide HHA) _ L0.be).mono ?_
  rintro e w1 ⟨rfl, hb1⟩
  have M1 := L0.call hb1
  clear hb1 L0 n0 n1 n2 n3 n4 n5
  obtain ⟨c0, c1, c2, c3⟩ := Kn.four_co M1.a
  obtain ⟨z0, z1, z2, z3⟩ := Kn.four_fr M1.a
  have L1' := M1.setA (.int .i64 0) (.int .i64 A.lo) (.int .i64 A.hi) (.bool A.fa)
  obtain ⟨n0, n1, n2, n3, n4, n5⟩ := Kn.six_co M1.n
  go_upto_region 8 with fail
  rw [show (((w1.setCell ⟨w.heap.size + 3, 0, none⟩ (.int .i64 0)).setCell ⟨w.heap.size + 3, 1, none⟩ (.int .i64 A.lo)).setCell ⟨w.heap.size + 3, 2, none⟩ (.int .i64 A.hi)).setCell ⟨w.heap.size + 3, 3, none⟩ (.bool A.fa) = Kn.put4 w1 (w.heap.size + 3) (.int .i64 0) (.int .i64 A.lo) (.int .i64 A.hi) (.bool A.fa) from rfl]
  clear c0 c1 c2 c3 z0 z1 z2 z3 n0 n1 n2 n3 n4 n5 M1
  have L1 := L1'
  clear L1'
  generalize Kn.put4 w1 (w.heap.size + 3) (.int .i64 0) (.int .i64 A.lo) (.int .i64 A.hi) (.bool A.fa) = V1 at *
  obtain ⟨n0, n1, n2, n3, n4, n5⟩ := Kn.six_co L1.n
  go_wp2_with fail
  refine ((unhide HHB) _ L1.be).mono ?_
  rintro e w2 ⟨rfl, hb2⟩
  have M2 := L1.call hb2
  clear hb2 L1 n0 n1 n2 n3 n4 n5
  obtain ⟨c0, c1, c2, c3⟩ := Kn.four_co M2.b
  obtain ⟨z0, z1, z2, z3⟩ := Kn.four_fr M2.b
  have L2' := M2.setB (.int .i64 0) (.int .i64 B.lo) (.int .i64 B.hi) (.bool B.fa)
  obtain ⟨n0, n1, n2, n3, n4, n5⟩ := Kn.six_co M2.n
  go_upto_region 10 with fail
  rw [show (((w2.setCell ⟨w.heap.size + 4, 0, none⟩ (.int .i64 0)).setCell ⟨w.heap.size + 4, 1, none⟩ (.int .i64 B.lo)).setCell ⟨w.heap.size + 4, 2, none⟩ (.int .i64 B.hi)).setCell ⟨w.heap.size + 4, 3, none⟩ (.bool B.fa) = Kn.put4 w2 (w.heap.size + 4) (.int .i64 0) (.int .i64 B.lo) (.int .i64 B.hi) (.bool B.fa) from rfl]
  clear c0 c1 c2 c3 z0 z1 z2 z3 n0 n1 n2 n3 n4 n5 M2
  have L2 := L2'
  clear L2'
  generalize Kn.put4 w2 (w.heap.size + 4) (.int .i64 0) (.int .i64 B.lo) (.int .i64 B.hi) (.bool B.fa) = V2 at *
  obtain ⟨al, ah, af, ak⟩ := A
  simp only at *
  obtain ⟨bl, bh, bf, bk_⟩ := B
  simp only at *
  obtain ⟨cl, ch, cf, ck⟩ := C
  simp only at *
  have hz := unhide HZ
  try simp only at hz
  subst hz
  have hy := unhide HY
  try simp only at hy
  subst hy
  obtain ⟨n0, n1, n2, n3, n4, n5⟩ := Kn.six_co L2.n
  obtain ⟨o0, o1, o2, o3⟩ := Kn.four_co L2.o
  obtain ⟨a0, a1, a2, a3⟩ := Kn.four_co L2.a
  obtain ⟨b0, b1, b2, b3⟩ := Kn.four_co L2.b
  go_wp2_with fail
  refine ((unhide HHC) _ L2.be).mono ?_
  rintro e w3 ⟨rfl, hb3⟩
  have L3 := L2.call hb3
  clear hb3 L2 n0 n1 n2 n3 n4 n5 o0 o1 o2 o3 a0 a1 a2 a3 b0 b1 b2 b3
  go_upto_region 45 with fail
  have O5 : Own (w3.alloc (.cells #[.int .i64 0, .int .i64 cl, .int .i64 ch, .bool cf] 25)) w3.heap.size 25 [.int .i64 0, .int .i64 cl, .int .i64 ch, .bool cf] := ⟨_, heap_alloc_new _ _, rfl⟩
  have L6 := L3.call ((Below.refl _ _).alloc (Nat.le_refl _) (.cells #[.int .i64 0, .int .i64 cl, .int .i64 ch, .bool cf] 25))
  have hsz : w.heap.size ≤ w3.heap.size ∧ w.heap.size ≠ w3.heap.size ∧ w.heap.size + 1 ≠ w3.heap.size ∧ w.heap.size + 2 ≠ w3.heap.size ∧ w.heap.size + 3 ≠ w3.heap.size ∧ w.heap.size + 4 ≠ w3.heap.size := by
    have := L3.b.lt
    omega
  clear L3
  have HB5 := hide hsz.1
  have HN0 := hide hsz.2.1
  have HN1 := hide hsz.2.2.1
  have HN2 := hide hsz.2.2.2.1
  have HN3 := hide hsz.2.2.2.2.1
  have HN4 := hide hsz.2.2.2.2.2
  clear hsz
  generalize hV6 : w3.alloc (.cells #[.int .i64 0, .int .i64 cl, .int .i64 ch, .bool cf] 25) = V6 at *
  clear hV6
  generalize w3.heap.size = b5 at *
  obtain ⟨n0, n1, n2, n3, n4, n5⟩ := Kn.six_co L6.n
  obtain ⟨o0, o1, o2, o3⟩ := Kn.four_co L6.o
  obtain ⟨a0, a1, a2, a3⟩ := Kn.four_co L6.a
  obtain ⟨b0, b1, b2, b3⟩ := Kn.four_co L6.b
  obtain ⟨x0, x1, x2, x3⟩ := Kn.four_co O5
  clear O5
  obtain ⟨c0, c1, c2, c3⟩ := Kn.four_co L6.r
  obtain ⟨z0, z1, z2, z3⟩ := Kn.four_fr L6.r
  have O2 := hide (Kn.put4_own L6.r (.int .i64 0) (.int .i64 bl) (.int .i64 bh) (.bool true))
  have B2 := hide (Kn.put4_below L6.be (Nat.le_refl _) (.int .i64 0) (.int .i64 bl) (.int .i64 bh) (.bool true))
  clear L6
  go_wp2_with fail
  try rw [show (((V6.setCell ⟨w.heap.size, 0, none⟩ (.int .i64 0)).setCell ⟨w.heap.size, 1, none⟩ (.int .i64 bl)).setCell ⟨w.heap.size, 2, none⟩ (.int .i64 bh)).setCell ⟨w.heap.size, 3, none⟩ (.bool true) = Kn.put4 V6 w.heap.size (.int .i64 0) (.int .i64 bl) (.int .i64 bh) (.bool true) from rfl]
  have q := Kn.four_co (unhide O2)
  have BF := unhide B2
  clear O2 B2 c0 c1 c2 c3 z0 z1 z2 z3
  generalize Kn.put4 V6 w.heap.size (.int .i64 0) (.int .i64 bl) (.int .i64 bh) (.bool true) = WW at *
  obtain ⟨q0, q1, q2, q3⟩ := q
  refine bodyPost_ret (v := .agg #[.int .i64 0, .int .i64 bl, .int .i64 bh, .bool true]) (by simp [results, Try.results22, go_sem, q0, q1, q2, q3]; try rfl) rfl ?_
  exact ⟨rfl, BF⟩
set_option maxRecDepth 100000 in
set_option maxHeartbeats 4000000 in
theorem l11Node_13c (bk len i : Nat) (c : Co) (vg vn vc : Nat) (A B C : Kn) (w : World) (ho : c.op = 13) (hi : i < len) (hl : len ≤ 900)
    (g0 : w.cell? ⟨bk, i * 6, none⟩ = some (.int .i64 c.op)) (g1 : w.cell? ⟨bk, i * 6 + 1, none⟩ = some (.int .i64 c.a)) (g2 : w.cell? ⟨bk, i * 6 + 2, none⟩ = some (.int .i64 c.b)) (g3 : w.cell? ⟨bk, i * 6 + 3, none⟩ = some (.int .i64 c.c)) (g4 : w.cell? ⟨bk, i * 6 + 4, none⟩ = some (.int .i64 c.num)) (g5 : w.cell? ⟨bk, i * 6 + 5, none⟩ = some (.slice (some ⟨vg, 0, none⟩) vn vc)) (hbk : bk < w.heap.size) (HA : ∀ V, Below w.heap.size w V → Calls Try.prog 22 #[.slice (some ⟨bk, 0, none⟩) len len, .int .i64 c.a] V fun e w' => e = .returned (Kn.ans A) ∧ Below V.heap.size V w') (hA : Kn.Fit A) (HB : ∀ V, Below w.heap.size w V → Calls Try.prog 22 #[.slice (some ⟨bk, 0, none⟩) len len, .int .i64 c.b] V fun e w' => e = .returned (Kn.ans B) ∧ Below V.heap.size V w') (hB : Kn.Fit B) (HC : ∀ V, Below w.heap.size w V → Calls Try.prog 22 #[.slice (some ⟨bk, 0, none⟩) len len, .int .i64 c.c] V fun e w' => e = .returned (Kn.ans C) ∧ Below V.heap.size V w') (hC : Kn.Fit C) (hz : A.fa = false) (hy : B.fa = false) :
    Calls Try.prog 22 #[.slice (some ⟨bk, 0, none⟩) len len, .int .i64 (i : Int)] w fun e w' => e = .returned (Kn.ans (Kn.node c [A, B, C])) ∧ Below w.heap.size w w' := by
  have FIN := hide (Kn.ans_eq ((Kn.node_13 (c := c) (A := A) (B := B) (C := C) ho).trans (show _ = (B.lo, B.hi, C.fa) by rw [hz, hy]; rfl)))
  rw [unhide FIN]
  have HZ := hide hz
  clear hz
  have HY := hide hy
  clear hy
  have FAA := hA
  unfold Kn.ans at HA
  have HHA := hide HA
  clear HA
  have FAB := hB
  unfold Kn.ans at HB
  have HHB := hide HB
  clear HB
  have FAC := hC
  unfold Kn.ans at HC
  have HHC := hide HC
  clear HC
  rw [ho] at g0
  have hiI : (i : Int) < (len : Int) := by omega
  have hi0 : (0 : Int) ≤ (i : Int) := by omega
  have HK := hide (fun V => l6Kids_13 V)
  have HL := hide (Kn.Led.first w [.int .i64 13, .int .i64 c.a, .int .i64 c.b, .int .i64 c.c, .int .i64 c.num, .slice (some ⟨vg, 0, none⟩) vn vc] rfl)
  generalize c.a = ca at *
  generalize c.b = cb at *
  generalize c.c = cc at *
  generalize c.num = cm at *
  obtain ⟨W, hW⟩ : ∃ W, W = ((((w.alloc (.cells #[.int .i64 0, .int .i64 0, .int .i64 0, .bool false] 25)).alloc (.cells #[.int .i64 13, .int .i64 ca, .int .i64 cb, .int .i64 cc, .int .i64 cm, .slice (some ⟨vg, 0, none⟩) vn vc] 48)).alloc (.cells #[.int .i64 0, .int .i64 1, .int .i64 1, .bool false] 25)).alloc (.cells #[.int .i64 0, .int .i64 0, .int .i64 0, .bool false] 25)).alloc (.cells #[.int .i64 0, .int .i64 0, .int .i64 0, .bool false] 25) := ⟨_, rfl⟩
  have L0 : Kn.Led w W [.int .i64 13, .int .i64 ca, .int .i64 cb, .int .i64 cc, .int .i64 cm, .slice (some ⟨vg, 0, none⟩) vn vc] [.int .i64 0, .int .i64 1, .int .i64 1, .bool false] [.int .i64 0, .int .i64 0, .int .i64 0, .bool false] [.int .i64 0, .int .i64 0, .int .i64 0, .bool false] := by rw [hW]; exact unhide HL
  clear HL
  go_enter Try.func22, Try.ntmps22
  go_wp2_with fail
  refine ((unhide HK) _).mono ?_
  rintro e wk ⟨rfl, hwk⟩
  subst wk
  go_upto_region 6 with fail
  try simp only [Nat.add_assoc, Nat.reduceAdd]
  rw [← hW]
  clear hW HK g0 g1 g2 g3 g4 g5
  obtain ⟨n0, n1, n2, n3, n4, n5⟩ := Kn.six_co L0.n
  go_wp2_with fail
  refine ((unhide HHA) _ L0.be).mono ?_
  rintro e w1 ⟨rfl, hb1⟩
  have M1 := L0.call hb1
  clear hb1 L0 n0 n1 n2 n3 n4 n5
  obtain ⟨c0, c1, c2, c3⟩ := Kn.four_co M1.a
  obtain ⟨z0, z1, z2, z3⟩ := Kn.four_fr M1.a
  have L1' := M1.setA (.int .i64 0) (.int .i64 A.lo) (.int .i64 A.hi) (.bool A.fa)
  obtain ⟨n0, n1, n2, n3, n4, n5⟩ := Kn.six_co M1.n
  go_upto_region 8 with fail
  rw [show (((w1.setCell ⟨w.heap.size + 3, 0, none⟩ (.int .i64 0)).setCell ⟨w.heap.size + 3, 1, none⟩ (.int .i64 A.lo)).setCell ⟨w.heap.size + 3, 2, none⟩ (.int .i64 A.hi)).setCell ⟨w.heap.size + 3, 3, none⟩ (.bool A.fa) = Kn.put4 w1 (w.heap.size + 3) (.int .i64 0) (.int .i64 A.lo) (.int .i64 A.hi) (.bool A.fa) from rfl]
  clear c0 c1 c2 c3 z0 z1 z2 z3 n0 n1 n2 n3 n4 n5 M1
  have L1 := L1'
  clear L1'
  generalize Kn.put4 w1 (w.heap.size + 3) (.int .i64 0) (.int .i64 A.lo) (.int .i64 A.hi) (.bool A.fa) = V1 at *
  obtain ⟨n0, n1, n2, n3, n4, n5⟩ := Kn.six_co L1.n
  go_wp2_with fail
  refine ((unhide HHB) _ L1.be).mono ?_
  rintro e w2 ⟨rfl, hb2⟩
  have M2 := L1.call hb2
  clear hb2 L1 n0 n1 n2 n3 n4 n5
  obtain ⟨c0, c1, c2, c3⟩ := Kn.four_co M2.b
  obtain ⟨z0, z1, z2, z3⟩ := Kn.four_fr M2.b
  have L2' := M2.setB (.int .i64 0) (.int .i64 B.lo) (.int .i64 B.hi) (.bool B.fa)
  obtain ⟨n0, n1, n2, n3, n4, n5⟩ := Kn.six_co M2.n
  go_upto_region 10 with fail
  rw [show (((w2.setCell ⟨w.heap.size + 4, 0, none⟩ (.int .i64 0)).setCell ⟨w.heap.size + 4, 1, none⟩ (.int .i64 B.lo)).setCell ⟨w.heap.size + 4, 2, none⟩ (.int .i64 B.hi)).setCell ⟨w.heap.size + 4, 3, none⟩ (.bool B.fa) = Kn.put4 w2 (w.heap.size + 4) (.int .i64 0) (.int .i64 B.lo) (.int .i64 B.hi) (.bool B.fa) from rfl]
  clear c0 c1 c2 c3 z0 z1 z2 z3 n0 n1 n2 n3 n4 n5 M2
  have L2 := L2'
  clear L2'
  generalize Kn.put4 w2 (w.heap.size + 4) (.int .i64 0) (.int .i64 B.lo) (.int .i64 B.hi) (.bool B.fa) = V2 at *
  obtain ⟨al, ah, af, ak⟩ := A
  simp only at *
  obtain ⟨bl, bh, bf, bk_⟩ := B
  simp only at *
  obtain ⟨cl, ch, cf, ck⟩ := C
  simp only at *
  have hz := unhide HZ
  try simp only at hz
  subst hz
  have hy := unhide HY
  try simp only at hy
  subst hy
  obtain ⟨n0, n1, n2, n3, n4, n5⟩ := Kn.six_co L2.n
  obtain ⟨o0, o1, o2, o3⟩ := Kn.four_co L2.o
  obtain ⟨a0, a1, a2, a3⟩ := Kn.four_co L2.a
  obtain ⟨b0, b1, b2, b3⟩ := Kn.four_co L2.b
  go_wp2_with fail
  refine ((unhide HHC) _ L2.be).mono ?_
  rintro e w3 ⟨rfl, hb3⟩
  have L3 := L2.call hb3
  clear hb3 L2 n0 n1 n2 n3 n4 n5 o0 o1 o2 o3 a0 a1 a2 a3 b0 b1 b2 b3
  go_upto_region 45 with fail
  have O5 : Own (w3.alloc (.cells #[.int .i64 0, .int .i64 cl, .int .i64 ch, .bool cf] 25)) w3.heap.size 25 [.int .i64 0, .int .i64 cl, .int .i64 ch, .bool cf] := ⟨_, heap_alloc_new _ _, rfl⟩
  have L6 := L3.call ((Below.refl _ _).alloc (Nat.le_refl _) (.cells #[.int .i64 0, .int .i64 cl, .int .i64 ch, .bool cf] 25))
  have hsz : w.heap.size ≤ w3.heap.size ∧ w.heap.size ≠ w3.heap.size ∧ w.heap.size + 1 ≠ w3.heap.size ∧ w.heap.size + 2 ≠ w3.heap.size ∧ w.heap.size + 3 ≠ w3.heap.size ∧ w.heap.size + 4 ≠ w3.heap.size := by
    have := L3.b.lt
    omega
  clear L3
  have HB5 := hide hsz.1
  have HN0 := hide hsz.2.1
  have HN1 := hide hsz.2.2.1
  have HN2 := hide hsz.2.2.2.1
  have HN3 := hide hsz.2.2.2.2.1
  have HN4 := hide hsz.2.2.2.2.2
  clear hsz
  generalize hV6 : w3.alloc (.cells #[.int .i64 0, .int .i64 cl, .int .i64 ch, .bool cf] 25) = V6 at *
  clear hV6
  generalize w3.heap.size = b5 at *
  obtain ⟨n0, n1, n2, n3, n4, n5⟩ := Kn.six_co L6.n
  obtain ⟨o0, o1, o2, o3⟩ := Kn.four_co L6.o
  obtain ⟨a0, a1, a2, a3⟩ := Kn.four_co L6.a
  obtain ⟨b0, b1, b2, b3⟩ := Kn.four_co L6.b
  obtain ⟨x0, x1, x2, x3⟩ := Kn.four_co O5
  clear O5
  obtain ⟨c0, c1, c2, c3⟩ := Kn.four_co L6.r
  obtain ⟨z0, z1, z2, z3⟩ := Kn.four_fr L6.r
  have O2 := hide (Kn.put4_own L6.r (.int .i64 0) (.int .i64 bl) (.int .i64 bh) (.bool cf))
  have B2 := hide (Kn.put4_below L6.be (Nat.le_refl _) (.int .i64 0) (.int .i64 bl) (.int .i64 bh) (.bool cf))
  clear L6
  go_wp2_with fail
  try rw [show (((V6.setCell ⟨w.heap.size, 0, none⟩ (.int .i64 0)).setCell ⟨w.heap.size, 1, none⟩ (.int .i64 bl)).setCell ⟨w.heap.size, 2, none⟩ (.int .i64 bh)).setCell ⟨w.heap.size, 3, none⟩ (.bool cf) = Kn.put4 V6 w.heap.size (.int .i64 0) (.int .i64 bl) (.int .i64 bh) (.bool cf) from rfl]
  have q := Kn.four_co (unhide O2)
  have BF := unhide B2
  clear O2 B2 c0 c1 c2 c3 z0 z1 z2 z3
  generalize Kn.put4 V6 w.heap.size (.int .i64 0) (.int .i64 bl) (.int .i64 bh) (.bool cf) = WW at *
  obtain ⟨q0, q1, q2, q3⟩ := q
  refine bodyPost_ret (v := .agg #[.int .i64 0, .int .i64 bl, .int .i64 bh, .bool cf]) (by simp [results, Try.results22, go_sem, q0, q1, q2, q3]; try rfl) rfl ?_
  exact ⟨rfl, BF⟩

end Go.Proofs.Ytkjmnkbiflkpdaa
