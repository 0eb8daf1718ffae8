/-
  spec.l11Node at what is done, lists, each, try, alternatives.
-/
import Derived.Test.YtkjmnkbiflkpdaaKnR
namespace Go.Proofs.Ytkjmnkbiflkpdaa
open Go.RowKit
set_option linter.unusedVariables false
set_option linter.unusedSimpArgs false

set_option maxRecDepth 100000 in
set_option maxHeartbeats 4000000 in
theorem l11Node_16 (bk len i : Nat) (c : Co) (vg vn vc : Nat) (w : World) (ho : c.op = 16) (hi : i < len) (hl : len ≤ 900)
    (g0 : w.cell? ⟨bk, i * 6, none⟩ = some (.int .i64 c.op)) (g1 : w.cell? ⟨bk, i * 6 + 1, none⟩ = some (.int .i64 c.a)) (g2 : w.cell? ⟨bk, i * 6 + 2, none⟩ = some (.int .i64 c.b)) (g3 : w.cell? ⟨bk, i * 6 + 3, none⟩ = some (.int .i64 c.c)) (g4 : w.cell? ⟨bk, i * 6 + 4, none⟩ = some (.int .i64 c.num)) (g5 : w.cell? ⟨bk, i * 6 + 5, none⟩ = some (.slice (some ⟨vg, 0, none⟩) vn vc)) (hbk : bk < w.heap.size)   :
    Calls Try.prog 22 #[.slice (some ⟨bk, 0, none⟩) len len, .int .i64 (i : Int)] w fun e w' => e = .returned (Kn.ans (Kn.node c [])) ∧ Below w.heap.size w w' := by
  have FIN := hide (Kn.ans_eq (Kn.node_16 ho))
  rw [unhide FIN]
  rw [ho] at g0
  have hiI : (i : Int) < (len : Int) := by omega
  have hi0 : (0 : Int) ≤ (i : Int) := by omega
  have HK := hide (fun V => l6Kids_16 V)
  have HL := hide (Kn.Led.first w [.int .i64 16, .int .i64 c.a, .int .i64 c.b, .int .i64 c.c, .int .i64 c.num, .slice (some ⟨vg, 0, none⟩) vn vc] rfl)
  generalize c.a = ca at *
  generalize c.b = cb at *
  generalize c.c = cc at *
  generalize c.num = cm at *
  obtain ⟨W, hW⟩ : ∃ W, W = ((((w.alloc (.cells #[.int .i64 0, .int .i64 0, .int .i64 0, .bool false] 25)).alloc (.cells #[.int .i64 16, .int .i64 ca, .int .i64 cb, .int .i64 cc, .int .i64 cm, .slice (some ⟨vg, 0, none⟩) vn vc] 48)).alloc (.cells #[.int .i64 0, .int .i64 1, .int .i64 1, .bool false] 25)).alloc (.cells #[.int .i64 0, .int .i64 0, .int .i64 0, .bool false] 25)).alloc (.cells #[.int .i64 0, .int .i64 0, .int .i64 0, .bool false] 25) := ⟨_, rfl⟩
  have L0 : Kn.Led w W [.int .i64 16, .int .i64 ca, .int .i64 cb, .int .i64 cc, .int .i64 cm, .slice (some ⟨vg, 0, none⟩) vn vc] [.int .i64 0, .int .i64 1, .int .i64 1, .bool false] [.int .i64 0, .int .i64 0, .int .i64 0, .bool false] [.int .i64 0, .int .i64 0, .int .i64 0, .bool false] := by rw [hW]; exact unhide HL
  clear HL
  go_enter Try.func22, Try.ntmps22
  go_wp2_with fail
  refine ((unhide HK) _).mono ?_
  rintro e wk ⟨rfl, hwk⟩
  subst wk
  go_upto_region 6 with fail
  try simp only [Nat.add_assoc, Nat.reduceAdd]
  rw [← hW]
  clear hW HK g0 g1 g2 g3 g4 g5
  obtain ⟨n0, n1, n2, n3, n4, n5⟩ := Kn.six_co L0.n
  obtain ⟨o0, o1, o2, o3⟩ := Kn.four_co L0.o
  obtain ⟨a0, a1, a2, a3⟩ := Kn.four_co L0.a
  obtain ⟨b0, b1, b2, b3⟩ := Kn.four_co L0.b
  have L6 : Kn.Led w (W.setCell ⟨w.heap.size + 2, 3, none⟩ (.bool (cm != 3))) _ [.int .i64 0, .int .i64 1, .int .i64 1, .bool (cm != 3)] _ _ := ⟨L0.be.setCell (p := ⟨w.heap.size + 2, 3, none⟩) (by simp only; omega) _, L0.r.setOther _ _ (by simp only; omega), L0.n.setOther _ _ (by simp only; omega), L0.o.set 3 _, L0.a.setOther _ _ (by simp only; omega), L0.b.setOther _ _ (by simp only; omega)⟩
  have zo := L0.o.frozen 3
  go_upto_region 15 with fail
  clear L0 zo n0 n1 n2 n3 n4 n5 o0 o1 o2 o3 a0 a1 a2 a3 b0 b1 b2 b3
  generalize W.setCell ⟨w.heap.size + 2, 3, none⟩ (.bool (cm != 3)) = V6 at *
  obtain ⟨o0, o1, o2, o3⟩ := Kn.four_co L6.o
  obtain ⟨c0, c1, c2, c3⟩ := Kn.four_co L6.r
  obtain ⟨z0, z1, z2, z3⟩ := Kn.four_fr L6.r
  have O2 := hide (Kn.put4_own L6.r (.int .i64 0) (.int .i64 1) (.int .i64 1) (.bool (cm != 3)))
  have B2 := hide (Kn.put4_below L6.be (Nat.le_refl _) (.int .i64 0) (.int .i64 1) (.int .i64 1) (.bool (cm != 3)))
  clear L6
  go_wp2_with fail
  try rw [show (((V6.setCell ⟨w.heap.size, 0, none⟩ (.int .i64 0)).setCell ⟨w.heap.size, 1, none⟩ (.int .i64 1)).setCell ⟨w.heap.size, 2, none⟩ (.int .i64 1)).setCell ⟨w.heap.size, 3, none⟩ (.bool (cm != 3)) = Kn.put4 V6 w.heap.size (.int .i64 0) (.int .i64 1) (.int .i64 1) (.bool (cm != 3)) from rfl]
  have q := Kn.four_co (unhide O2)
  have BF := unhide B2
  clear O2 B2 c0 c1 c2 c3 z0 z1 z2 z3
  generalize Kn.put4 V6 w.heap.size (.int .i64 0) (.int .i64 1) (.int .i64 1) (.bool (cm != 3)) = WW at *
  obtain ⟨q0, q1, q2, q3⟩ := q
  refine bodyPost_ret (v := .agg #[.int .i64 0, .int .i64 1, .int .i64 1, .bool (cm != 3)]) (by simp [results, Try.results22, go_sem, q0, q1, q2, q3]; try rfl) rfl ?_
  exact ⟨rfl, BF⟩
set_option maxRecDepth 100000 in
set_option maxHeartbeats 4000000 in
theorem l11Node_10 (bk len i : Nat) (c : Co) (vg vn vc : Nat) (A : Kn) (w : World) (ho : c.op = 10) (hi : i < len) (hl : len ≤ 900)
    (g0 : w.cell? ⟨bk, i * 6, none⟩ = some (.int .i64 c.op)) (g1 : w.cell? ⟨bk, i * 6 + 1, none⟩ = some (.int .i64 c.a)) (g2 : w.cell? ⟨bk, i * 6 + 2, none⟩ = some (.int .i64 c.b)) (g3 : w.cell? ⟨bk, i * 6 + 3, none⟩ = some (.int .i64 c.c)) (g4 : w.cell? ⟨bk, i * 6 + 4, none⟩ = some (.int .i64 c.num)) (g5 : w.cell? ⟨bk, i * 6 + 5, none⟩ = some (.slice (some ⟨vg, 0, none⟩) vn vc)) (hbk : bk < w.heap.size) (HA : ∀ V, Below w.heap.size w V → Calls Try.prog 22 #[.slice (some ⟨bk, 0, none⟩) len len, .int .i64 c.a] V fun e w' => e = .returned (Kn.ans A) ∧ Below V.heap.size V w') (hA : Kn.Fit A) (x : Int) (xa : Nat) (hxa : c.a = (xa : Int)) (hxl : xa < len) (gx : ∀ V, Below w.heap.size w V → V.cell? ⟨bk, xa * 6, none⟩ = some (.int .i64 x)) (he : Kn.isEmpty A = (x == 17)) (hfa : A.fa = true → x ≠ 17) :
    Calls Try.prog 22 #[.slice (some ⟨bk, 0, none⟩) len len, .int .i64 (i : Int)] w fun e w' => e = .returned (Kn.ans (Kn.node c [A])) ∧ Below w.heap.size w w' := by
  have FIN := hide (Kn.ans_eq (Kn.node_10 he hfa ho))
  rw [unhide FIN]
  have FAA := hA
  unfold Kn.ans at HA
  have HHA := hide HA
  clear HA
  rw [ho] at g0
  have hiI : (i : Int) < (len : Int) := by omega
  have hi0 : (0 : Int) ≤ (i : Int) := by omega
  have HK := hide (fun V => l6Kids_10 V)
  have HL := hide (Kn.Led.first w [.int .i64 10, .int .i64 c.a, .int .i64 c.b, .int .i64 c.c, .int .i64 c.num, .slice (some ⟨vg, 0, none⟩) vn vc] rfl)
  have hxI : (xa : Int) < (len : Int) := by omega
  have hx0 : (0 : Int) ≤ (xa : Int) := by omega
  have HGX := hide gx
  clear he hfa gx
  generalize c.a = ca at *
  subst hxa
  generalize c.b = cb at *
  generalize c.c = cc at *
  generalize c.num = cm at *
  obtain ⟨W, hW⟩ : ∃ W, W = ((((w.alloc (.cells #[.int .i64 0, .int .i64 0, .int .i64 0, .bool false] 25)).alloc (.cells #[.int .i64 10, .int .i64 (xa : Int), .int .i64 cb, .int .i64 cc, .int .i64 cm, .slice (some ⟨vg, 0, none⟩) vn vc] 48)).alloc (.cells #[.int .i64 0, .int .i64 1, .int .i64 1, .bool false] 25)).alloc (.cells #[.int .i64 0, .int .i64 0, .int .i64 0, .bool false] 25)).alloc (.cells #[.int .i64 0, .int .i64 0, .int .i64 0, .bool false] 25) := ⟨_, rfl⟩
  have L0 : Kn.Led w W [.int .i64 10, .int .i64 (xa : Int), .int .i64 cb, .int .i64 cc, .int .i64 cm, .slice (some ⟨vg, 0, none⟩) vn vc] [.int .i64 0, .int .i64 1, .int .i64 1, .bool false] [.int .i64 0, .int .i64 0, .int .i64 0, .bool false] [.int .i64 0, .int .i64 0, .int .i64 0, .bool false] := by rw [hW]; exact unhide HL
  clear HL
  go_enter Try.func22, Try.ntmps22
  go_wp2_with fail
  refine ((unhide HK) _).mono ?_
  rintro e wk ⟨rfl, hwk⟩
  subst wk
  go_upto_region 6 with fail
  try simp only [Nat.add_assoc, Nat.reduceAdd]
  rw [← hW]
  clear hW HK g0 g1 g2 g3 g4 g5
  obtain ⟨n0, n1, n2, n3, n4, n5⟩ := Kn.six_co L0.n
  go_wp2_with fail
  refine ((unhide HHA) _ L0.be).mono ?_
  rintro e w1 ⟨rfl, hb1⟩
  have M1 := L0.call hb1
  clear hb1 L0 n0 n1 n2 n3 n4 n5
  obtain ⟨c0, c1, c2, c3⟩ := Kn.four_co M1.a
  obtain ⟨z0, z1, z2, z3⟩ := Kn.four_fr M1.a
  have L1' := M1.setA (.int .i64 0) (.int .i64 A.lo) (.int .i64 A.hi) (.bool A.fa)
  obtain ⟨n0, n1, n2, n3, n4, n5⟩ := Kn.six_co M1.n
  go_upto_region 8 with fail
  rw [show (((w1.setCell ⟨w.heap.size + 3, 0, none⟩ (.int .i64 0)).setCell ⟨w.heap.size + 3, 1, none⟩ (.int .i64 A.lo)).setCell ⟨w.heap.size + 3, 2, none⟩ (.int .i64 A.hi)).setCell ⟨w.heap.size + 3, 3, none⟩ (.bool A.fa) = Kn.put4 w1 (w.heap.size + 3) (.int .i64 0) (.int .i64 A.lo) (.int .i64 A.hi) (.bool A.fa) from rfl]
  clear c0 c1 c2 c3 z0 z1 z2 z3 n0 n1 n2 n3 n4 n5 M1
  have L1 := L1'
  clear L1'
  generalize Kn.put4 w1 (w.heap.size + 3) (.int .i64 0) (.int .i64 A.lo) (.int .i64 A.hi) (.bool A.fa) = V1 at *
  obtain ⟨al, ah, af, ak⟩ := A
  simp only at *
  obtain ⟨n0, n1, n2, n3, n4, n5⟩ := Kn.six_co L1.n
  obtain ⟨o0, o1, o2, o3⟩ := Kn.four_co L1.o
  obtain ⟨a0, a1, a2, a3⟩ := Kn.four_co L1.a
  obtain ⟨b0, b1, b2, b3⟩ := Kn.four_co L1.b
  have L6 : Kn.Led w (V1.setCell ⟨w.heap.size + 2, 3, none⟩ (.bool (x != 17))) _ [.int .i64 0, .int .i64 1, .int .i64 1, .bool (x != 17)] _ _ := ⟨L1.be.setCell (p := ⟨w.heap.size + 2, 3, none⟩) (by simp only; omega) _, L1.r.setOther _ _ (by simp only; omega), L1.n.setOther _ _ (by simp only; omega), L1.o.set 3 _, L1.a.setOther _ _ (by simp only; omega), L1.b.setOther _ _ (by simp only; omega)⟩
  have zo := L1.o.frozen 3
  have hgx := (unhide HGX) _ L1.be
  go_upto_region 42 with fail
  clear L1 zo n0 n1 n2 n3 n4 n5 o0 o1 o2 o3 a0 a1 a2 a3 b0 b1 b2 b3 hgx
  generalize V1.setCell ⟨w.heap.size + 2, 3, none⟩ (.bool (x != 17)) = V6 at *
  obtain ⟨o0, o1, o2, o3⟩ := Kn.four_co L6.o
  obtain ⟨c0, c1, c2, c3⟩ := Kn.four_co L6.r
  obtain ⟨z0, z1, z2, z3⟩ := Kn.four_fr L6.r
  have O2 := hide (Kn.put4_own L6.r (.int .i64 0) (.int .i64 1) (.int .i64 1) (.bool (x != 17)))
  have B2 := hide (Kn.put4_below L6.be (Nat.le_refl _) (.int .i64 0) (.int .i64 1) (.int .i64 1) (.bool (x != 17)))
  clear L6
  go_wp2_with fail
  try rw [show (((V6.setCell ⟨w.heap.size, 0, none⟩ (.int .i64 0)).setCell ⟨w.heap.size, 1, none⟩ (.int .i64 1)).setCell ⟨w.heap.size, 2, none⟩ (.int .i64 1)).setCell ⟨w.heap.size, 3, none⟩ (.bool (x != 17)) = Kn.put4 V6 w.heap.size (.int .i64 0) (.int .i64 1) (.int .i64 1) (.bool (x != 17)) from rfl]
  have q := Kn.four_co (unhide O2)
  have BF := unhide B2
  clear O2 B2 c0 c1 c2 c3 z0 z1 z2 z3
  generalize Kn.put4 V6 w.heap.size (.int .i64 0) (.int .i64 1) (.int .i64 1) (.bool (x != 17)) = WW at *
  obtain ⟨q0, q1, q2, q3⟩ := q
  refine bodyPost_ret (v := .agg #[.int .i64 0, .int .i64 1, .int .i64 1, .bool (x != 17)]) (by simp [results, Try.results22, go_sem, q0, q1, q2, q3]; try rfl) rfl ?_
  exact ⟨rfl, BF⟩
set_option maxRecDepth 100000 in
set_option maxHeartbeats 4000000 in
theorem l11Node_8a (bk len i : Nat) (c : Co) (vg vn vc : Nat) (A : Kn) (w : World) (ho : c.op = 8) (hi : i < len) (hl : len ≤ 900)
    (g0 : w.cell? ⟨bk, i * 6, none⟩ = some (.int .i64 c.op)) (g1 : w.cell? ⟨bk, i * 6 + 1, none⟩ = some (.int .i64 c.a)) (g2 : w.cell? ⟨bk, i * 6 + 2, none⟩ = some (.int .i64 c.b)) (g3 : w.cell? ⟨bk, i * 6 + 3, none⟩ = some (.int .i64 c.c)) (g4 : w.cell? ⟨bk, i * 6 + 4, none⟩ = some (.int .i64 c.num)) (g5 : w.cell? ⟨bk, i * 6 + 5, none⟩ = some (.slice (some ⟨vg, 0, none⟩) vn vc)) (hbk : bk < w.heap.size) (HA : ∀ V, Below w.heap.size w V → Calls Try.prog 22 #[.slice (some ⟨bk, 0, none⟩) len len, .int .i64 c.a] V fun e w' => e = .returned (Kn.ans A) ∧ Below V.heap.size V w') (hA : Kn.Fit A) (hz : A.hi = 0) :
    Calls Try.prog 22 #[.slice (some ⟨bk, 0, none⟩) len len, .int .i64 (i : Int)] w fun e w' => e = .returned (Kn.ans (Kn.node c [A])) ∧ Below w.heap.size w w' := by
  have FIN := hide (Kn.ans_eq ((Kn.node_8 (c := c) (A := A) hA ho).trans (if_pos hz)))
  rw [unhide FIN]
  have HT : Hid (∀ V, Calls Try.prog 42 #[.agg #[.int .i64 0, .int .i64 A.lo, .int .i64 A.hi, .bool A.fa]] V fun e w' => e = .returned (.agg #[.int .i64 0, .int .i64 0, .int .i64 0, .bool A.fa]) ∧ Below V.heap.size V w') := hide (fun V => by rw [hz]; exact l11Each_0 A.lo A.fa V)
  clear hz
  have FAA := hA
  unfold Kn.ans at HA
  have HHA := hide HA
  clear HA
  rw [ho] at g0
  have hiI : (i : Int) < (len : Int) := by omega
  have hi0 : (0 : Int) ≤ (i : Int) := by omega
  have HK := hide (fun V => l6Kids_8 V)
  have HL := hide (Kn.Led.first w [.int .i64 8, .int .i64 c.a, .int .i64 c.b, .int .i64 c.c, .int .i64 c.num, .slice (some ⟨vg, 0, none⟩) vn vc] rfl)
  generalize c.a = ca at *
  generalize c.b = cb at *
  generalize c.c = cc at *
  generalize c.num = cm at *
  obtain ⟨W, hW⟩ : ∃ W, W = ((((w.alloc (.cells #[.int .i64 0, .int .i64 0, .int .i64 0, .bool false] 25)).alloc (.cells #[.int .i64 8, .int .i64 ca, .int .i64 cb, .int .i64 cc, .int .i64 cm, .slice (some ⟨vg, 0, none⟩) vn vc] 48)).alloc (.cells #[.int .i64 0, .int .i64 1, .int .i64 1, .bool false] 25)).alloc (.cells #[.int .i64 0, .int .i64 0, .int .i64 0, .bool false] 25)).alloc (.cells #[.int .i64 0, .int .i64 0, .int .i64 0, .bool false] 25) := ⟨_, rfl⟩
  have L0 : Kn.Led w W [.int .i64 8, .int .i64 ca, .int .i64 cb, .int .i64 cc, .int .i64 cm, .slice (some ⟨vg, 0, none⟩) vn vc] [.int .i64 0, .int .i64 1, .int .i64 1, .bool false] [.int .i64 0, .int .i64 0, .int .i64 0, .bool false] [.int .i64 0, .int .i64 0, .int .i64 0, .bool false] := by rw [hW]; exact unhide HL
  clear HL
  go_enter Try.func22, Try.ntmps22
  go_wp2_with fail
  refine ((unhide HK) _).mono ?_
  rintro e wk ⟨rfl, hwk⟩
  subst wk
  go_upto_region 6 with fail
  try simp only [Nat.add_assoc, Nat.reduceAdd]
  rw [← hW]
  clear hW HK g0 g1 g2 g3 g4 g5
  obtain ⟨n0, n1, n2, n3, n4, n5⟩ := Kn.six_co L0.n
  go_wp2_with fail
  refine ((unhide HHA) _ L0.be).mono ?_
  rintro e w1 ⟨rfl, hb1⟩
  have M1 := L0.call hb1
  clear hb1 L0 n0 n1 n2 n3 n4 n5
  obtain ⟨c0, c1, c2, c3⟩ := Kn.four_co M1.a
  obtain ⟨z0, z1, z2, z3⟩ := Kn.four_fr M1.a
  have L1' := M1.setA (.int .i64 0) (.int .i64 A.lo) (.int .i64 A.hi) (.bool A.fa)
  obtain ⟨n0, n1, n2, n3, n4, n5⟩ := Kn.six_co M1.n
  go_upto_region 8 with fail
  rw [show (((w1.setCell ⟨w.heap.size + 3, 0, none⟩ (.int .i64 0)).setCell ⟨w.heap.size + 3, 1, none⟩ (.int .i64 A.lo)).setCell ⟨w.heap.size + 3, 2, none⟩ (.int .i64 A.hi)).setCell ⟨w.heap.size + 3, 3, none⟩ (.bool A.fa) = Kn.put4 w1 (w.heap.size + 3) (.int .i64 0) (.int .i64 A.lo) (.int .i64 A.hi) (.bool A.fa) from rfl]
  clear c0 c1 c2 c3 z0 z1 z2 z3 n0 n1 n2 n3 n4 n5 M1
  have L1 := L1'
  clear L1'
  generalize Kn.put4 w1 (w.heap.size + 3) (.int .i64 0) (.int .i64 A.lo) (.int .i64 A.hi) (.bool A.fa) = V1 at *
  obtain ⟨al, ah, af, ak⟩ := A
  simp only at *
  obtain ⟨n0, n1, n2, n3, n4, n5⟩ := Kn.six_co L1.n
  obtain ⟨o0, o1, o2, o3⟩ := Kn.four_co L1.o
  obtain ⟨a0, a1, a2, a3⟩ := Kn.four_co L1.a
  obtain ⟨b0, b1, b2, b3⟩ := Kn.four_co L1.b
  go_wp2_with fail
  refine ((unhide HT) _).mono ?_
  rintro e w5 ⟨rfl, hw5⟩
  have L5 := L1.call hw5
  clear hw5 L1 n0 n1 n2 n3 n4 n5 o0 o1 o2 o3 a0 a1 a2 a3 b0 b1 b2 b3
  obtain ⟨c0, c1, c2, c3⟩ := Kn.four_co L5.r
  obtain ⟨z0, z1, z2, z3⟩ := Kn.four_fr L5.r
  have O2 := hide (Kn.put4_own L5.r (.int .i64 0) (.int .i64 0) (.int .i64 0) (.bool af))
  have B2 := hide (Kn.put4_below L5.be (Nat.le_refl _) (.int .i64 0) (.int .i64 0) (.int .i64 0) (.bool af))
  clear L5
  go_wp2_with fail
  try rw [show (((w5.setCell ⟨w.heap.size, 0, none⟩ (.int .i64 0)).setCell ⟨w.heap.size, 1, none⟩ (.int .i64 0)).setCell ⟨w.heap.size, 2, none⟩ (.int .i64 0)).setCell ⟨w.heap.size, 3, none⟩ (.bool af) = Kn.put4 w5 w.heap.size (.int .i64 0) (.int .i64 0) (.int .i64 0) (.bool af) from rfl]
  have q := Kn.four_co (unhide O2)
  have BF := unhide B2
  clear O2 B2 c0 c1 c2 c3 z0 z1 z2 z3
  generalize Kn.put4 w5 w.heap.size (.int .i64 0) (.int .i64 0) (.int .i64 0) (.bool af) = WW at *
  obtain ⟨q0, q1, q2, q3⟩ := q
  refine bodyPost_ret (v := .agg #[.int .i64 0, .int .i64 0, .int .i64 0, .bool af]) (by simp [results, Try.results22, go_sem, q0, q1, q2, q3]; try rfl) rfl ?_
  exact ⟨rfl, BF⟩
set_option maxRecDepth 100000 in
set_option maxHeartbeats 4000000 in
theorem l11Node_8b (bk len i : Nat) (c : Co) (vg vn vc : Nat) (A : Kn) (w : World) (ho : c.op = 8) (hi : i < len) (hl : len ≤ 900)
    (g0 : w.cell? ⟨bk, i * 6, none⟩ = some (.int .i64 c.op)) (g1 : w.cell? ⟨bk, i * 6 + 1, none⟩ = some (.int .i64 c.a)) (g2 : w.cell? ⟨bk, i * 6 + 2, none⟩ = some (.int .i64 c.b)) (g3 : w.cell? ⟨bk, i * 6 + 3, none⟩ = some (.int .i64 c.c)) (g4 : w.cell? ⟨bk, i * 6 + 4, none⟩ = some (.int .i64 c.num)) (g5 : w.cell? ⟨bk, i * 6 + 5, none⟩ = some (.slice (some ⟨vg, 0, none⟩) vn vc)) (hbk : bk < w.heap.size) (HA : ∀ V, Below w.heap.size w V → Calls Try.prog 22 #[.slice (some ⟨bk, 0, none⟩) len len, .int .i64 c.a] V fun e w' => e = .returned (Kn.ans A) ∧ Below V.heap.size V w') (hA : Kn.Fit A) (hz : (A.hi == 0) = false) :
    Calls Try.prog 22 #[.slice (some ⟨bk, 0, none⟩) len len, .int .i64 (i : Int)] w fun e w' => e = .returned (Kn.ans (Kn.node c [A])) ∧ Below w.heap.size w w' := by
  have FIN := hide (Kn.ans_eq ((Kn.node_8 (c := c) (A := A) hA ho).trans (if_neg (by simpa using hz))))
  rw [unhide FIN]
  have HT := hide (fun V => l11Each_1 A.lo A.hi A.fa V hz)
  clear hz
  have FAA := hA
  unfold Kn.ans at HA
  have HHA := hide HA
  clear HA
  rw [ho] at g0
  have hiI : (i : Int) < (len : Int) := by omega
  have hi0 : (0 : Int) ≤ (i : Int) := by omega
  have HK := hide (fun V => l6Kids_8 V)
  have HL := hide (Kn.Led.first w [.int .i64 8, .int .i64 c.a, .int .i64 c.b, .int .i64 c.c, .int .i64 c.num, .slice (some ⟨vg, 0, none⟩) vn vc] rfl)
  generalize c.a = ca at *
  generalize c.b = cb at *
  generalize c.c = cc at *
  generalize c.num = cm at *
  obtain ⟨W, hW⟩ : ∃ W, W = ((((w.alloc (.cells #[.int .i64 0, .int .i64 0, .int .i64 0, .bool false] 25)).alloc (.cells #[.int .i64 8, .int .i64 ca, .int .i64 cb, .int .i64 cc, .int .i64 cm, .slice (some ⟨vg, 0, none⟩) vn vc] 48)).alloc (.cells #[.int .i64 0, .int .i64 1, .int .i64 1, .bool false] 25)).alloc (.cells #[.int .i64 0, .int .i64 0, .int .i64 0, .bool false] 25)).alloc (.cells #[.int .i64 0, .int .i64 0, .int .i64 0, .bool false] 25) := ⟨_, rfl⟩
  have L0 : Kn.Led w W [.int .i64 8, .int .i64 ca, .int .i64 cb, .int .i64 cc, .int .i64 cm, .slice (some ⟨vg, 0, none⟩) vn vc] [.int .i64 0, .int .i64 1, .int .i64 1, .bool false] [.int .i64 0, .int .i64 0, .int .i64 0, .bool false] [.int .i64 0, .int .i64 0, .int .i64 0, .bool false] := by rw [hW]; exact unhide HL
  clear HL
  go_enter Try.func22, Try.ntmps22
  go_wp2_with fail
  refine ((unhide HK) _).mono ?_
  rintro e wk ⟨rfl, hwk⟩
  subst wk
  go_upto_region 6 with fail
  try simp only [Nat.add_assoc, Nat.reduceAdd]
  rw [← hW]
  clear hW HK g0 g1 g2 g3 g4 g5
  obtain ⟨n0, n1, n2, n3, n4, n5⟩ := Kn.six_co L0.n
  go_wp2_with fail
  refine ((unhide HHA) _ L0.be).mono ?_
  rintro e w1 ⟨rfl, hb1⟩
  have M1 := L0.call hb1
  clear hb1 L0 n0 n1 n2 n3 n4 n5
  obtain ⟨c0, c1, c2, c3⟩ := Kn.four_co M1.a
  obtain ⟨z0, z1, z2, z3⟩ := Kn.four_fr M1.a
  have L1' := M1.setA (.int .i64 0) (.int .i64 A.lo) (.int .i64 A.hi) (.bool A.fa)
  obtain ⟨n0, n1, n2, n3, n4, n5⟩ := Kn.six_co M1.n
  go_upto_region 8 with fail
  rw [show (((w1.setCell ⟨w.heap.size + 3, 0, none⟩ (.int .i64 0)).setCell ⟨w.heap.size + 3, 1, none⟩ (.int .i64 A.lo)).setCell ⟨w.heap.size + 3, 2, none⟩ (.int .i64 A.hi)).setCell ⟨w.heap.size + 3, 3, none⟩ (.bool A.fa) = Kn.put4 w1 (w.heap.size + 3) (.int .i64 0) (.int .i64 A.lo) (.int .i64 A.hi) (.bool A.fa) from rfl]
  clear c0 c1 c2 c3 z0 z1 z2 z3 n0 n1 n2 n3 n4 n5 M1
  have L1 := L1'
  clear L1'
  generalize Kn.put4 w1 (w.heap.size + 3) (.int .i64 0) (.int .i64 A.lo) (.int .i64 A.hi) (.bool A.fa) = V1 at *
  obtain ⟨al, ah, af, ak⟩ := A
  simp only at *
  obtain ⟨n0, n1, n2, n3, n4, n5⟩ := Kn.six_co L1.n
  obtain ⟨o0, o1, o2, o3⟩ := Kn.four_co L1.o
  obtain ⟨a0, a1, a2, a3⟩ := Kn.four_co L1.a
  obtain ⟨b0, b1, b2, b3⟩ := Kn.four_co L1.b
  go_wp2_with fail
  refine ((unhide HT) _).mono ?_
  rintro e w5 ⟨rfl, hw5⟩
  have L5 := L1.call hw5
  clear hw5 L1 n0 n1 n2 n3 n4 n5 o0 o1 o2 o3 a0 a1 a2 a3 b0 b1 b2 b3
  obtain ⟨c0, c1, c2, c3⟩ := Kn.four_co L5.r
  obtain ⟨z0, z1, z2, z3⟩ := Kn.four_fr L5.r
  have O2 := hide (Kn.put4_own L5.r (.int .i64 0) (.int .i64 0) (.int .i64 1000) (.bool true))
  have B2 := hide (Kn.put4_below L5.be (Nat.le_refl _) (.int .i64 0) (.int .i64 0) (.int .i64 1000) (.bool true))
  clear L5
  go_wp2_with fail
  try rw [show (((w5.setCell ⟨w.heap.size, 0, none⟩ (.int .i64 0)).setCell ⟨w.heap.size, 1, none⟩ (.int .i64 0)).setCell ⟨w.heap.size, 2, none⟩ (.int .i64 1000)).setCell ⟨w.heap.size, 3, none⟩ (.bool true) = Kn.put4 w5 w.heap.size (.int .i64 0) (.int .i64 0) (.int .i64 1000) (.bool true) from rfl]
  have q := Kn.four_co (unhide O2)
  have BF := unhide B2
  clear O2 B2 c0 c1 c2 c3 z0 z1 z2 z3
  generalize Kn.put4 w5 w.heap.size (.int .i64 0) (.int .i64 0) (.int .i64 1000) (.bool true) = WW at *
  obtain ⟨q0, q1, q2, q3⟩ := q
  refine bodyPost_ret (v := .agg #[.int .i64 0, .int .i64 0, .int .i64 1000, .bool true]) (by simp [results, Try.results22, go_sem, q0, q1, q2, q3]; try rfl) rfl ?_
  exact ⟨rfl, BF⟩
set_option maxRecDepth 100000 in
set_option maxHeartbeats 4000000 in
theorem l11Node_9a (bk len i : Nat) (c : Co) (vg vn vc : Nat) (A : Kn) (w : World) (ho : c.op = 9) (hi : i < len) (hl : len ≤ 900)
    (g0 : w.cell? ⟨bk, i * 6, none⟩ = some (.int .i64 c.op)) (g1 : w.cell? ⟨bk, i * 6 + 1, none⟩ = some (.int .i64 c.a)) (g2 : w.cell? ⟨bk, i * 6 + 2, none⟩ = some (.int .i64 c.b)) (g3 : w.cell? ⟨bk, i * 6 + 3, none⟩ = some (.int .i64 c.c)) (g4 : w.cell? ⟨bk, i * 6 + 4, none⟩ = some (.int .i64 c.num)) (g5 : w.cell? ⟨bk, i * 6 + 5, none⟩ = some (.slice (some ⟨vg, 0, none⟩) vn vc)) (hbk : bk < w.heap.size) (HA : ∀ V, Below w.heap.size w V → Calls Try.prog 22 #[.slice (some ⟨bk, 0, none⟩) len len, .int .i64 c.a] V fun e w' => e = .returned (Kn.ans A) ∧ Below V.heap.size V w') (hA : Kn.Fit A) (hz : A.fa = true) :
    Calls Try.prog 22 #[.slice (some ⟨bk, 0, none⟩) len len, .int .i64 (i : Int)] w fun e w' => e = .returned (Kn.ans (Kn.node c [A])) ∧ Below w.heap.size w w' := by
  have FIN := hide (Kn.ans_eq ((Kn.node_9 (c := c) (A := A) ho).trans (show _ = (0, A.hi, false) by rw [if_pos hz])))
  rw [unhide FIN]
  have HZ := hide hz
  clear hz
  have FAA := hA
  unfold Kn.ans at HA
  have HHA := hide HA
  clear HA
  rw [ho] at g0
  have hiI : (i : Int) < (len : Int) := by omega
  have hi0 : (0 : Int) ≤ (i : Int) := by omega
  have HK := hide (fun V => l6Kids_9 V)
  have HL := hide (Kn.Led.first w [.int .i64 9, .int .i64 c.a, .int .i64 c.b, .int .i64 c.c, .int .i64 c.num, .slice (some ⟨vg, 0, none⟩) vn vc] rfl)
  generalize c.a = ca at *
  generalize c.b = cb at *
  generalize c.c = cc at *
  generalize c.num = cm at *
  obtain ⟨W, hW⟩ : ∃ W, W = ((((w.alloc (.cells #[.int .i64 0, .int .i64 0, .int .i64 0, .bool false] 25)).alloc (.cells #[.int .i64 9, .int .i64 ca, .int .i64 cb, .int .i64 cc, .int .i64 cm, .slice (some ⟨vg, 0, none⟩) vn vc] 48)).alloc (.cells #[.int .i64 0, .int .i64 1, .int .i64 1, .bool false] 25)).alloc (.cells #[.int .i64 0, .int .i64 0, .int .i64 0, .bool false] 25)).alloc (.cells #[.int .i64 0, .int .i64 0, .int .i64 0, .bool false] 25) := ⟨_, rfl⟩
  have L0 : Kn.Led w W [.int .i64 9, .int .i64 ca, .int .i64 cb, .int .i64 cc, .int .i64 cm, .slice (some ⟨vg, 0, none⟩) vn vc] [.int .i64 0, .int .i64 1, .int .i64 1, .bool false] [.int .i64 0, .int .i64 0, .int .i64 0, .bool false] [.int .i64 0, .int .i64 0, .int .i64 0, .bool false] := by rw [hW]; exact unhide HL
  clear HL
  go_enter Try.func22, Try.ntmps22
  go_wp2_with fail
  refine ((unhide HK) _).mono ?_
  rintro e wk ⟨rfl, hwk⟩
  subst wk
  go_upto_region 6 with fail
  try simp only [Nat.add_assoc, Nat.reduceAdd]
  rw [← hW]
  clear hW HK g0 g1 g2 g3 g4 g5
  obtain ⟨n0, n1, n2, n3, n4, n5⟩ := Kn.six_co L0.n
  go_wp2_with fail
  refine ((unhide HHA) _ L0.be).mono ?_
  rintro e w1 ⟨rfl, hb1⟩
  have M1 := L0.call hb1
  clear hb1 L0 n0 n1 n2 n3 n4 n5
  obtain ⟨c0, c1, c2, c3⟩ := Kn.four_co M1.a
  obtain ⟨z0, z1, z2, z3⟩ := Kn.four_fr M1.a
  have L1' := M1.setA (.int .i64 0) (.int .i64 A.lo) (.int .i64 A.hi) (.bool A.fa)
  obtain ⟨n0, n1, n2, n3, n4, n5⟩ := Kn.six_co M1.n
  go_upto_region 8 with fail
  rw [show (((w1.setCell ⟨w.heap.size + 3, 0, none⟩ (.int .i64 0)).setCell ⟨w.heap.size + 3, 1, none⟩ (.int .i64 A.lo)).setCell ⟨w.heap.size + 3, 2, none⟩ (.int .i64 A.hi)).setCell ⟨w.heap.size + 3, 3, none⟩ (.bool A.fa) = Kn.put4 w1 (w.heap.size + 3) (.int .i64 0) (.int .i64 A.lo) (.int .i64 A.hi) (.bool A.fa) from rfl]
  clear c0 c1 c2 c3 z0 z1 z2 z3 n0 n1 n2 n3 n4 n5 M1
  have L1 := L1'
  clear L1'
  generalize Kn.put4 w1 (w.heap.size + 3) (.int .i64 0) (.int .i64 A.lo) (.int .i64 A.hi) (.bool A.fa) = V1 at *
  obtain ⟨al, ah, af, ak⟩ := A
  simp only at *
  have hz := unhide HZ
  try simp only at hz
  subst hz
  obtain ⟨n0, n1, n2, n3, n4, n5⟩ := Kn.six_co L1.n
  obtain ⟨o0, o1, o2, o3⟩ := Kn.four_co L1.o
  obtain ⟨a0, a1, a2, a3⟩ := Kn.four_co L1.a
  obtain ⟨b0, b1, b2, b3⟩ := Kn.four_co L1.b
  have zo1 := L1.a.frozen 1
  have L5 : Kn.Led w (V1.setCell ⟨w.heap.size + 3, 1, none⟩ (.int .i64 0)) _ _ [.int .i64 0, .int .i64 0, .int .i64 ah, .bool true] _ := ⟨L1.be.setCell (p := ⟨w.heap.size + 3, 1, none⟩) (by simp only; omega) _, L1.r.setOther _ _ (by simp only; omega), L1.n.setOther _ _ (by simp only; omega), L1.o.setOther _ _ (by simp only; omega), L1.a.set 1 _, L1.b.setOther _ _ (by simp only; omega)⟩
  go_upto_region 38 with fail
  clear L1 zo1 n0 n1 n2 n3 n4 n5 o0 o1 o2 o3 a0 a1 a2 a3 b0 b1 b2 b3
  generalize V1.setCell ⟨w.heap.size + 3, 1, none⟩ (.int .i64 0) = V5 at *
  obtain ⟨n0, n1, n2, n3, n4, n5⟩ := Kn.six_co L5.n
  obtain ⟨o0, o1, o2, o3⟩ := Kn.four_co L5.o
  obtain ⟨a0, a1, a2, a3⟩ := Kn.four_co L5.a
  obtain ⟨b0, b1, b2, b3⟩ := Kn.four_co L5.b
  have zo3 := L5.a.frozen 3
  have L6 : Kn.Led w (V5.setCell ⟨w.heap.size + 3, 3, none⟩ (.bool false)) _ _ [.int .i64 0, .int .i64 0, .int .i64 ah, .bool false] _ := ⟨L5.be.setCell (p := ⟨w.heap.size + 3, 3, none⟩) (by simp only; omega) _, L5.r.setOther _ _ (by simp only; omega), L5.n.setOther _ _ (by simp only; omega), L5.o.setOther _ _ (by simp only; omega), L5.a.set 3 _, L5.b.setOther _ _ (by simp only; omega)⟩
  go_upto_region 39 with fail
  clear L5 zo3 n0 n1 n2 n3 n4 n5 o0 o1 o2 o3 a0 a1 a2 a3 b0 b1 b2 b3
  generalize V5.setCell ⟨w.heap.size + 3, 3, none⟩ (.bool false) = V6 at *
  obtain ⟨n0, n1, n2, n3, n4, n5⟩ := Kn.six_co L6.n
  obtain ⟨o0, o1, o2, o3⟩ := Kn.four_co L6.o
  obtain ⟨a0, a1, a2, a3⟩ := Kn.four_co L6.a
  obtain ⟨b0, b1, b2, b3⟩ := Kn.four_co L6.b
  obtain ⟨c0, c1, c2, c3⟩ := Kn.four_co L6.r
  obtain ⟨z0, z1, z2, z3⟩ := Kn.four_fr L6.r
  have O2 := hide (Kn.put4_own L6.r (.int .i64 0) (.int .i64 0) (.int .i64 ah) (.bool false))
  have B2 := hide (Kn.put4_below L6.be (Nat.le_refl _) (.int .i64 0) (.int .i64 0) (.int .i64 ah) (.bool false))
  clear L6
  go_wp2_with fail
  try rw [show (((V6.setCell ⟨w.heap.size, 0, none⟩ (.int .i64 0)).setCell ⟨w.heap.size, 1, none⟩ (.int .i64 0)).setCell ⟨w.heap.size, 2, none⟩ (.int .i64 ah)).setCell ⟨w.heap.size, 3, none⟩ (.bool false) = Kn.put4 V6 w.heap.size (.int .i64 0) (.int .i64 0) (.int .i64 ah) (.bool false) from rfl]
  have q := Kn.four_co (unhide O2)
  have BF := unhide B2
  clear O2 B2 c0 c1 c2 c3 z0 z1 z2 z3
  generalize Kn.put4 V6 w.heap.size (.int .i64 0) (.int .i64 0) (.int .i64 ah) (.bool false) = WW at *
  obtain ⟨q0, q1, q2, q3⟩ := q
  refine bodyPost_ret (v := .agg #[.int .i64 0, .int .i64 0, .int .i64 ah, .bool false]) (by simp [results, Try.results22, go_sem, q0, q1, q2, q3]; try rfl) rfl ?_
  exact ⟨rfl, BF⟩
set_option maxRecDepth 100000 in
set_option maxHeartbeats 4000000 in
theorem l11Node_9b (bk len i : Nat) (c : Co) (vg vn vc : Nat) (A : Kn) (w : World) (ho : c.op = 9) (hi : i < len) (hl : len ≤ 900)
    (g0 : w.cell? ⟨bk, i * 6, none⟩ = some (.int .i64 c.op)) (g1 : w.cell? ⟨bk, i * 6 + 1, none⟩ = some (.int .i64 c.a)) (g2 : w.cell? ⟨bk, i * 6 + 2, none⟩ = some (.int .i64 c.b)) (g3 : w.cell? ⟨bk, i * 6 + 3, none⟩ = some (.int .i64 c.c)) (g4 : w.cell? ⟨bk, i * 6 + 4, none⟩ = some (.int .i64 c.num)) (g5 : w.cell? ⟨bk, i * 6 + 5, none⟩ = some (.slice (some ⟨vg, 0, none⟩) vn vc)) (hbk : bk < w.heap.size) (HA : ∀ V, Below w.heap.size w V → Calls Try.prog 22 #[.slice (some ⟨bk, 0, none⟩) len len, .int .i64 c.a] V fun e w' => e = .returned (Kn.ans A) ∧ Below V.heap.size V w') (hA : Kn.Fit A) (hz : A.fa = false) :
    Calls Try.prog 22 #[.slice (some ⟨bk, 0, none⟩) len len, .int .i64 (i : Int)] w fun e w' => e = .returned (Kn.ans (Kn.node c [A])) ∧ Below w.heap.size w w' := by
  have FIN := hide (Kn.ans_eq ((Kn.node_9 (c := c) (A := A) ho).trans (show _ = (A.lo, A.hi, false) by rw [if_neg (by rw [hz]; decide)])))
  rw [unhide FIN]
  have HZ := hide hz
  clear hz
  have FAA := hA
  unfold Kn.ans at HA
  have HHA := hide HA
  clear HA
  rw [ho] at g0
  have hiI : (i : Int) < (len : Int) := by omega
  have hi0 : (0 : Int) ≤ (i : Int) := by omega
  have HK := hide (fun V => l6Kids_9 V)
  have HL := hide (Kn.Led.first w [.int .i64 9, .int .i64 c.a, .int .i64 c.b, .int .i64 c.c, .int .i64 c.num, .slice (some ⟨vg, 0, none⟩) vn vc] rfl)
  generalize c.a = ca at *
  generalize c.b = cb at *
  generalize c.c = cc at *
  generalize c.num = cm at *
  obtain ⟨W, hW⟩ : ∃ W, W = ((((w.alloc (.cells #[.int .i64 0, .int .i64 0, .int .i64 0, .bool false] 25)).alloc (.cells #[.int .i64 9, .int .i64 ca, .int .i64 cb, .int .i64 cc, .int .i64 cm, .slice (some ⟨vg, 0, none⟩) vn vc] 48)).alloc (.cells #[.int .i64 0, .int .i64 1, .int .i64 1, .bool false] 25)).alloc (.cells #[.int .i64 0, .int .i64 0, .int .i64 0, .bool false] 25)).alloc (.cells #[.int .i64 0, .int .i64 0, .int .i64 0, .bool false] 25) := ⟨_, rfl⟩
  have L0 : Kn.Led w W [.int .i64 9, .int .i64 ca, .int .i64 cb, .int .i64 cc, .int .i64 cm, .slice (some ⟨vg, 0, none⟩) vn vc] [.int .i64 0, .int .i64 1, .int .i64 1, .bool false] [.int .i64 0, .int .i64 0, .int .i64 0, .bool false] [.int .i64 0, .int .i64 0, .int .i64 0, .bool false] := by rw [hW]; exact unhide HL
  clear HL
  go_enter Try.func22, Try.ntmps22
  go_wp2_with fail
  refine ((unhide HK) _).mono ?_
  rintro e wk ⟨rfl, hwk⟩
  subst wk
  go_upto_region 6 with fail
  try simp only [Nat.add_assoc, Nat.reduceAdd]
  rw [← hW]
  clear hW HK g0 g1 g2 g3 g4 g5
  obtain ⟨n0, n1, n2, n3, n4, n5⟩ := Kn.six_co L0.n
  go_wp2_with fail
  refine ((unhide HHA) _ L0.be).mono ?_
  rintro e w1 ⟨rfl, hb1⟩
  have M1 := L0.call hb1
  clear hb1 L0 n0 n1 n2 n3 n4 n5
  obtain ⟨c0, c1, c2, c3⟩ := Kn.four_co M1.a
  obtain ⟨z0, z1, z2, z3⟩ := Kn.four_fr M1.a
  have L1' := M1.setA (.int .i64 0) (.int .i64 A.lo) (.int .i64 A.hi) (.bool A.fa)
  obtain ⟨n0, n1, n2, n3, n4, n5⟩ := Kn.six_co M1.n
  go_upto_region 8 with fail
  rw [show (((w1.setCell ⟨w.heap.size + 3, 0, none⟩ (.int .i64 0)).setCell ⟨w.heap.size + 3, 1, none⟩ (.int .i64 A.lo)).setCell ⟨w.heap.size + 3, 2, none⟩ (.int .i64 A.hi)).setCell ⟨w.heap.size + 3, 3, none⟩ (.bool A.fa) = Kn.put4 w1 (w.heap.size + 3) (.int .i64 0) (.int .i64 A.lo) (.int .i64 A.hi) (.bool A.fa) from rfl]
  clear c0 c1 c2 c3 z0 z1 z2 z3 n0 n1 n2 n3 n4 n5 M1
  have L1 := L1'
  clear L1'
  generalize Kn.put4 w1 (w.heap.size + 3) (.int .i64 0) (.int .i64 A.lo) (.int .i64 A.hi) (.bool A.fa) = V1 at *
  obtain ⟨al, ah, af, ak⟩ := A
  simp only at *
  have hz := unhide HZ
  try simp only at hz
  subst hz
  obtain ⟨n0, n1, n2, n3, n4, n5⟩ := Kn.six_co L1.n
  obtain ⟨o0, o1, o2, o3⟩ := Kn.four_co L1.o
  obtain ⟨a0, a1, a2, a3⟩ := Kn.four_co L1.a
  obtain ⟨b0, b1, b2, b3⟩ := Kn.four_co L1.b
  have zo3 := L1.a.frozen 3
  have L6 : Kn.Led w (V1.setCell ⟨w.heap.size + 3, 3, none⟩ (.bool false)) _ _ [.int .i64 0, .int .i64 al, .int .i64 ah, .bool false] _ := ⟨L1.be.setCell (p := ⟨w.heap.size + 3, 3, none⟩) (by simp only; omega) _, L1.r.setOther _ _ (by simp only; omega), L1.n.setOther _ _ (by simp only; omega), L1.o.setOther _ _ (by simp only; omega), L1.a.set 3 _, L1.b.setOther _ _ (by simp only; omega)⟩
  go_upto_region 39 with fail
  clear L1 zo3 n0 n1 n2 n3 n4 n5 o0 o1 o2 o3 a0 a1 a2 a3 b0 b1 b2 b3
  generalize V1.setCell ⟨w.heap.size + 3, 3, none⟩ (.bool false) = V6 at *
  obtain ⟨n0, n1, n2, n3, n4, n5⟩ := Kn.six_co L6.n
  obtain ⟨o0, o1, o2, o3⟩ := Kn.four_co L6.o
  obtain ⟨a0, a1, a2, a3⟩ := Kn.four_co L6.a
  obtain ⟨b0, b1, b2, b3⟩ := Kn.four_co L6.b
  obtain ⟨c0, c1, c2, c3⟩ := Kn.four_co L6.r
  obtain ⟨z0, z1, z2, z3⟩ := Kn.four_fr L6.r
  have O2 := hide (Kn.put4_own L6.r (.int .i64 0) (.int .i64 al) (.int .i64 ah) (.bool false))
  have B2 := hide (Kn.put4_below L6.be (Nat.le_refl _) (.int .i64 0) (.int .i64 al) (.int .i64 ah) (.bool false))
  clear L6
  go_wp2_with fail
  try rw [show (((V6.setCell ⟨w.heap.size, 0, none⟩ (.int .i64 0)).setCell ⟨w.heap.size, 1, none⟩ (.int .i64 al)).setCell ⟨w.heap.size, 2, none⟩ (.int .i64 ah)).setCell ⟨w.heap.size, 3, none⟩ (.bool false) = Kn.put4 V6 w.heap.size (.int .i64 0) (.int .i64 al) (.int .i64 ah) (.bool false) from rfl]
  have q := Kn.four_co (unhide O2)
  have BF := unhide B2
  clear O2 B2 c0 c1 c2 c3 z0 z1 z2 z3
  generalize Kn.put4 V6 w.heap.size (.int .i64 0) (.int .i64 al) (.int .i64 ah) (.bool false) = WW at *
  obtain ⟨q0, q1, q2, q3⟩ := q
  refine bodyPost_ret (v := .agg #[.int .i64 0, .int .i64 al, .int .i64 ah, .bool false]) (by simp [results, Try.results22, go_sem, q0, q1, q2, q3]; try rfl) rfl ?_
  exact ⟨rfl, BF⟩
set_option maxRecDepth 100000 in
set_option maxHeartbeats 4000000 in
theorem l11Node_5a (bk len i : Nat) (c : Co) (vg vn vc : Nat) (A B : Kn) (w : World) (ho : c.op = 5) (hi : i < len) (hl : len ≤ 900)
    (g0 : w.cell? ⟨bk, i * 6, none⟩ = some (.int .i64 c.op)) (g1 : w.cell? ⟨bk, i * 6 + 1, none⟩ = some (.int .i64 c.a)) (g2 : w.cell? ⟨bk, i * 6 + 2, none⟩ = some (.int .i64 c.b)) (g3 : w.cell? ⟨bk, i * 6 + 3, none⟩ = some (.int .i64 c.c)) (g4 : w.cell? ⟨bk, i * 6 + 4, none⟩ = some (.int .i64 c.num)) (g5 : w.cell? ⟨bk, i * 6 + 5, none⟩ = some (.slice (some ⟨vg, 0, none⟩) vn vc)) (hbk : bk < w.heap.size) (HA : ∀ V, Below w.heap.size w V → Calls Try.prog 22 #[.slice (some ⟨bk, 0, none⟩) len len, .int .i64 c.a] V fun e w' => e = .returned (Kn.ans A) ∧ Below V.heap.size V w') (hA : Kn.Fit A) (HB : ∀ V, Below w.heap.size w V → Calls Try.prog 22 #[.slice (some ⟨bk, 0, none⟩) len len, .int .i64 c.b] V fun e w' => e = .returned (Kn.ans B) ∧ Below V.heap.size V w') (hB : Kn.Fit B) (h1 : 0 < A.hi) (h2 : 0 < B.lo) :
    Calls Try.prog 22 #[.slice (some ⟨bk, 0, none⟩) len len, .int .i64 (i : Int)] w fun e w' => e = .returned (Kn.ans (Kn.node c [A, B])) ∧ Below w.heap.size w w' := by
  have FIN := hide (Kn.ans_eq ((Kn.node_5 (c := c) (A := A) (B := B) hB ho).trans (by rw [if_pos ⟨h1, h2⟩])))
  rw [unhide FIN]
  have HT := hide (fun V => l11Alt_11 A.lo A.hi B.lo B.hi A.fa B.fa V h1 h2)
  clear h1 h2
  generalize Kn.gt A.hi B.hi = PY at *
  have FAA := hA
  unfold Kn.ans at HA
  have HHA := hide HA
  clear HA
  have FAB := hB
  unfold Kn.ans at HB
  have HHB := hide HB
  clear HB
  rw [ho] at g0
  have hiI : (i : Int) < (len : Int) := by omega
  have hi0 : (0 : Int) ≤ (i : Int) := by omega
  have HK := hide (fun V => l6Kids_5 V)
  have HL := hide (Kn.Led.first w [.int .i64 5, .int .i64 c.a, .int .i64 c.b, .int .i64 c.c, .int .i64 c.num, .slice (some ⟨vg, 0, none⟩) vn vc] rfl)
  generalize c.a = ca at *
  generalize c.b = cb at *
  generalize c.c = cc at *
  generalize c.num = cm at *
  obtain ⟨W, hW⟩ : ∃ W, W = ((((w.alloc (.cells #[.int .i64 0, .int .i64 0, .int .i64 0, .bool false] 25)).alloc (.cells #[.int .i64 5, .int .i64 ca, .int .i64 cb, .int .i64 cc, .int .i64 cm, .slice (some ⟨vg, 0, none⟩) vn vc] 48)).alloc (.cells #[.int .i64 0, .int .i64 1, .int .i64 1, .bool false] 25)).alloc (.cells #[.int .i64 0, .int .i64 0, .int .i64 0, .bool false] 25)).alloc (.cells #[.int .i64 0, .int .i64 0, .int .i64 0, .bool false] 25) := ⟨_, rfl⟩
  have L0 : Kn.Led w W [.int .i64 5, .int .i64 ca, .int .i64 cb, .int .i64 cc, .int .i64 cm, .slice (some ⟨vg, 0, none⟩) vn vc] [.int .i64 0, .int .i64 1, .int .i64 1, .bool false] [.int .i64 0, .int .i64 0, .int .i64 0, .bool false] [.int .i64 0, .int .i64 0, .int .i64 0, .bool false] := by rw [hW]; exact unhide HL
  clear HL
  go_enter Try.func22, Try.ntmps22
  go_wp2_with fail
  refine ((unhide HK) _).mono ?_
  rintro e wk ⟨rfl, hwk⟩
  subst wk
  go_upto_region 6 with fail
  try simp only [Nat.add_assoc, Nat.reduceAdd]
  rw [← hW]
  clear hW HK g0 g1 g2 g3 g4 g5
  obtain ⟨n0, n1, n2, n3, n4, n5⟩ := Kn.six_co L0.n
  go_wp2_with fail
  refine ((unhide HHA) _ L0.be).mono ?_
  rintro e w1 ⟨rfl, hb1⟩
  have M1 := L0.call hb1
  clear hb1 L0 n0 n1 n2 n3 n4 n5
  obtain ⟨c0, c1, c2, c3⟩ := Kn.four_co M1.a
  obtain ⟨z0, z1, z2, z3⟩ := Kn.four_fr M1.a
  have L1' := M1.setA (.int .i64 0) (.int .i64 A.lo) (.int .i64 A.hi) (.bool A.fa)
  obtain ⟨n0, n1, n2, n3, n4, n5⟩ := Kn.six_co M1.n
  go_upto_region 8 with fail
  rw [show (((w1.setCell ⟨w.heap.size + 3, 0, none⟩ (.int .i64 0)).setCell ⟨w.heap.size + 3, 1, none⟩ (.int .i64 A.lo)).setCell ⟨w.heap.size + 3, 2, none⟩ (.int .i64 A.hi)).setCell ⟨w.heap.size + 3, 3, none⟩ (.bool A.fa) = Kn.put4 w1 (w.heap.size + 3) (.int .i64 0) (.int .i64 A.lo) (.int .i64 A.hi) (.bool A.fa) from rfl]
  clear c0 c1 c2 c3 z0 z1 z2 z3 n0 n1 n2 n3 n4 n5 M1
  have L1 := L1'
  clear L1'
  generalize Kn.put4 w1 (w.heap.size + 3) (.int .i64 0) (.int .i64 A.lo) (.int .i64 A.hi) (.bool A.fa) = V1 at *
  obtain ⟨n0, n1, n2, n3, n4, n5⟩ := Kn.six_co L1.n
  go_wp2_with fail
  refine ((unhide HHB) _ L1.be).mono ?_
  rintro e w2 ⟨rfl, hb2⟩
  have M2 := L1.call hb2
  clear hb2 L1 n0 n1 n2 n3 n4 n5
  obtain ⟨c0, c1, c2, c3⟩ := Kn.four_co M2.b
  obtain ⟨z0, z1, z2, z3⟩ := Kn.four_fr M2.b
  have L2' := M2.setB (.int .i64 0) (.int .i64 B.lo) (.int .i64 B.hi) (.bool B.fa)
  obtain ⟨n0, n1, n2, n3, n4, n5⟩ := Kn.six_co M2.n
  go_upto_region 10 with fail
  rw [show (((w2.setCell ⟨w.heap.size + 4, 0, none⟩ (.int .i64 0)).setCell ⟨w.heap.size + 4, 1, none⟩ (.int .i64 B.lo)).setCell ⟨w.heap.size + 4, 2, none⟩ (.int .i64 B.hi)).setCell ⟨w.heap.size + 4, 3, none⟩ (.bool B.fa) = Kn.put4 w2 (w.heap.size + 4) (.int .i64 0) (.int .i64 B.lo) (.int .i64 B.hi) (.bool B.fa) from rfl]
  clear c0 c1 c2 c3 z0 z1 z2 z3 n0 n1 n2 n3 n4 n5 M2
  have L2 := L2'
  clear L2'
  generalize Kn.put4 w2 (w.heap.size + 4) (.int .i64 0) (.int .i64 B.lo) (.int .i64 B.hi) (.bool B.fa) = V2 at *
  obtain ⟨al, ah, af, ak⟩ := A
  simp only at *
  obtain ⟨bl, bh, bf, bk⟩ := B
  simp only at *
  obtain ⟨n0, n1, n2, n3, n4, n5⟩ := Kn.six_co L2.n
  obtain ⟨o0, o1, o2, o3⟩ := Kn.four_co L2.o
  obtain ⟨a0, a1, a2, a3⟩ := Kn.four_co L2.a
  obtain ⟨b0, b1, b2, b3⟩ := Kn.four_co L2.b
  go_wp2_with fail
  refine ((unhide HT) _).mono ?_
  rintro e w5 ⟨rfl, hw5⟩
  have L5 := L2.call hw5
  clear hw5 L2 n0 n1 n2 n3 n4 n5 o0 o1 o2 o3 a0 a1 a2 a3 b0 b1 b2 b3
  obtain ⟨c0, c1, c2, c3⟩ := Kn.four_co L5.r
  obtain ⟨z0, z1, z2, z3⟩ := Kn.four_fr L5.r
  have O2 := hide (Kn.put4_own L5.r (.int .i64 0) (.int .i64 1) (.int .i64 PY) (.bool bf))
  have B2 := hide (Kn.put4_below L5.be (Nat.le_refl _) (.int .i64 0) (.int .i64 1) (.int .i64 PY) (.bool bf))
  clear L5
  go_wp2_with fail
  try rw [show (((w5.setCell ⟨w.heap.size, 0, none⟩ (.int .i64 0)).setCell ⟨w.heap.size, 1, none⟩ (.int .i64 1)).setCell ⟨w.heap.size, 2, none⟩ (.int .i64 PY)).setCell ⟨w.heap.size, 3, none⟩ (.bool bf) = Kn.put4 w5 w.heap.size (.int .i64 0) (.int .i64 1) (.int .i64 PY) (.bool bf) from rfl]
  have q := Kn.four_co (unhide O2)
  have BF := unhide B2
  clear O2 B2 c0 c1 c2 c3 z0 z1 z2 z3
  generalize Kn.put4 w5 w.heap.size (.int .i64 0) (.int .i64 1) (.int .i64 PY) (.bool bf) = WW at *
  obtain ⟨q0, q1, q2, q3⟩ := q
  refine bodyPost_ret (v := .agg #[.int .i64 0, .int .i64 1, .int .i64 PY, .bool bf]) (by simp [results, Try.results22, go_sem, q0, q1, q2, q3]; try rfl) rfl ?_
  exact ⟨rfl, BF⟩
set_option maxRecDepth 100000 in
set_option maxHeartbeats 4000000 in
theorem l11Node_5b (bk len i : Nat) (c : Co) (vg vn vc : Nat) (A B : Kn) (w : World) (ho : c.op = 5) (hi : i < len) (hl : len ≤ 900)
    (g0 : w.cell? ⟨bk, i * 6, none⟩ = some (.int .i64 c.op)) (g1 : w.cell? ⟨bk, i * 6 + 1, none⟩ = some (.int .i64 c.a)) (g2 : w.cell? ⟨bk, i * 6 + 2, none⟩ = some (.int .i64 c.b)) (g3 : w.cell? ⟨bk, i * 6 + 3, none⟩ = some (.int .i64 c.c)) (g4 : w.cell? ⟨bk, i * 6 + 4, none⟩ = some (.int .i64 c.num)) (g5 : w.cell? ⟨bk, i * 6 + 5, none⟩ = some (.slice (some ⟨vg, 0, none⟩) vn vc)) (hbk : bk < w.heap.size) (HA : ∀ V, Below w.heap.size w V → Calls Try.prog 22 #[.slice (some ⟨bk, 0, none⟩) len len, .int .i64 c.a] V fun e w' => e = .returned (Kn.ans A) ∧ Below V.heap.size V w') (hA : Kn.Fit A) (HB : ∀ V, Below w.heap.size w V → Calls Try.prog 22 #[.slice (some ⟨bk, 0, none⟩) len len, .int .i64 c.b] V fun e w' => e = .returned (Kn.ans B) ∧ Below V.heap.size V w') (hB : Kn.Fit B) (h1 : 0 < A.hi) (h2 : ¬ 0 < B.lo) :
    Calls Try.prog 22 #[.slice (some ⟨bk, 0, none⟩) len len, .int .i64 (i : Int)] w fun e w' => e = .returned (Kn.ans (Kn.node c [A, B])) ∧ Below w.heap.size w w' := by
  have FIN := hide (Kn.ans_eq ((Kn.node_5 (c := c) (A := A) (B := B) hB ho).trans (by rw [if_neg (fun h => h2 h.2)])))
  rw [unhide FIN]
  have HT := hide (fun V => l11Alt_10 A.lo A.hi B.lo B.hi A.fa B.fa V h1 h2)
  clear h1 h2
  generalize Kn.gt A.hi B.hi = PY at *
  have FAA := hA
  unfold Kn.ans at HA
  have HHA := hide HA
  clear HA
  have FAB := hB
  unfold Kn.ans at HB
  have HHB := hide HB
  clear HB
  rw [ho] at g0
  have hiI : (i : Int) < (len : Int) := by omega
  have hi0 : (0 : Int) ≤ (i : Int) := by omega
  have HK := hide (fun V => l6Kids_5 V)
  have HL := hide (Kn.Led.first w [.int .i64 5, .int .i64 c.a, .int .i64 c.b, .int .i64 c.c, .int .i64 c.num, .slice (some ⟨vg, 0, none⟩) vn vc] rfl)
  generalize c.a = ca at *
  generalize c.b = cb at *
  generalize c.c = cc at *
  generalize c.num = cm at *
  obtain ⟨W, hW⟩ : ∃ W, W = ((((w.alloc (.cells #[.int .i64 0, .int .i64 0, .int .i64 0, .bool false] 25)).alloc (.cells #[.int .i64 5, .int .i64 ca, .int .i64 cb, .int .i64 cc, .int .i64 cm, .slice (some ⟨vg, 0, none⟩) vn vc] 48)).alloc (.cells #[.int .i64 0, .int .i64 1, .int .i64 1, .bool false] 25)).alloc (.cells #[.int .i64 0, .int .i64 0, .int .i64 0, .bool false] 25)).alloc (.cells #[.int .i64 0, .int .i64 0, .int .i64 0, .bool false] 25) := ⟨_, rfl⟩
  have L0 : Kn.Led w W [.int .i64 5, .int .i64 ca, .int .i64 cb, .int .i64 cc, .int .i64 cm, .slice (some ⟨vg, 0, none⟩) vn vc] [.int .i64 0, .int .i64 1, .int .i64 1, .bool false] [.int .i64 0, .int .i64 0, .int .i64 0, .bool false] [.int .i64 0, .int .i64 0, .int .i64 0, .bool false] := by rw [hW]; exact unhide HL
  clear HL
  go_enter Try.func22, Try.ntmps22
  go_wp2_with fail
  refine ((unhide HK) _).mono ?_
  rintro e wk ⟨rfl, hwk⟩
  subst wk
  go_upto_region 6 with fail
  try simp only [Nat.add_assoc, Nat.reduceAdd]
  rw [← hW]
  clear hW HK g0 g1 g2 g3 g4 g5
  obtain ⟨n0, n1, n2, n3, n4, n5⟩ := Kn.six_co L0.n
  go_wp2_with fail
  refine ((unhide HHA) _ L0.be).mono ?_
  rintro e w1 ⟨rfl, hb1⟩
  have M1 := L0.call hb1
  clear hb1 L0 n0 n1 n2 n3 n4 n5
  obtain ⟨c0, c1, c2, c3⟩ := Kn.four_co M1.a
  obtain ⟨z0, z1, z2, z3⟩ := Kn.four_fr M1.a
  have L1' := M1.setA (.int .i64 0) (.int .i64 A.lo) (.int .i64 A.hi) (.bool A.fa)
  obtain ⟨n0, n1, n2, n3, n4, n5⟩ := Kn.six_co M1.n
  go_upto_region 8 with fail
  rw [show (((w1.setCell ⟨w.heap.size + 3, 0, none⟩ (.int .i64 0)).setCell ⟨w.heap.size + 3, 1, none⟩ (.int .i64 A.lo)).setCell ⟨w.heap.size + 3, 2, none⟩ (.int .i64 A.hi)).setCell ⟨w.heap.size + 3, 3, none⟩ (.bool A.fa) = Kn.put4 w1 (w.heap.size + 3) (.int .i64 0) (.int .i64 A.lo) (.int .i64 A.hi) (.bool A.fa) from rfl]
  clear c0 c1 c2 c3 z0 z1 z2 z3 n0 n1 n2 n3 n4 n5 M1
  have L1 := L1'
  clear L1'
  generalize Kn.put4 w1 (w.heap.size + 3) (.int .i64 0) (.int .i64 A.lo) (.int .i64 A.hi) (.bool A.fa) = V1 at *
  obtain ⟨n0, n1, n2, n3, n4, n5⟩ := Kn.six_co L1.n
  go_wp2_with fail
  refine ((unhide HHB) _ L1.be).mono ?_
  rintro e w2 ⟨rfl, hb2⟩
  have M2 := L1.call hb2
  clear hb2 L1 n0 n1 n2 n3 n4 n5
  obtain ⟨c0, c1, c2, c3⟩ := Kn.four_co M2.b
  obtain ⟨z0, z1, z2, z3⟩ := Kn.four_fr M2.b
  have L2' := M2.setB (.int .i64 0) (.int .i64 B.lo) (.int .i64 B.hi) (.bool B.fa)
  obtain ⟨n0, n1, n2, n3, n4, n5⟩ := Kn.six_co M2.n
  go_upto_region 10 with fail
  rw [show (((w2.setCell ⟨w.heap.size + 4, 0, none⟩ (.int .i64 0)).setCell ⟨w.heap.size + 4, 1, none⟩ (.int .i64 B.lo)).setCell ⟨w.heap.size + 4, 2, none⟩ (.int .i64 B.hi)).setCell ⟨w.heap.size + 4, 3, none⟩ (.bool B.fa) = Kn.put4 w2 (w.heap.size + 4) (.int .i64 0) (.int .i64 B.lo) (.int .i64 B.hi) (.bool B.fa) from rfl]
  clear c0 c1 c2 c3 z0 z1 z2 z3 n0 n1 n2 n3 n4 n5 M2
  have L2 := L2'
  clear L2'
  generalize Kn.put4 w2 (w.heap.size + 4) (.int .i64 0) (.int .i64 B.lo) (.int .i64 B.hi) (.bool B.fa) = V2 at *
  obtain ⟨al, ah, af, ak⟩ := A
  simp only at *
  obtain ⟨bl, bh, bf, bk⟩ := B
  simp only at *
  obtain ⟨n0, n1, n2, n3, n4, n5⟩ := Kn.six_co L2.n
  obtain ⟨o0, o1, o2, o3⟩ := Kn.four_co L2.o
  obtain ⟨a0, a1, a2, a3⟩ := Kn.four_co L2.a
  obtain ⟨b0, b1, b2, b3⟩ := Kn.four_co L2.b
  go_wp2_with fail
  refine ((unhide HT) _).mono ?_
  rintro e w5 ⟨rfl, hw5⟩
  have L5 := L2.call hw5
  clear hw5 L2 n0 n1 n2 n3 n4 n5 o0 o1 o2 o3 a0 a1 a2 a3 b0 b1 b2 b3
  obtain ⟨c0, c1, c2, c3⟩ := Kn.four_co L5.r
  obtain ⟨z0, z1, z2, z3⟩ := Kn.four_fr L5.r
  have O2 := hide (Kn.put4_own L5.r (.int .i64 0) (.int .i64 bl) (.int .i64 PY) (.bool bf))
  have B2 := hide (Kn.put4_below L5.be (Nat.le_refl _) (.int .i64 0) (.int .i64 bl) (.int .i64 PY) (.bool bf))
  clear L5
  go_wp2_with fail
  try rw [show (((w5.setCell ⟨w.heap.size, 0, none⟩ (.int .i64 0)).setCell ⟨w.heap.size, 1, none⟩ (.int .i64 bl)).setCell ⟨w.heap.size, 2, none⟩ (.int .i64 PY)).setCell ⟨w.heap.size, 3, none⟩ (.bool bf) = Kn.put4 w5 w.heap.size (.int .i64 0) (.int .i64 bl) (.int .i64 PY) (.bool bf) from rfl]
  have q := Kn.four_co (unhide O2)
  have BF := unhide B2
  clear O2 B2 c0 c1 c2 c3 z0 z1 z2 z3
  generalize Kn.put4 w5 w.heap.size (.int .i64 0) (.int .i64 bl) (.int .i64 PY) (.bool bf) = WW at *
  obtain ⟨q0, q1, q2, q3⟩ := q
  refine bodyPost_ret (v := .agg #[.int .i64 0, .int .i64 bl, .int .i64 PY, .bool bf]) (by simp [results, Try.results22, go_sem, q0, q1, q2, q3]; try rfl) rfl ?_
  exact ⟨rfl, BF⟩
set_option maxRecDepth 100000 in
set_option maxHeartbeats 4000000 in
theorem l11Node_5c (bk len i : Nat) (c : Co) (vg vn vc : Nat) (A B : Kn) (w : World) (ho : c.op = 5) (hi : i < len) (hl : len ≤ 900)
    (g0 : w.cell? ⟨bk, i * 6, none⟩ = some (.int .i64 c.op)) (g1 : w.cell? ⟨bk, i * 6 + 1, none⟩ = some (.int .i64 c.a)) (g2 : w.cell? ⟨bk, i * 6 + 2, none⟩ = some (.int .i64 c.b)) (g3 : w.cell? ⟨bk, i * 6 + 3, none⟩ = some (.int .i64 c.c)) (g4 : w.cell? ⟨bk, i * 6 + 4, none⟩ = some (.int .i64 c.num)) (g5 : w.cell? ⟨bk, i * 6 + 5, none⟩ = some (.slice (some ⟨vg, 0, none⟩) vn vc)) (hbk : bk < w.heap.size) (HA : ∀ V, Below w.heap.size w V → Calls Try.prog 22 #[.slice (some ⟨bk, 0, none⟩) len len, .int .i64 c.a] V fun e w' => e = .returned (Kn.ans A) ∧ Below V.heap.size V w') (hA : Kn.Fit A) (HB : ∀ V, Below w.heap.size w V → Calls Try.prog 22 #[.slice (some ⟨bk, 0, none⟩) len len, .int .i64 c.b] V fun e w' => e = .returned (Kn.ans B) ∧ Below V.heap.size V w') (hB : Kn.Fit B) (h1 : ¬ 0 < A.hi) :
    Calls Try.prog 22 #[.slice (some ⟨bk, 0, none⟩) len len, .int .i64 (i : Int)] w fun e w' => e = .returned (Kn.ans (Kn.node c [A, B])) ∧ Below w.heap.size w w' := by
  have FIN := hide (Kn.ans_eq ((Kn.node_5 (c := c) (A := A) (B := B) hB ho).trans (by rw [if_neg (fun h => h1 h.1)])))
  rw [unhide FIN]
  have HT := hide (fun V => l11Alt_0 A.lo A.hi B.lo B.hi A.fa B.fa V h1)
  clear h1
  generalize Kn.gt A.hi B.hi = PY at *
  have FAA := hA
  unfold Kn.ans at HA
  have HHA := hide HA
  clear HA
  have FAB := hB
  unfold Kn.ans at HB
  have HHB := hide HB
  clear HB
  rw [ho] at g0
  have hiI : (i : Int) < (len : Int) := by omega
  have hi0 : (0 : Int) ≤ (i : Int) := by omega
  have HK := hide (fun V => l6Kids_5 V)
  have HL := hide (Kn.Led.first w [.int .i64 5, .int .i64 c.a, .int .i64 c.b, .int .i64 c.c, .int .i64 c.num, .slice (some ⟨vg, 0, none⟩) vn vc] rfl)
  generalize c.a = ca at *
  generalize c.b = cb at *
  generalize c.c = cc at *
  generalize c.num = cm at *
  obtain ⟨W, hW⟩ : ∃ W, W = ((((w.alloc (.cells #[.int .i64 0, .int .i64 0, .int .i64 0, .bool false] 25)).alloc (.cells #[.int .i64 5, .int .i64 ca, .int .i64 cb, .int .i64 cc, .int .i64 cm, .slice (some ⟨vg, 0, none⟩) vn vc] 48)).alloc (.cells #[.int .i64 0, .int .i64 1, .int .i64 1, .bool false] 25)).alloc (.cells #[.int .i64 0, .int .i64 0, .int .i64 0, .bool false] 25)).alloc (.cells #[.int .i64 0, .int .i64 0, .int .i64 0, .bool false] 25) := ⟨_, rfl⟩
  have L0 : Kn.Led w W [.int .i64 5, .int .i64 ca, .int .i64 cb, .int .i64 cc, .int .i64 cm, .slice (some ⟨vg, 0, none⟩) vn vc] [.int .i64 0, .int .i64 1, .int .i64 1, .bool false] [.int .i64 0, .int .i64 0, .int .i64 0, .bool false] [.int .i64 0, .int .i64 0, .int .i64 0, .bool false] := by rw [hW]; exact unhide HL
  clear HL
  go_enter Try.func22, Try.ntmps22
  go_wp2_with fail
  refine ((unhide HK) _).mono ?_
  rintro e wk ⟨rfl, hwk⟩
  subst wk
  go_upto_region 6 with fail
  try simp only [Nat.add_assoc, Nat.reduceAdd]
  rw [← hW]
  clear hW HK g0 g1 g2 g3 g4 g5
  obtain ⟨n0, n1, n2, n3, n4, n5⟩ := Kn.six_co L0.n
  go_wp2_with fail
  refine ((unhide HHA) _ L0.be).mono ?_
  rintro e w1 ⟨rfl, hb1⟩
  have M1 := L0.call hb1
  clear hb1 L0 n0 n1 n2 n3 n4 n5
  obtain ⟨c0, c1, c2, c3⟩ := Kn.four_co M1.a
  obtain ⟨z0, z1, z2, z3⟩ := Kn.four_fr M1.a
  have L1' := M1.setA (.int .i64 0) (.int .i64 A.lo) (.int .i64 A.hi) (.bool A.fa)
  obtain ⟨n0, n1, n2, n3, n4, n5⟩ := Kn.six_co M1.n
  go_upto_region 8 with fail
  rw [show (((w1.setCell ⟨w.heap.size + 3, 0, none⟩ (.int .i64 0)).setCell ⟨w.heap.size + 3, 1, none⟩ (.int .i64 A.lo)).setCell ⟨w.heap.size + 3, 2, none⟩ (.int .i64 A.hi)).setCell ⟨w.heap.size + 3, 3, none⟩ (.bool A.fa) = Kn.put4 w1 (w.heap.size + 3) (.int .i64 0) (.int .i64 A.lo) (.int .i64 A.hi) (.bool A.fa) from rfl]
  clear c0 c1 c2 c3 z0 z1 z2 z3 n0 n1 n2 n3 n4 n5 M1
  have L1 := L1'
  clear L1'
  generalize Kn.put4 w1 (w.heap.size + 3) (.int .i64 0) (.int .i64 A.lo) (.int .i64 A.hi) (.bool A.fa) = V1 at *
  obtain ⟨n0, n1, n2, n3, n4, n5⟩ := Kn.six_co L1.n
  go_wp2_with fail
  refine ((unhide HHB) _ L1.be).mono ?_
  rintro e w2 ⟨rfl, hb2⟩
  have M2 := L1.call hb2
  clear hb2 L1 n0 n1 n2 n3 n4 n5
  obtain ⟨c0, c1, c2, c3⟩ := Kn.four_co M2.b
  obtain ⟨z0, z1, z2, z3⟩ := Kn.four_fr M2.b
  have L2' := M2.setB (.int .i64 0) (.int .i64 B.lo) (.int .i64 B.hi) (.bool B.fa)
  obtain ⟨n0, n1, n2, n3, n4, n5⟩ := Kn.six_co M2.n
  go_upto_region 10 with fail
  rw [show (((w2.setCell ⟨w.heap.size + 4, 0, none⟩ (.int .i64 0)).setCell ⟨w.heap.size + 4, 1, none⟩ (.int .i64 B.lo)).setCell ⟨w.heap.size + 4, 2, none⟩ (.int .i64 B.hi)).setCell ⟨w.heap.size + 4, 3, none⟩ (.bool B.fa) = Kn.put4 w2 (w.heap.size + 4) (.int .i64 0) (.int .i64 B.lo) (.int .i64 B.hi) (.bool B.fa) from rfl]
  clear c0 c1 c2 c3 z0 z1 z2 z3 n0 n1 n2 n3 n4 n5 M2
  have L2 := L2'
  clear L2'
  generalize Kn.put4 w2 (w.heap.size + 4) (.int .i64 0) (.int .i64 B.lo) (.int .i64 B.hi) (.bool B.fa) = V2 at *
  obtain ⟨al, ah, af, ak⟩ := A
  simp only at *
  obtain ⟨bl, bh, bf, bk⟩ := B
  simp only at *
  obtain ⟨n0, n1, n2, n3, n4, n5⟩ := Kn.six_co L2.n
  obtain ⟨o0, o1, o2, o3⟩ := Kn.four_co L2.o
  obtain ⟨a0, a1, a2, a3⟩ := Kn.four_co L2.a
  obtain ⟨b0, b1, b2, b3⟩ := Kn.four_co L2.b
  go_wp2_with fail
  refine ((unhide HT) _).mono ?_
  rintro e w5 ⟨rfl, hw5⟩
  have L5 := L2.call hw5
  clear hw5 L2 n0 n1 n2 n3 n4 n5 o0 o1 o2 o3 a0 a1 a2 a3 b0 b1 b2 b3
  obtain ⟨c0, c1, c2, c3⟩ := Kn.four_co L5.r
  obtain ⟨z0, z1, z2, z3⟩ := Kn.four_fr L5.r
  have O2 := hide (Kn.put4_own L5.r (.int .i64 0) (.int .i64 bl) (.int .i64 PY) (.bool bf))
  have B2 := hide (Kn.put4_below L5.be (Nat.le_refl _) (.int .i64 0) (.int .i64 bl) (.int .i64 PY) (.bool bf))
  clear L5
  go_wp2_with fail
  try rw [show (((w5.setCell ⟨w.heap.size, 0, none⟩ (.int .i64 0)).setCell ⟨w.heap.size, 1, none⟩ (.int .i64 bl)).setCell ⟨w.heap.size, 2, none⟩ (.int .i64 PY)).setCell ⟨w.heap.size, 3, none⟩ (.bool bf) = Kn.put4 w5 w.heap.size (.int .i64 0) (.int .i64 bl) (.int .i64 PY) (.bool bf) from rfl]
  have q := Kn.four_co (unhide O2)
  have BF := unhide B2
  clear O2 B2 c0 c1 c2 c3 z0 z1 z2 z3
  generalize Kn.put4 w5 w.heap.size (.int .i64 0) (.int .i64 bl) (.int .i64 PY) (.bool bf) = WW at *
  obtain ⟨q0, q1, q2, q3⟩ := q
  refine bodyPost_ret (v := .agg #[.int .i64 0, .int .i64 bl, .int .i64 PY, .bool bf]) (by simp [results, Try.results22, go_sem, q0, q1, q2, q3]; try rfl) rfl ?_
  exact ⟨rfl, BF⟩

end Go.Proofs.Ytkjmnkbiflkpdaa
