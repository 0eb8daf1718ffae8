/-
  spec.l11Node at leaves and products.
-/
import Derived.Test.YtkjmnkbiflkpdaaKnR
namespace Go.Proofs.Ytkjmnkbiflkpdaa
open Go.RowKit
set_option linter.unusedVariables false
set_option linter.unusedSimpArgs false

set_option maxRecDepth 100000 in
set_option maxHeartbeats 4000000 in
theorem l11Node_1 (bk len i : Nat) (c : Co) (vg vn vc : Nat) (w : World) (ho : c.op = 1) (hi : i < len) (hl : len ≤ 900)
    (g0 : w.cell? ⟨bk, i * 6, none⟩ = some (.int .i64 c.op)) (g1 : w.cell? ⟨bk, i * 6 + 1, none⟩ = some (.int .i64 c.a)) (g2 : w.cell? ⟨bk, i * 6 + 2, none⟩ = some (.int .i64 c.b)) (g3 : w.cell? ⟨bk, i * 6 + 3, none⟩ = some (.int .i64 c.c)) (g4 : w.cell? ⟨bk, i * 6 + 4, none⟩ = some (.int .i64 c.num)) (g5 : w.cell? ⟨bk, i * 6 + 5, none⟩ = some (.slice (some ⟨vg, 0, none⟩) vn vc)) (hbk : bk < w.heap.size)   :
    Calls Try.prog 22 #[.slice (some ⟨bk, 0, none⟩) len len, .int .i64 (i : Int)] w fun e w' => e = .returned (Kn.ans (Kn.node c [])) ∧ Below w.heap.size w w' := by
  have FIN := hide (Kn.ans_eq (Kn.node_leaf (c := c) (by omega)))
  rw [unhide FIN]
  rw [ho] at g0
  have hiI : (i : Int) < (len : Int) := by omega
  have hi0 : (0 : Int) ≤ (i : Int) := by omega
  have HK := hide (fun V => l6Kids_1 V)
  have HL := hide (Kn.Led.first w [.int .i64 1, .int .i64 c.a, .int .i64 c.b, .int .i64 c.c, .int .i64 c.num, .slice (some ⟨vg, 0, none⟩) vn vc] rfl)
  generalize c.a = ca at *
  generalize c.b = cb at *
  generalize c.c = cc at *
  generalize c.num = cm at *
  obtain ⟨W, hW⟩ : ∃ W, W = ((((w.alloc (.cells #[.int .i64 0, .int .i64 0, .int .i64 0, .bool false] 25)).alloc (.cells #[.int .i64 1, .int .i64 ca, .int .i64 cb, .int .i64 cc, .int .i64 cm, .slice (some ⟨vg, 0, none⟩) vn vc] 48)).alloc (.cells #[.int .i64 0, .int .i64 1, .int .i64 1, .bool false] 25)).alloc (.cells #[.int .i64 0, .int .i64 0, .int .i64 0, .bool false] 25)).alloc (.cells #[.int .i64 0, .int .i64 0, .int .i64 0, .bool false] 25) := ⟨_, rfl⟩
  have L0 : Kn.Led w W [.int .i64 1, .int .i64 ca, .int .i64 cb, .int .i64 cc, .int .i64 cm, .slice (some ⟨vg, 0, none⟩) vn vc] [.int .i64 0, .int .i64 1, .int .i64 1, .bool false] [.int .i64 0, .int .i64 0, .int .i64 0, .bool false] [.int .i64 0, .int .i64 0, .int .i64 0, .bool false] := by rw [hW]; exact unhide HL
  clear HL
  go_enter Try.func22, Try.ntmps22
  go_wp2_with fail
  refine ((unhide HK) _).mono ?_
  rintro e wk ⟨rfl, hwk⟩
  subst wk
  go_upto_region 6 with fail
  try simp only [Nat.add_assoc, Nat.reduceAdd]
  rw [← hW]
  clear hW HK g0 g1 g2 g3 g4 g5
  obtain ⟨n0, n1, n2, n3, n4, n5⟩ := Kn.six_co L0.n
  obtain ⟨o0, o1, o2, o3⟩ := Kn.four_co L0.o
  obtain ⟨a0, a1, a2, a3⟩ := Kn.four_co L0.a
  obtain ⟨b0, b1, b2, b3⟩ := Kn.four_co L0.b
  obtain ⟨c0, c1, c2, c3⟩ := Kn.four_co L0.r
  obtain ⟨z0, z1, z2, z3⟩ := Kn.four_fr L0.r
  have O2 := hide (Kn.put4_own L0.r (.int .i64 0) (.int .i64 1) (.int .i64 1) (.bool false))
  have B2 := hide (Kn.put4_below L0.be (Nat.le_refl _) (.int .i64 0) (.int .i64 1) (.int .i64 1) (.bool false))
  clear L0
  go_wp2_with fail
  try rw [show (((W.setCell ⟨w.heap.size, 0, none⟩ (.int .i64 0)).setCell ⟨w.heap.size, 1, none⟩ (.int .i64 1)).setCell ⟨w.heap.size, 2, none⟩ (.int .i64 1)).setCell ⟨w.heap.size, 3, none⟩ (.bool false) = Kn.put4 W w.heap.size (.int .i64 0) (.int .i64 1) (.int .i64 1) (.bool false) from rfl]
  have q := Kn.four_co (unhide O2)
  have BF := unhide B2
  clear O2 B2 c0 c1 c2 c3 z0 z1 z2 z3
  generalize Kn.put4 W w.heap.size (.int .i64 0) (.int .i64 1) (.int .i64 1) (.bool false) = WW at *
  obtain ⟨q0, q1, q2, q3⟩ := q
  refine bodyPost_ret (v := .agg #[.int .i64 0, .int .i64 1, .int .i64 1, .bool false]) (by simp [results, Try.results22, go_sem, q0, q1, q2, q3]; try rfl) rfl ?_
  exact ⟨rfl, BF⟩
set_option maxRecDepth 100000 in
set_option maxHeartbeats 4000000 in
theorem l11Node_2 (bk len i : Nat) (c : Co) (vg vn vc : Nat) (w : World) (ho : c.op = 2) (hi : i < len) (hl : len ≤ 900)
    (g0 : w.cell? ⟨bk, i * 6, none⟩ = some (.int .i64 c.op)) (g1 : w.cell? ⟨bk, i * 6 + 1, none⟩ = some (.int .i64 c.a)) (g2 : w.cell? ⟨bk, i * 6 + 2, none⟩ = some (.int .i64 c.b)) (g3 : w.cell? ⟨bk, i * 6 + 3, none⟩ = some (.int .i64 c.c)) (g4 : w.cell? ⟨bk, i * 6 + 4, none⟩ = some (.int .i64 c.num)) (g5 : w.cell? ⟨bk, i * 6 + 5, none⟩ = some (.slice (some ⟨vg, 0, none⟩) vn vc)) (hbk : bk < w.heap.size)   :
    Calls Try.prog 22 #[.slice (some ⟨bk, 0, none⟩) len len, .int .i64 (i : Int)] w fun e w' => e = .returned (Kn.ans (Kn.node c [])) ∧ Below w.heap.size w w' := by
  have FIN := hide (Kn.ans_eq (Kn.node_leaf (c := c) (by omega)))
  rw [unhide FIN]
  rw [ho] at g0
  have hiI : (i : Int) < (len : Int) := by omega
  have hi0 : (0 : Int) ≤ (i : Int) := by omega
  have HK := hide (fun V => l6Kids_2 V)
  have HL := hide (Kn.Led.first w [.int .i64 2, .int .i64 c.a, .int .i64 c.b, .int .i64 c.c, .int .i64 c.num, .slice (some ⟨vg, 0, none⟩) vn vc] rfl)
  generalize c.a = ca at *
  generalize c.b = cb at *
  generalize c.c = cc at *
  generalize c.num = cm at *
  obtain ⟨W, hW⟩ : ∃ W, W = ((((w.alloc (.cells #[.int .i64 0, .int .i64 0, .int .i64 0, .bool false] 25)).alloc (.cells #[.int .i64 2, .int .i64 ca, .int .i64 cb, .int .i64 cc, .int .i64 cm, .slice (some ⟨vg, 0, none⟩) vn vc] 48)).alloc (.cells #[.int .i64 0, .int .i64 1, .int .i64 1, .bool false] 25)).alloc (.cells #[.int .i64 0, .int .i64 0, .int .i64 0, .bool false] 25)).alloc (.cells #[.int .i64 0, .int .i64 0, .int .i64 0, .bool false] 25) := ⟨_, rfl⟩
  have L0 : Kn.Led w W [.int .i64 2, .int .i64 ca, .int .i64 cb, .int .i64 cc, .int .i64 cm, .slice (some ⟨vg, 0, none⟩) vn vc] [.int .i64 0, .int .i64 1, .int .i64 1, .bool false] [.int .i64 0, .int .i64 0, .int .i64 0, .bool false] [.int .i64 0, .int .i64 0, .int .i64 0, .bool false] := by rw [hW]; exact unhide HL
  clear HL
  go_enter Try.func22, Try.ntmps22
  go_wp2_with fail
  refine ((unhide HK) _).mono ?_
  rintro e wk ⟨rfl, hwk⟩
  subst wk
  go_upto_region 6 with fail
  try simp only [Nat.add_assoc, Nat.reduceAdd]
  rw [← hW]
  clear hW HK g0 g1 g2 g3 g4 g5
  obtain ⟨n0, n1, n2, n3, n4, n5⟩ := Kn.six_co L0.n
  obtain ⟨o0, o1, o2, o3⟩ := Kn.four_co L0.o
  obtain ⟨a0, a1, a2, a3⟩ := Kn.four_co L0.a
  obtain ⟨b0, b1, b2, b3⟩ := Kn.four_co L0.b
  obtain ⟨c0, c1, c2, c3⟩ := Kn.four_co L0.r
  obtain ⟨z0, z1, z2, z3⟩ := Kn.four_fr L0.r
  have O2 := hide (Kn.put4_own L0.r (.int .i64 0) (.int .i64 1) (.int .i64 1) (.bool false))
  have B2 := hide (Kn.put4_below L0.be (Nat.le_refl _) (.int .i64 0) (.int .i64 1) (.int .i64 1) (.bool false))
  clear L0
  go_wp2_with fail
  try rw [show (((W.setCell ⟨w.heap.size, 0, none⟩ (.int .i64 0)).setCell ⟨w.heap.size, 1, none⟩ (.int .i64 1)).setCell ⟨w.heap.size, 2, none⟩ (.int .i64 1)).setCell ⟨w.heap.size, 3, none⟩ (.bool false) = Kn.put4 W w.heap.size (.int .i64 0) (.int .i64 1) (.int .i64 1) (.bool false) from rfl]
  have q := Kn.four_co (unhide O2)
  have BF := unhide B2
  clear O2 B2 c0 c1 c2 c3 z0 z1 z2 z3
  generalize Kn.put4 W w.heap.size (.int .i64 0) (.int .i64 1) (.int .i64 1) (.bool false) = WW at *
  obtain ⟨q0, q1, q2, q3⟩ := q
  refine bodyPost_ret (v := .agg #[.int .i64 0, .int .i64 1, .int .i64 1, .bool false]) (by simp [results, Try.results22, go_sem, q0, q1, q2, q3]; try rfl) rfl ?_
  exact ⟨rfl, BF⟩
set_option maxRecDepth 100000 in
set_option maxHeartbeats 4000000 in
theorem l11Node_15 (bk len i : Nat) (c : Co) (vg vn vc : Nat) (w : World) (ho : c.op = 15) (hi : i < len) (hl : len ≤ 900)
    (g0 : w.cell? ⟨bk, i * 6, none⟩ = some (.int .i64 c.op)) (g1 : w.cell? ⟨bk, i * 6 + 1, none⟩ = some (.int .i64 c.a)) (g2 : w.cell? ⟨bk, i * 6 + 2, none⟩ = some (.int .i64 c.b)) (g3 : w.cell? ⟨bk, i * 6 + 3, none⟩ = some (.int .i64 c.c)) (g4 : w.cell? ⟨bk, i * 6 + 4, none⟩ = some (.int .i64 c.num)) (g5 : w.cell? ⟨bk, i * 6 + 5, none⟩ = some (.slice (some ⟨vg, 0, none⟩) vn vc)) (hbk : bk < w.heap.size)   :
    Calls Try.prog 22 #[.slice (some ⟨bk, 0, none⟩) len len, .int .i64 (i : Int)] w fun e w' => e = .returned (Kn.ans (Kn.node c [])) ∧ Below w.heap.size w w' := by
  have FIN := hide (Kn.ans_eq (Kn.node_leaf (c := c) (by omega)))
  rw [unhide FIN]
  rw [ho] at g0
  have hiI : (i : Int) < (len : Int) := by omega
  have hi0 : (0 : Int) ≤ (i : Int) := by omega
  have HK := hide (fun V => l6Kids_15 V)
  have HL := hide (Kn.Led.first w [.int .i64 15, .int .i64 c.a, .int .i64 c.b, .int .i64 c.c, .int .i64 c.num, .slice (some ⟨vg, 0, none⟩) vn vc] rfl)
  generalize c.a = ca at *
  generalize c.b = cb at *
  generalize c.c = cc at *
  generalize c.num = cm at *
  obtain ⟨W, hW⟩ : ∃ W, W = ((((w.alloc (.cells #[.int .i64 0, .int .i64 0, .int .i64 0, .bool false] 25)).alloc (.cells #[.int .i64 15, .int .i64 ca, .int .i64 cb, .int .i64 cc, .int .i64 cm, .slice (some ⟨vg, 0, none⟩) vn vc] 48)).alloc (.cells #[.int .i64 0, .int .i64 1, .int .i64 1, .bool false] 25)).alloc (.cells #[.int .i64 0, .int .i64 0, .int .i64 0, .bool false] 25)).alloc (.cells #[.int .i64 0, .int .i64 0, .int .i64 0, .bool false] 25) := ⟨_, rfl⟩
  have L0 : Kn.Led w W [.int .i64 15, .int .i64 ca, .int .i64 cb, .int .i64 cc, .int .i64 cm, .slice (some ⟨vg, 0, none⟩) vn vc] [.int .i64 0, .int .i64 1, .int .i64 1, .bool false] [.int .i64 0, .int .i64 0, .int .i64 0, .bool false] [.int .i64 0, .int .i64 0, .int .i64 0, .bool false] := by rw [hW]; exact unhide HL
  clear HL
  go_enter Try.func22, Try.ntmps22
  go_wp2_with fail
  refine ((unhide HK) _).mono ?_
  rintro e wk ⟨rfl, hwk⟩
  subst wk
  go_upto_region 6 with fail
  try simp only [Nat.add_assoc, Nat.reduceAdd]
  rw [← hW]
  clear hW HK g0 g1 g2 g3 g4 g5
  obtain ⟨n0, n1, n2, n3, n4, n5⟩ := Kn.six_co L0.n
  obtain ⟨o0, o1, o2, o3⟩ := Kn.four_co L0.o
  obtain ⟨a0, a1, a2, a3⟩ := Kn.four_co L0.a
  obtain ⟨b0, b1, b2, b3⟩ := Kn.four_co L0.b
  obtain ⟨c0, c1, c2, c3⟩ := Kn.four_co L0.r
  obtain ⟨z0, z1, z2, z3⟩ := Kn.four_fr L0.r
  have O2 := hide (Kn.put4_own L0.r (.int .i64 0) (.int .i64 1) (.int .i64 1) (.bool false))
  have B2 := hide (Kn.put4_below L0.be (Nat.le_refl _) (.int .i64 0) (.int .i64 1) (.int .i64 1) (.bool false))
  clear L0
  go_wp2_with fail
  try rw [show (((W.setCell ⟨w.heap.size, 0, none⟩ (.int .i64 0)).setCell ⟨w.heap.size, 1, none⟩ (.int .i64 1)).setCell ⟨w.heap.size, 2, none⟩ (.int .i64 1)).setCell ⟨w.heap.size, 3, none⟩ (.bool false) = Kn.put4 W w.heap.size (.int .i64 0) (.int .i64 1) (.int .i64 1) (.bool false) from rfl]
  have q := Kn.four_co (unhide O2)
  have BF := unhide B2
  clear O2 B2 c0 c1 c2 c3 z0 z1 z2 z3
  generalize Kn.put4 W w.heap.size (.int .i64 0) (.int .i64 1) (.int .i64 1) (.bool false) = WW at *
  obtain ⟨q0, q1, q2, q3⟩ := q
  refine bodyPost_ret (v := .agg #[.int .i64 0, .int .i64 1, .int .i64 1, .bool false]) (by simp [results, Try.results22, go_sem, q0, q1, q2, q3]; try rfl) rfl ?_
  exact ⟨rfl, BF⟩
set_option maxRecDepth 100000 in
set_option maxHeartbeats 4000000 in
theorem l11Node_17 (bk len i : Nat) (c : Co) (vg vn vc : Nat) (w : World) (ho : c.op = 17) (hi : i < len) (hl : len ≤ 900)
    (g0 : w.cell? ⟨bk, i * 6, none⟩ = some (.int .i64 c.op)) (g1 : w.cell? ⟨bk, i * 6 + 1, none⟩ = some (.int .i64 c.a)) (g2 : w.cell? ⟨bk, i * 6 + 2, none⟩ = some (.int .i64 c.b)) (g3 : w.cell? ⟨bk, i * 6 + 3, none⟩ = some (.int .i64 c.c)) (g4 : w.cell? ⟨bk, i * 6 + 4, none⟩ = some (.int .i64 c.num)) (g5 : w.cell? ⟨bk, i * 6 + 5, none⟩ = some (.slice (some ⟨vg, 0, none⟩) vn vc)) (hbk : bk < w.heap.size)   :
    Calls Try.prog 22 #[.slice (some ⟨bk, 0, none⟩) len len, .int .i64 (i : Int)] w fun e w' => e = .returned (Kn.ans (Kn.node c [])) ∧ Below w.heap.size w w' := by
  have FIN := hide (Kn.ans_eq (Kn.node_17 ho))
  rw [unhide FIN]
  rw [ho] at g0
  have hiI : (i : Int) < (len : Int) := by omega
  have hi0 : (0 : Int) ≤ (i : Int) := by omega
  have HK := hide (fun V => l6Kids_17 V)
  have HL := hide (Kn.Led.first w [.int .i64 17, .int .i64 c.a, .int .i64 c.b, .int .i64 c.c, .int .i64 c.num, .slice (some ⟨vg, 0, none⟩) vn vc] rfl)
  generalize c.a = ca at *
  generalize c.b = cb at *
  generalize c.c = cc at *
  generalize c.num = cm at *
  obtain ⟨W, hW⟩ : ∃ W, W = ((((w.alloc (.cells #[.int .i64 0, .int .i64 0, .int .i64 0, .bool false] 25)).alloc (.cells #[.int .i64 17, .int .i64 ca, .int .i64 cb, .int .i64 cc, .int .i64 cm, .slice (some ⟨vg, 0, none⟩) vn vc] 48)).alloc (.cells #[.int .i64 0, .int .i64 1, .int .i64 1, .bool false] 25)).alloc (.cells #[.int .i64 0, .int .i64 0, .int .i64 0, .bool false] 25)).alloc (.cells #[.int .i64 0, .int .i64 0, .int .i64 0, .bool false] 25) := ⟨_, rfl⟩
  have L0 : Kn.Led w W [.int .i64 17, .int .i64 ca, .int .i64 cb, .int .i64 cc, .int .i64 cm, .slice (some ⟨vg, 0, none⟩) vn vc] [.int .i64 0, .int .i64 1, .int .i64 1, .bool false] [.int .i64 0, .int .i64 0, .int .i64 0, .bool false] [.int .i64 0, .int .i64 0, .int .i64 0, .bool false] := by rw [hW]; exact unhide HL
  clear HL
  go_enter Try.func22, Try.ntmps22
  go_wp2_with fail
  refine ((unhide HK) _).mono ?_
  rintro e wk ⟨rfl, hwk⟩
  subst wk
  go_upto_region 6 with fail
  try simp only [Nat.add_assoc, Nat.reduceAdd]
  rw [← hW]
  clear hW HK g0 g1 g2 g3 g4 g5
  obtain ⟨n0, n1, n2, n3, n4, n5⟩ := Kn.six_co L0.n
  obtain ⟨o0, o1, o2, o3⟩ := Kn.four_co L0.o
  obtain ⟨a0, a1, a2, a3⟩ := Kn.four_co L0.a
  obtain ⟨b0, b1, b2, b3⟩ := Kn.four_co L0.b
  obtain ⟨c0, c1, c2, c3⟩ := Kn.four_co L0.r
  obtain ⟨z0, z1, z2, z3⟩ := Kn.four_fr L0.r
  have O2 := hide (Kn.put4_own L0.r (.int .i64 0) (.int .i64 0) (.int .i64 0) (.bool false))
  have B2 := hide (Kn.put4_below L0.be (Nat.le_refl _) (.int .i64 0) (.int .i64 0) (.int .i64 0) (.bool false))
  clear L0
  go_wp2_with fail
  try rw [show (((W.setCell ⟨w.heap.size, 0, none⟩ (.int .i64 0)).setCell ⟨w.heap.size, 1, none⟩ (.int .i64 0)).setCell ⟨w.heap.size, 2, none⟩ (.int .i64 0)).setCell ⟨w.heap.size, 3, none⟩ (.bool false) = Kn.put4 W w.heap.size (.int .i64 0) (.int .i64 0) (.int .i64 0) (.bool false) from rfl]
  have q := Kn.four_co (unhide O2)
  have BF := unhide B2
  clear O2 B2 c0 c1 c2 c3 z0 z1 z2 z3
  generalize Kn.put4 W w.heap.size (.int .i64 0) (.int .i64 0) (.int .i64 0) (.bool false) = WW at *
  obtain ⟨q0, q1, q2, q3⟩ := q
  refine bodyPost_ret (v := .agg #[.int .i64 0, .int .i64 0, .int .i64 0, .bool false]) (by simp [results, Try.results22, go_sem, q0, q1, q2, q3]; try rfl) rfl ?_
  exact ⟨rfl, BF⟩
set_option maxRecDepth 100000 in
set_option maxHeartbeats 4000000 in
theorem l11Node_3 (bk len i : Nat) (c : Co) (vg vn vc : Nat) (A B : Kn) (w : World) (ho : c.op = 3) (hi : i < len) (hl : len ≤ 900)
    (g0 : w.cell? ⟨bk, i * 6, none⟩ = some (.int .i64 c.op)) (g1 : w.cell? ⟨bk, i * 6 + 1, none⟩ = some (.int .i64 c.a)) (g2 : w.cell? ⟨bk, i * 6 + 2, none⟩ = some (.int .i64 c.b)) (g3 : w.cell? ⟨bk, i * 6 + 3, none⟩ = some (.int .i64 c.c)) (g4 : w.cell? ⟨bk, i * 6 + 4, none⟩ = some (.int .i64 c.num)) (g5 : w.cell? ⟨bk, i * 6 + 5, none⟩ = some (.slice (some ⟨vg, 0, none⟩) vn vc)) (hbk : bk < w.heap.size) (HA : ∀ V, Below w.heap.size w V → Calls Try.prog 22 #[.slice (some ⟨bk, 0, none⟩) len len, .int .i64 c.a] V fun e w' => e = .returned (Kn.ans A) ∧ Below V.heap.size V w') (hA : Kn.Fit A) (HB : ∀ V, Below w.heap.size w V → Calls Try.prog 22 #[.slice (some ⟨bk, 0, none⟩) len len, .int .i64 c.b] V fun e w' => e = .returned (Kn.ans B) ∧ Below V.heap.size V w') (hB : Kn.Fit B)  :
    Calls Try.prog 22 #[.slice (some ⟨bk, 0, none⟩) len len, .int .i64 (i : Int)] w fun e w' => e = .returned (Kn.ans (Kn.node c [A, B])) ∧ Below w.heap.size w w' := by
  have FIN := hide (Kn.ans_eq (Kn.node_3 (c := c) (A := A) (B := B) hA (by omega)))
  rw [unhide FIN]
  have HT := hide (fun V => l11Times_any A.lo A.hi B.lo B.hi A.fa B.fa V ⟨hA.l0, hA.l1⟩ ⟨hA.h0, hA.h1⟩ ⟨hB.l0, hB.l1⟩ ⟨hB.h0, hB.h1⟩)
  generalize Kn.cp (A.lo * B.lo) = PX at *
  generalize Kn.cp (A.hi * B.hi) = PY at *
  generalize (A.fa || B.fa) = PF at *
  have FAA := hA
  unfold Kn.ans at HA
  have HHA := hide HA
  clear HA
  have FAB := hB
  unfold Kn.ans at HB
  have HHB := hide HB
  clear HB
  rw [ho] at g0
  have hiI : (i : Int) < (len : Int) := by omega
  have hi0 : (0 : Int) ≤ (i : Int) := by omega
  have HK := hide (fun V => l6Kids_3 V)
  have HL := hide (Kn.Led.first w [.int .i64 3, .int .i64 c.a, .int .i64 c.b, .int .i64 c.c, .int .i64 c.num, .slice (some ⟨vg, 0, none⟩) vn vc] rfl)
  generalize c.a = ca at *
  generalize c.b = cb at *
  generalize c.c = cc at *
  generalize c.num = cm at *
  obtain ⟨W, hW⟩ : ∃ W, W = ((((w.alloc (.cells #[.int .i64 0, .int .i64 0, .int .i64 0, .bool false] 25)).alloc (.cells #[.int .i64 3, .int .i64 ca, .int .i64 cb, .int .i64 cc, .int .i64 cm, .slice (some ⟨vg, 0, none⟩) vn vc] 48)).alloc (.cells #[.int .i64 0, .int .i64 1, .int .i64 1, .bool false] 25)).alloc (.cells #[.int .i64 0, .int .i64 0, .int .i64 0, .bool false] 25)).alloc (.cells #[.int .i64 0, .int .i64 0, .int .i64 0, .bool false] 25) := ⟨_, rfl⟩
  have L0 : Kn.Led w W [.int .i64 3, .int .i64 ca, .int .i64 cb, .int .i64 cc, .int .i64 cm, .slice (some ⟨vg, 0, none⟩) vn vc] [.int .i64 0, .int .i64 1, .int .i64 1, .bool false] [.int .i64 0, .int .i64 0, .int .i64 0, .bool false] [.int .i64 0, .int .i64 0, .int .i64 0, .bool false] := by rw [hW]; exact unhide HL
  clear HL
  go_enter Try.func22, Try.ntmps22
  go_wp2_with fail
  refine ((unhide HK) _).mono ?_
  rintro e wk ⟨rfl, hwk⟩
  subst wk
  go_upto_region 6 with fail
  try simp only [Nat.add_assoc, Nat.reduceAdd]
  rw [← hW]
  clear hW HK g0 g1 g2 g3 g4 g5
  obtain ⟨n0, n1, n2, n3, n4, n5⟩ := Kn.six_co L0.n
  go_wp2_with fail
  refine ((unhide HHA) _ L0.be).mono ?_
  rintro e w1 ⟨rfl, hb1⟩
  have M1 := L0.call hb1
  clear hb1 L0 n0 n1 n2 n3 n4 n5
  obtain ⟨c0, c1, c2, c3⟩ := Kn.four_co M1.a
  obtain ⟨z0, z1, z2, z3⟩ := Kn.four_fr M1.a
  have L1' := M1.setA (.int .i64 0) (.int .i64 A.lo) (.int .i64 A.hi) (.bool A.fa)
  obtain ⟨n0, n1, n2, n3, n4, n5⟩ := Kn.six_co M1.n
  go_upto_region 8 with fail
  rw [show (((w1.setCell ⟨w.heap.size + 3, 0, none⟩ (.int .i64 0)).setCell ⟨w.heap.size + 3, 1, none⟩ (.int .i64 A.lo)).setCell ⟨w.heap.size + 3, 2, none⟩ (.int .i64 A.hi)).setCell ⟨w.heap.size + 3, 3, none⟩ (.bool A.fa) = Kn.put4 w1 (w.heap.size + 3) (.int .i64 0) (.int .i64 A.lo) (.int .i64 A.hi) (.bool A.fa) from rfl]
  clear c0 c1 c2 c3 z0 z1 z2 z3 n0 n1 n2 n3 n4 n5 M1
  have L1 := L1'
  clear L1'
  generalize Kn.put4 w1 (w.heap.size + 3) (.int .i64 0) (.int .i64 A.lo) (.int .i64 A.hi) (.bool A.fa) = V1 at *
  obtain ⟨n0, n1, n2, n3, n4, n5⟩ := Kn.six_co L1.n
  go_wp2_with fail
  refine ((unhide HHB) _ L1.be).mono ?_
  rintro e w2 ⟨rfl, hb2⟩
  have M2 := L1.call hb2
  clear hb2 L1 n0 n1 n2 n3 n4 n5
  obtain ⟨c0, c1, c2, c3⟩ := Kn.four_co M2.b
  obtain ⟨z0, z1, z2, z3⟩ := Kn.four_fr M2.b
  have L2' := M2.setB (.int .i64 0) (.int .i64 B.lo) (.int .i64 B.hi) (.bool B.fa)
  obtain ⟨n0, n1, n2, n3, n4, n5⟩ := Kn.six_co M2.n
  go_upto_region 10 with fail
  rw [show (((w2.setCell ⟨w.heap.size + 4, 0, none⟩ (.int .i64 0)).setCell ⟨w.heap.size + 4, 1, none⟩ (.int .i64 B.lo)).setCell ⟨w.heap.size + 4, 2, none⟩ (.int .i64 B.hi)).setCell ⟨w.heap.size + 4, 3, none⟩ (.bool B.fa) = Kn.put4 w2 (w.heap.size + 4) (.int .i64 0) (.int .i64 B.lo) (.int .i64 B.hi) (.bool B.fa) from rfl]
  clear c0 c1 c2 c3 z0 z1 z2 z3 n0 n1 n2 n3 n4 n5 M2
  have L2 := L2'
  clear L2'
  generalize Kn.put4 w2 (w.heap.size + 4) (.int .i64 0) (.int .i64 B.lo) (.int .i64 B.hi) (.bool B.fa) = V2 at *
  obtain ⟨al, ah, af, ak⟩ := A
  simp only at *
  obtain ⟨bl, bh, bf, bk⟩ := B
  simp only at *
  obtain ⟨n0, n1, n2, n3, n4, n5⟩ := Kn.six_co L2.n
  obtain ⟨o0, o1, o2, o3⟩ := Kn.four_co L2.o
  obtain ⟨a0, a1, a2, a3⟩ := Kn.four_co L2.a
  obtain ⟨b0, b1, b2, b3⟩ := Kn.four_co L2.b
  go_wp2_with fail
  refine ((unhide HT) _).mono ?_
  rintro e w5 ⟨rfl, hw5⟩
  have L5 := L2.call hw5
  clear hw5 L2 n0 n1 n2 n3 n4 n5 o0 o1 o2 o3 a0 a1 a2 a3 b0 b1 b2 b3
  obtain ⟨c0, c1, c2, c3⟩ := Kn.four_co L5.r
  obtain ⟨z0, z1, z2, z3⟩ := Kn.four_fr L5.r
  have O2 := hide (Kn.put4_own L5.r (.int .i64 0) (.int .i64 PX) (.int .i64 PY) (.bool PF))
  have B2 := hide (Kn.put4_below L5.be (Nat.le_refl _) (.int .i64 0) (.int .i64 PX) (.int .i64 PY) (.bool PF))
  clear L5
  go_wp2_with fail
  try rw [show (((w5.setCell ⟨w.heap.size, 0, none⟩ (.int .i64 0)).setCell ⟨w.heap.size, 1, none⟩ (.int .i64 PX)).setCell ⟨w.heap.size, 2, none⟩ (.int .i64 PY)).setCell ⟨w.heap.size, 3, none⟩ (.bool PF) = Kn.put4 w5 w.heap.size (.int .i64 0) (.int .i64 PX) (.int .i64 PY) (.bool PF) from rfl]
  have q := Kn.four_co (unhide O2)
  have BF := unhide B2
  clear O2 B2 c0 c1 c2 c3 z0 z1 z2 z3
  generalize Kn.put4 w5 w.heap.size (.int .i64 0) (.int .i64 PX) (.int .i64 PY) (.bool PF) = WW at *
  obtain ⟨q0, q1, q2, q3⟩ := q
  refine bodyPost_ret (v := .agg #[.int .i64 0, .int .i64 PX, .int .i64 PY, .bool PF]) (by simp [results, Try.results22, go_sem, q0, q1, q2, q3]; try rfl) rfl ?_
  exact ⟨rfl, BF⟩
set_option maxRecDepth 100000 in
set_option maxHeartbeats 4000000 in
theorem l11Node_14 (bk len i : Nat) (c : Co) (vg vn vc : Nat) (A B : Kn) (w : World) (ho : c.op = 14) (hi : i < len) (hl : len ≤ 900)
    (g0 : w.cell? ⟨bk, i * 6, none⟩ = some (.int .i64 c.op)) (g1 : w.cell? ⟨bk, i * 6 + 1, none⟩ = some (.int .i64 c.a)) (g2 : w.cell? ⟨bk, i * 6 + 2, none⟩ = some (.int .i64 c.b)) (g3 : w.cell? ⟨bk, i * 6 + 3, none⟩ = some (.int .i64 c.c)) (g4 : w.cell? ⟨bk, i * 6 + 4, none⟩ = some (.int .i64 c.num)) (g5 : w.cell? ⟨bk, i * 6 + 5, none⟩ = some (.slice (some ⟨vg, 0, none⟩) vn vc)) (hbk : bk < w.heap.size) (HA : ∀ V, Below w.heap.size w V → Calls Try.prog 22 #[.slice (some ⟨bk, 0, none⟩) len len, .int .i64 c.a] V fun e w' => e = .returned (Kn.ans A) ∧ Below V.heap.size V w') (hA : Kn.Fit A) (HB : ∀ V, Below w.heap.size w V → Calls Try.prog 22 #[.slice (some ⟨bk, 0, none⟩) len len, .int .i64 c.b] V fun e w' => e = .returned (Kn.ans B) ∧ Below V.heap.size V w') (hB : Kn.Fit B)  :
    Calls Try.prog 22 #[.slice (some ⟨bk, 0, none⟩) len len, .int .i64 (i : Int)] w fun e w' => e = .returned (Kn.ans (Kn.node c [A, B])) ∧ Below w.heap.size w w' := by
  have FIN := hide (Kn.ans_eq (Kn.node_3 (c := c) (A := A) (B := B) hA (by omega)))
  rw [unhide FIN]
  have HT := hide (fun V => l11Times_any A.lo A.hi B.lo B.hi A.fa B.fa V ⟨hA.l0, hA.l1⟩ ⟨hA.h0, hA.h1⟩ ⟨hB.l0, hB.l1⟩ ⟨hB.h0, hB.h1⟩)
  generalize Kn.cp (A.lo * B.lo) = PX at *
  generalize Kn.cp (A.hi * B.hi) = PY at *
  generalize (A.fa || B.fa) = PF at *
  have FAA := hA
  unfold Kn.ans at HA
  have HHA := hide HA
  clear HA
  have FAB := hB
  unfold Kn.ans at HB
  have HHB := hide HB
  clear HB
  rw [ho] at g0
  have hiI : (i : Int) < (len : Int) := by omega
  have hi0 : (0 : Int) ≤ (i : Int) := by omega
  have HK := hide (fun V => l6Kids_14 V)
  have HL := hide (Kn.Led.first w [.int .i64 14, .int .i64 c.a, .int .i64 c.b, .int .i64 c.c, .int .i64 c.num, .slice (some ⟨vg, 0, none⟩) vn vc] rfl)
  generalize c.a = ca at *
  generalize c.b = cb at *
  generalize c.c = cc at *
  generalize c.num = cm at *
  obtain ⟨W, hW⟩ : ∃ W, W = ((((w.alloc (.cells #[.int .i64 0, .int .i64 0, .int .i64 0, .bool false] 25)).alloc (.cells #[.int .i64 14, .int .i64 ca, .int .i64 cb, .int .i64 cc, .int .i64 cm, .slice (some ⟨vg, 0, none⟩) vn vc] 48)).alloc (.cells #[.int .i64 0, .int .i64 1, .int .i64 1, .bool false] 25)).alloc (.cells #[.int .i64 0, .int .i64 0, .int .i64 0, .bool false] 25)).alloc (.cells #[.int .i64 0, .int .i64 0, .int .i64 0, .bool false] 25) := ⟨_, rfl⟩
  have L0 : Kn.Led w W [.int .i64 14, .int .i64 ca, .int .i64 cb, .int .i64 cc, .int .i64 cm, .slice (some ⟨vg, 0, none⟩) vn vc] [.int .i64 0, .int .i64 1, .int .i64 1, .bool false] [.int .i64 0, .int .i64 0, .int .i64 0, .bool false] [.int .i64 0, .int .i64 0, .int .i64 0, .bool false] := by rw [hW]; exact unhide HL
  clear HL
  go_enter Try.func22, Try.ntmps22
  go_wp2_with fail
  refine ((unhide HK) _).mono ?_
  rintro e wk ⟨rfl, hwk⟩
  subst wk
  go_upto_region 6 with fail
  try simp only [Nat.add_assoc, Nat.reduceAdd]
  rw [← hW]
  clear hW HK g0 g1 g2 g3 g4 g5
  obtain ⟨n0, n1, n2, n3, n4, n5⟩ := Kn.six_co L0.n
  go_wp2_with fail
  refine ((unhide HHA) _ L0.be).mono ?_
  rintro e w1 ⟨rfl, hb1⟩
  have M1 := L0.call hb1
  clear hb1 L0 n0 n1 n2 n3 n4 n5
  obtain ⟨c0, c1, c2, c3⟩ := Kn.four_co M1.a
  obtain ⟨z0, z1, z2, z3⟩ := Kn.four_fr M1.a
  have L1' := M1.setA (.int .i64 0) (.int .i64 A.lo) (.int .i64 A.hi) (.bool A.fa)
  obtain ⟨n0, n1, n2, n3, n4, n5⟩ := Kn.six_co M1.n
  go_upto_region 8 with fail
  rw [show (((w1.setCell ⟨w.heap.size + 3, 0, none⟩ (.int .i64 0)).setCell ⟨w.heap.size + 3, 1, none⟩ (.int .i64 A.lo)).setCell ⟨w.heap.size + 3, 2, none⟩ (.int .i64 A.hi)).setCell ⟨w.heap.size + 3, 3, none⟩ (.bool A.fa) = Kn.put4 w1 (w.heap.size + 3) (.int .i64 0) (.int .i64 A.lo) (.int .i64 A.hi) (.bool A.fa) from rfl]
  clear c0 c1 c2 c3 z0 z1 z2 z3 n0 n1 n2 n3 n4 n5 M1
  have L1 := L1'
  clear L1'
  generalize Kn.put4 w1 (w.heap.size + 3) (.int .i64 0) (.int .i64 A.lo) (.int .i64 A.hi) (.bool A.fa) = V1 at *
  obtain ⟨n0, n1, n2, n3, n4, n5⟩ := Kn.six_co L1.n
  go_wp2_with fail
  refine ((unhide HHB) _ L1.be).mono ?_
  rintro e w2 ⟨rfl, hb2⟩
  have M2 := L1.call hb2
  clear hb2 L1 n0 n1 n2 n3 n4 n5
  obtain ⟨c0, c1, c2, c3⟩ := Kn.four_co M2.b
  obtain ⟨z0, z1, z2, z3⟩ := Kn.four_fr M2.b
  have L2' := M2.setB (.int .i64 0) (.int .i64 B.lo) (.int .i64 B.hi) (.bool B.fa)
  obtain ⟨n0, n1, n2, n3, n4, n5⟩ := Kn.six_co M2.n
  go_upto_region 10 with fail
  rw [show (((w2.setCell ⟨w.heap.size + 4, 0, none⟩ (.int .i64 0)).setCell ⟨w.heap.size + 4, 1, none⟩ (.int .i64 B.lo)).setCell ⟨w.heap.size + 4, 2, none⟩ (.int .i64 B.hi)).setCell ⟨w.heap.size + 4, 3, none⟩ (.bool B.fa) = Kn.put4 w2 (w.heap.size + 4) (.int .i64 0) (.int .i64 B.lo) (.int .i64 B.hi) (.bool B.fa) from rfl]
  clear c0 c1 c2 c3 z0 z1 z2 z3 n0 n1 n2 n3 n4 n5 M2
  have L2 := L2'
  clear L2'
  generalize Kn.put4 w2 (w.heap.size + 4) (.int .i64 0) (.int .i64 B.lo) (.int .i64 B.hi) (.bool B.fa) = V2 at *
  obtain ⟨al, ah, af, ak⟩ := A
  simp only at *
  obtain ⟨bl, bh, bf, bk⟩ := B
  simp only at *
  obtain ⟨n0, n1, n2, n3, n4, n5⟩ := Kn.six_co L2.n
  obtain ⟨o0, o1, o2, o3⟩ := Kn.four_co L2.o
  obtain ⟨a0, a1, a2, a3⟩ := Kn.four_co L2.a
  obtain ⟨b0, b1, b2, b3⟩ := Kn.four_co L2.b
  go_wp2_with fail
  refine ((unhide HT) _).mono ?_
  rintro e w5 ⟨rfl, hw5⟩
  have L5 := L2.call hw5
  clear hw5 L2 n0 n1 n2 n3 n4 n5 o0 o1 o2 o3 a0 a1 a2 a3 b0 b1 b2 b3
  obtain ⟨c0, c1, c2, c3⟩ := Kn.four_co L5.r
  obtain ⟨z0, z1, z2, z3⟩ := Kn.four_fr L5.r
  have O2 := hide (Kn.put4_own L5.r (.int .i64 0) (.int .i64 PX) (.int .i64 PY) (.bool PF))
  have B2 := hide (Kn.put4_below L5.be (Nat.le_refl _) (.int .i64 0) (.int .i64 PX) (.int .i64 PY) (.bool PF))
  clear L5
  go_wp2_with fail
  try rw [show (((w5.setCell ⟨w.heap.size, 0, none⟩ (.int .i64 0)).setCell ⟨w.heap.size, 1, none⟩ (.int .i64 PX)).setCell ⟨w.heap.size, 2, none⟩ (.int .i64 PY)).setCell ⟨w.heap.size, 3, none⟩ (.bool PF) = Kn.put4 w5 w.heap.size (.int .i64 0) (.int .i64 PX) (.int .i64 PY) (.bool PF) from rfl]
  have q := Kn.four_co (unhide O2)
  have BF := unhide B2
  clear O2 B2 c0 c1 c2 c3 z0 z1 z2 z3
  generalize Kn.put4 w5 w.heap.size (.int .i64 0) (.int .i64 PX) (.int .i64 PY) (.bool PF) = WW at *
  obtain ⟨q0, q1, q2, q3⟩ := q
  refine bodyPost_ret (v := .agg #[.int .i64 0, .int .i64 PX, .int .i64 PY, .bool PF]) (by simp [results, Try.results22, go_sem, q0, q1, q2, q3]; try rfl) rfl ?_
  exact ⟨rfl, BF⟩

end Go.Proofs.Ytkjmnkbiflkpdaa
