/-
  impl.boundsOf: how many a node makes.
-/
import Derived.Test.YtkjmnkbiflkpdaaKnD
namespace Go.Proofs.Ytkjmnkbiflkpdaa
open Go.RowKit
set_option linter.unusedVariables false
set_option linter.unusedSimpArgs false

namespace Kn
theorem new1of3 (W : World) (o o'' : Obj) (x y : Value) : Own (((W.alloc o).alloc (.cells #[x, y] 51)).alloc o'') (W.heap.size + 1) 51 [x, y] := by
  have h : Own ((W.alloc o).alloc (.cells #[x, y] 51)) (W.alloc o).heap.size 51 [x, y] := ⟨_, heap_alloc_new _ _, rfl⟩
  have h2 := h.below ((Below.refl _ _).alloc (Nat.le_refl _) o'') h.lt
  simpa using h2
/-- What a node of a core names, as a row. -/
def Pts (w : World) (v : Value) (L : List Kn) : Prop := ∃ q cap, v = .slice (some ⟨q, 0, none⟩) L.length cap ∧ Kr w q 0 L
end Kn
set_option maxRecDepth 100000 in
set_option maxHeartbeats 4000000 in
theorem boundsOf_1 (c : Co) (ca : Option Addr) (cn cc : Nat) (pa : Option Addr) (pn pc : Nat) (L : List Kn) (ho : c.op = 1) (w : World) :
    Calls Try.prog 64 #[.agg #[.int .i64 c.op, .int .i64 c.a, .int .i64 c.b, .int .i64 c.c, .int .i64 c.num, .slice ca cn cc], .slice pa pn pc] w fun e w' => e = .returned (.agg #[.int .i64 (Kn.bd c L).1, .int .i64 (Kn.bd c L).2]) ∧ Below w.heap.size w w' := by
  have FIN := hide (show Kn.bd c L = (1, 1) by unfold Kn.bd; simp [ho])
  have HB := hide (fun (o o' o'' : Obj) => Kn.bel3 w o o' o'')
  rw [ho]
  generalize c.a = c1 at *
  generalize c.b = c2 at *
  generalize c.c = c3 at *
  generalize c.num = c4 at *
  clear ho
  go_enter Try.func64, Try.ntmps64
  go_wp2_with fail
  refine bodyPost_ret (v := .agg #[.int .i64 1, .int .i64 1]) (by simp [results, Try.results64, go_sem]; try rfl) rfl ?_
  exact ⟨by rw [unhide FIN], (unhide HB) _ _ _⟩
set_option maxRecDepth 100000 in
set_option maxHeartbeats 4000000 in
theorem boundsOf_2 (c : Co) (ca : Option Addr) (cn cc : Nat) (pa : Option Addr) (pn pc : Nat) (L : List Kn) (ho : c.op = 2) (w : World) :
    Calls Try.prog 64 #[.agg #[.int .i64 c.op, .int .i64 c.a, .int .i64 c.b, .int .i64 c.c, .int .i64 c.num, .slice ca cn cc], .slice pa pn pc] w fun e w' => e = .returned (.agg #[.int .i64 (Kn.bd c L).1, .int .i64 (Kn.bd c L).2]) ∧ Below w.heap.size w w' := by
  have FIN := hide (show Kn.bd c L = (1, 1) by unfold Kn.bd; simp [ho])
  have HB := hide (fun (o o' o'' : Obj) => Kn.bel3 w o o' o'')
  rw [ho]
  generalize c.a = c1 at *
  generalize c.b = c2 at *
  generalize c.c = c3 at *
  generalize c.num = c4 at *
  clear ho
  go_enter Try.func64, Try.ntmps64
  go_wp2_with fail
  refine bodyPost_ret (v := .agg #[.int .i64 1, .int .i64 1]) (by simp [results, Try.results64, go_sem]; try rfl) rfl ?_
  exact ⟨by rw [unhide FIN], (unhide HB) _ _ _⟩
set_option maxRecDepth 100000 in
set_option maxHeartbeats 4000000 in
theorem boundsOf_15 (c : Co) (ca : Option Addr) (cn cc : Nat) (pa : Option Addr) (pn pc : Nat) (L : List Kn) (ho : c.op = 15) (w : World) :
    Calls Try.prog 64 #[.agg #[.int .i64 c.op, .int .i64 c.a, .int .i64 c.b, .int .i64 c.c, .int .i64 c.num, .slice ca cn cc], .slice pa pn pc] w fun e w' => e = .returned (.agg #[.int .i64 (Kn.bd c L).1, .int .i64 (Kn.bd c L).2]) ∧ Below w.heap.size w w' := by
  have FIN := hide (show Kn.bd c L = (1, 1) by unfold Kn.bd; simp [ho])
  have HB := hide (fun (o o' o'' : Obj) => Kn.bel3 w o o' o'')
  rw [ho]
  generalize c.a = c1 at *
  generalize c.b = c2 at *
  generalize c.c = c3 at *
  generalize c.num = c4 at *
  clear ho
  go_enter Try.func64, Try.ntmps64
  go_wp2_with fail
  refine bodyPost_ret (v := .agg #[.int .i64 1, .int .i64 1]) (by simp [results, Try.results64, go_sem]; try rfl) rfl ?_
  exact ⟨by rw [unhide FIN], (unhide HB) _ _ _⟩
set_option maxRecDepth 100000 in
set_option maxHeartbeats 4000000 in
theorem boundsOf_16 (c : Co) (ca : Option Addr) (cn cc : Nat) (pa : Option Addr) (pn pc : Nat) (L : List Kn) (ho : c.op = 16) (w : World) :
    Calls Try.prog 64 #[.agg #[.int .i64 c.op, .int .i64 c.a, .int .i64 c.b, .int .i64 c.c, .int .i64 c.num, .slice ca cn cc], .slice pa pn pc] w fun e w' => e = .returned (.agg #[.int .i64 (Kn.bd c L).1, .int .i64 (Kn.bd c L).2]) ∧ Below w.heap.size w w' := by
  have FIN := hide (show Kn.bd c L = (1, 1) by unfold Kn.bd; simp [ho])
  have HB := hide (fun (o o' o'' : Obj) => Kn.bel3 w o o' o'')
  rw [ho]
  generalize c.a = c1 at *
  generalize c.b = c2 at *
  generalize c.c = c3 at *
  generalize c.num = c4 at *
  clear ho
  go_enter Try.func64, Try.ntmps64
  go_wp2_with fail
  refine bodyPost_ret (v := .agg #[.int .i64 1, .int .i64 1]) (by simp [results, Try.results64, go_sem]; try rfl) rfl ?_
  exact ⟨by rw [unhide FIN], (unhide HB) _ _ _⟩
set_option maxRecDepth 100000 in
set_option maxHeartbeats 4000000 in
theorem boundsOf_10 (c : Co) (ca : Option Addr) (cn cc : Nat) (pa : Option Addr) (pn pc : Nat) (L : List Kn) (ho : c.op = 10) (w : World) :
    Calls Try.prog 64 #[.agg #[.int .i64 c.op, .int .i64 c.a, .int .i64 c.b, .int .i64 c.c, .int .i64 c.num, .slice ca cn cc], .slice pa pn pc] w fun e w' => e = .returned (.agg #[.int .i64 (Kn.bd c L).1, .int .i64 (Kn.bd c L).2]) ∧ Below w.heap.size w w' := by
  have FIN := hide (show Kn.bd c L = (1, 1) by unfold Kn.bd; simp [ho])
  have HB := hide (fun (o o' o'' : Obj) => Kn.bel3 w o o' o'')
  rw [ho]
  generalize c.a = c1 at *
  generalize c.b = c2 at *
  generalize c.c = c3 at *
  generalize c.num = c4 at *
  clear ho
  go_enter Try.func64, Try.ntmps64
  go_wp2_with fail
  refine bodyPost_ret (v := .agg #[.int .i64 1, .int .i64 1]) (by simp [results, Try.results64, go_sem]; try rfl) rfl ?_
  exact ⟨by rw [unhide FIN], (unhide HB) _ _ _⟩
set_option maxRecDepth 100000 in
set_option maxHeartbeats 4000000 in
theorem boundsOf_17 (c : Co) (ca : Option Addr) (cn cc : Nat) (pa : Option Addr) (pn pc : Nat) (L : List Kn) (ho : c.op = 17) (w : World) :
    Calls Try.prog 64 #[.agg #[.int .i64 c.op, .int .i64 c.a, .int .i64 c.b, .int .i64 c.c, .int .i64 c.num, .slice ca cn cc], .slice pa pn pc] w fun e w' => e = .returned (.agg #[.int .i64 (Kn.bd c L).1, .int .i64 (Kn.bd c L).2]) ∧ Below w.heap.size w w' := by
  have FIN := hide (show Kn.bd c L = (0, 0) by unfold Kn.bd; simp [ho])
  have HB := hide (fun (o o' o'' : Obj) => Kn.bel3 w o o' o'')
  rw [ho]
  generalize c.a = c1 at *
  generalize c.b = c2 at *
  generalize c.c = c3 at *
  generalize c.num = c4 at *
  clear ho
  go_enter Try.func64, Try.ntmps64
  go_wp2_with fail
  refine bodyPost_ret (v := .agg #[.int .i64 0, .int .i64 0]) (by simp [results, Try.results64, go_sem]; try rfl) rfl ?_
  exact ⟨by rw [unhide FIN], (unhide HB) _ _ _⟩
set_option maxRecDepth 100000 in
set_option maxHeartbeats 4000000 in
theorem boundsOf_4 (c : Co) (ca : Option Addr) (cn cc : Nat) (q cap : Nat) (L : List Kn) (ho : c.op = 4) (hL : ∀ k ∈ L, Kn.Fit k) (hn : L.length ≤ 3) (w : World) (hr : Kn.Kr w q 0 L) :
    Calls Try.prog 64 #[.agg #[.int .i64 c.op, .int .i64 c.a, .int .i64 c.b, .int .i64 c.c, .int .i64 c.num, .slice ca cn cc], .slice (some ⟨q, 0, none⟩) L.length cap] w fun e w' => e = .returned (.agg #[.int .i64 (Kn.bd c L).1, .int .i64 (Kn.bd c L).2]) ∧ Below w.heap.size w w' := by
  have FIN := hide (show Kn.bd c L = L.foldl Kn.plus (0, 0) by unfold Kn.bd; simp [ho])
  rw [unhide FIN]
  rw [ho]
  generalize c.a = c1 at *
  generalize c.b = c2 at *
  generalize c.c = c3 at *
  generalize c.num = c4 at *
  clear ho FIN
  obtain ⟨W, hW⟩ : ∃ W, W = ((w.alloc (.cells #[.int .i64 4, .int .i64 c1, .int .i64 c2, .int .i64 c3, .int .i64 c4, .slice ca cn cc] 48)).alloc (.cells #[.int .i64 0, .int .i64 0] 51)).alloc (.cells #[.int .i64 1, .int .i64 1] 51) := ⟨_, rfl⟩
  have ON : Own W (w.heap.size + 1) 51 [.int .i64 0, .int .i64 0] := by rw [hW]; exact Kn.new1of3 _ _ _ _ _
  have BN : Below w.heap.size w W := by rw [hW]; exact Kn.bel3 _ _ _ _
  have HC := hide (joined_plus 0 0 q 0 cap L W (hr.below BN hr.1) hL ⟨⟨by decide, by decide⟩, ⟨by decide, by decide⟩⟩ hn)
  obtain ⟨R, hR⟩ : ∃ R, L.foldl Kn.plus (0, 0) = R := ⟨_, rfl⟩
  rw [hR] at HC ⊢
  clear hR hr hL
  obtain ⟨R1, R2⟩ := R
  simp only at HC ⊢
  go_enter Try.func64, Try.ntmps64
  go_wp2_with fail
  rw [← hW]
  clear hW
  refine (unhide HC).mono ?_
  rintro e w1 ⟨rfl, hb1⟩
  have O1 := ON.below hb1 ON.lt
  have B1 : Below w.heap.size w w1 := BN.trans (hb1.mono BN.size)
  clear hb1 HC ON BN
  obtain ⟨c0', c1'⟩ := Kn.two_co O1
  have z0 := O1.frozen 0
  have z1 := O1.frozen 1
  have O2 := hide ((O1.set 0 (.int .i64 R1)).set 1 (.int .i64 R2))
  have B2 := hide (show Below w.heap.size w ((w1.setCell ⟨w.heap.size + 1, 0, none⟩ (.int .i64 R1)).setCell ⟨w.heap.size + 1, 1, none⟩ (.int .i64 R2)) from (B1.setCell (by simp only; omega) _).setCell (by simp only; omega) _)
  clear O1 B1
  go_wp2_with fail
  obtain ⟨q0, q1⟩ := Kn.two_co (x := .int .i64 R1) (y := .int .i64 R2) (unhide O2)
  have BF := unhide B2
  clear O2 B2 c0' c1' z0 z1
  generalize (w1.setCell ⟨w.heap.size + 1, 0, none⟩ (.int .i64 R1)).setCell ⟨w.heap.size + 1, 1, none⟩ (.int .i64 R2) = WW at *
  refine bodyPost_ret (v := .agg #[.int .i64 R1, .int .i64 R2]) (by simp [results, Try.results64, go_sem, q0, q1]; try rfl) rfl ?_
  exact ⟨rfl, BF⟩
set_option maxRecDepth 100000 in
set_option maxHeartbeats 4000000 in
theorem boundsOf_3 (c : Co) (ca : Option Addr) (cn cc : Nat) (q cap : Nat) (L : List Kn) (ho : c.op = 3) (hL : ∀ k ∈ L, Kn.Fit k) (hn : L.length ≤ 3) (w : World) (hr : Kn.Kr w q 0 L) :
    Calls Try.prog 64 #[.agg #[.int .i64 c.op, .int .i64 c.a, .int .i64 c.b, .int .i64 c.c, .int .i64 c.num, .slice ca cn cc], .slice (some ⟨q, 0, none⟩) L.length cap] w fun e w' => e = .returned (.agg #[.int .i64 (Kn.bd c L).1, .int .i64 (Kn.bd c L).2]) ∧ Below w.heap.size w w' := by
  have FIN := hide (show Kn.bd c L = L.foldl Kn.times (1, 1) by unfold Kn.bd; simp [ho])
  rw [unhide FIN]
  rw [ho]
  generalize c.a = c1 at *
  generalize c.b = c2 at *
  generalize c.c = c3 at *
  generalize c.num = c4 at *
  clear ho FIN
  obtain ⟨W, hW⟩ : ∃ W, W = ((w.alloc (.cells #[.int .i64 3, .int .i64 c1, .int .i64 c2, .int .i64 c3, .int .i64 c4, .slice ca cn cc] 48)).alloc (.cells #[.int .i64 0, .int .i64 0] 51)).alloc (.cells #[.int .i64 1, .int .i64 1] 51) := ⟨_, rfl⟩
  have ON : Own W (w.heap.size + 1) 51 [.int .i64 0, .int .i64 0] := by rw [hW]; exact Kn.new1of3 _ _ _ _ _
  have BN : Below w.heap.size w W := by rw [hW]; exact Kn.bel3 _ _ _ _
  have HC := hide (joined_times 1 1 q 0 cap L W (hr.below BN hr.1) hL ⟨⟨by decide, by decide⟩, ⟨by decide, by decide⟩⟩ hn)
  obtain ⟨R, hR⟩ : ∃ R, L.foldl Kn.times (1, 1) = R := ⟨_, rfl⟩
  rw [hR] at HC ⊢
  clear hR hr hL
  obtain ⟨R1, R2⟩ := R
  simp only at HC ⊢
  go_enter Try.func64, Try.ntmps64
  go_wp2_with fail
  rw [← hW]
  clear hW
  refine (unhide HC).mono ?_
  rintro e w1 ⟨rfl, hb1⟩
  have O1 := ON.below hb1 ON.lt
  have B1 : Below w.heap.size w w1 := BN.trans (hb1.mono BN.size)
  clear hb1 HC ON BN
  obtain ⟨c0', c1'⟩ := Kn.two_co O1
  have z0 := O1.frozen 0
  have z1 := O1.frozen 1
  have O2 := hide ((O1.set 0 (.int .i64 R1)).set 1 (.int .i64 R2))
  have B2 := hide (show Below w.heap.size w ((w1.setCell ⟨w.heap.size + 1, 0, none⟩ (.int .i64 R1)).setCell ⟨w.heap.size + 1, 1, none⟩ (.int .i64 R2)) from (B1.setCell (by simp only; omega) _).setCell (by simp only; omega) _)
  clear O1 B1
  go_wp2_with fail
  obtain ⟨q0, q1⟩ := Kn.two_co (x := .int .i64 R1) (y := .int .i64 R2) (unhide O2)
  have BF := unhide B2
  clear O2 B2 c0' c1' z0 z1
  generalize (w1.setCell ⟨w.heap.size + 1, 0, none⟩ (.int .i64 R1)).setCell ⟨w.heap.size + 1, 1, none⟩ (.int .i64 R2) = WW at *
  refine bodyPost_ret (v := .agg #[.int .i64 R1, .int .i64 R2]) (by simp [results, Try.results64, go_sem, q0, q1]; try rfl) rfl ?_
  exact ⟨rfl, BF⟩
set_option maxRecDepth 100000 in
set_option maxHeartbeats 4000000 in
theorem boundsOf_14 (c : Co) (ca : Option Addr) (cn cc : Nat) (q cap : Nat) (L : List Kn) (ho : c.op = 14) (hL : ∀ k ∈ L, Kn.Fit k) (hn : L.length ≤ 3) (w : World) (hr : Kn.Kr w q 0 L) :
    Calls Try.prog 64 #[.agg #[.int .i64 c.op, .int .i64 c.a, .int .i64 c.b, .int .i64 c.c, .int .i64 c.num, .slice ca cn cc], .slice (some ⟨q, 0, none⟩) L.length cap] w fun e w' => e = .returned (.agg #[.int .i64 (Kn.bd c L).1, .int .i64 (Kn.bd c L).2]) ∧ Below w.heap.size w w' := by
  have FIN := hide (show Kn.bd c L = L.foldl Kn.times (1, 1) by unfold Kn.bd; simp [ho])
  rw [unhide FIN]
  rw [ho]
  generalize c.a = c1 at *
  generalize c.b = c2 at *
  generalize c.c = c3 at *
  generalize c.num = c4 at *
  clear ho FIN
  obtain ⟨W, hW⟩ : ∃ W, W = ((w.alloc (.cells #[.int .i64 14, .int .i64 c1, .int .i64 c2, .int .i64 c3, .int .i64 c4, .slice ca cn cc] 48)).alloc (.cells #[.int .i64 0, .int .i64 0] 51)).alloc (.cells #[.int .i64 1, .int .i64 1] 51) := ⟨_, rfl⟩
  have ON : Own W (w.heap.size + 1) 51 [.int .i64 0, .int .i64 0] := by rw [hW]; exact Kn.new1of3 _ _ _ _ _
  have BN : Below w.heap.size w W := by rw [hW]; exact Kn.bel3 _ _ _ _
  have HC := hide (joined_times 1 1 q 0 cap L W (hr.below BN hr.1) hL ⟨⟨by decide, by decide⟩, ⟨by decide, by decide⟩⟩ hn)
  obtain ⟨R, hR⟩ : ∃ R, L.foldl Kn.times (1, 1) = R := ⟨_, rfl⟩
  rw [hR] at HC ⊢
  clear hR hr hL
  obtain ⟨R1, R2⟩ := R
  simp only at HC ⊢
  go_enter Try.func64, Try.ntmps64
  go_wp2_with fail
  rw [← hW]
  clear hW
  refine (unhide HC).mono ?_
  rintro e w1 ⟨rfl, hb1⟩
  have O1 := ON.below hb1 ON.lt
  have B1 : Below w.heap.size w w1 := BN.trans (hb1.mono BN.size)
  clear hb1 HC ON BN
  obtain ⟨c0', c1'⟩ := Kn.two_co O1
  have z0 := O1.frozen 0
  have z1 := O1.frozen 1
  have O2 := hide ((O1.set 0 (.int .i64 R1)).set 1 (.int .i64 R2))
  have B2 := hide (show Below w.heap.size w ((w1.setCell ⟨w.heap.size + 1, 0, none⟩ (.int .i64 R1)).setCell ⟨w.heap.size + 1, 1, none⟩ (.int .i64 R2)) from (B1.setCell (by simp only; omega) _).setCell (by simp only; omega) _)
  clear O1 B1
  go_wp2_with fail
  obtain ⟨q0, q1⟩ := Kn.two_co (x := .int .i64 R1) (y := .int .i64 R2) (unhide O2)
  have BF := unhide B2
  clear O2 B2 c0' c1' z0 z1
  generalize (w1.setCell ⟨w.heap.size + 1, 0, none⟩ (.int .i64 R1)).setCell ⟨w.heap.size + 1, 1, none⟩ (.int .i64 R2) = WW at *
  refine bodyPost_ret (v := .agg #[.int .i64 R1, .int .i64 R2]) (by simp [results, Try.results64, go_sem, q0, q1]; try rfl) rfl ?_
  exact ⟨rfl, BF⟩
set_option maxRecDepth 100000 in
set_option maxHeartbeats 4000000 in
theorem boundsOf_6 (c : Co) (ca : Option Addr) (cn cc : Nat) (q cap : Nat) (L : List Kn) (ho : c.op = 6) (hL : ∀ k ∈ L, Kn.Fit k) (hn : L.length ≤ 3) (w : World) (hr : Kn.Kr w q 0 L) :
    Calls Try.prog 64 #[.agg #[.int .i64 c.op, .int .i64 c.a, .int .i64 c.b, .int .i64 c.c, .int .i64 c.num, .slice ca cn cc], .slice (some ⟨q, 0, none⟩) L.length cap] w fun e w' => e = .returned (.agg #[.int .i64 (Kn.bd c L).1, .int .i64 (Kn.bd c L).2]) ∧ Below w.heap.size w w' := by
  have FIN := hide (show Kn.bd c L = L.foldl Kn.times (1, 1) by unfold Kn.bd; simp [ho])
  rw [unhide FIN]
  rw [ho]
  generalize c.a = c1 at *
  generalize c.b = c2 at *
  generalize c.c = c3 at *
  generalize c.num = c4 at *
  clear ho FIN
  obtain ⟨W, hW⟩ : ∃ W, W = ((w.alloc (.cells #[.int .i64 6, .int .i64 c1, .int .i64 c2, .int .i64 c3, .int .i64 c4, .slice ca cn cc] 48)).alloc (.cells #[.int .i64 0, .int .i64 0] 51)).alloc (.cells #[.int .i64 1, .int .i64 1] 51) := ⟨_, rfl⟩
  have ON : Own W (w.heap.size + 1) 51 [.int .i64 0, .int .i64 0] := by rw [hW]; exact Kn.new1of3 _ _ _ _ _
  have BN : Below w.heap.size w W := by rw [hW]; exact Kn.bel3 _ _ _ _
  have HC := hide (joined_times 1 1 q 0 cap L W (hr.below BN hr.1) hL ⟨⟨by decide, by decide⟩, ⟨by decide, by decide⟩⟩ hn)
  obtain ⟨R, hR⟩ : ∃ R, L.foldl Kn.times (1, 1) = R := ⟨_, rfl⟩
  rw [hR] at HC ⊢
  clear hR hr hL
  obtain ⟨R1, R2⟩ := R
  simp only at HC ⊢
  go_enter Try.func64, Try.ntmps64
  go_wp2_with fail
  rw [← hW]
  clear hW
  refine (unhide HC).mono ?_
  rintro e w1 ⟨rfl, hb1⟩
  have O1 := ON.below hb1 ON.lt
  have B1 : Below w.heap.size w w1 := BN.trans (hb1.mono BN.size)
  clear hb1 HC ON BN
  obtain ⟨c0', c1'⟩ := Kn.two_co O1
  have z0 := O1.frozen 0
  have z1 := O1.frozen 1
  have O2 := hide ((O1.set 0 (.int .i64 R1)).set 1 (.int .i64 R2))
  have B2 := hide (show Below w.heap.size w ((w1.setCell ⟨w.heap.size + 1, 0, none⟩ (.int .i64 R1)).setCell ⟨w.heap.size + 1, 1, none⟩ (.int .i64 R2)) from (B1.setCell (by simp only; omega) _).setCell (by simp only; omega) _)
  clear O1 B1
  go_wp2_with fail
  obtain ⟨q0, q1⟩ := Kn.two_co (x := .int .i64 R1) (y := .int .i64 R2) (unhide O2)
  have BF := unhide B2
  clear O2 B2 c0' c1' z0 z1
  generalize (w1.setCell ⟨w.heap.size + 1, 0, none⟩ (.int .i64 R1)).setCell ⟨w.heap.size + 1, 1, none⟩ (.int .i64 R2) = WW at *
  refine bodyPost_ret (v := .agg #[.int .i64 R1, .int .i64 R2]) (by simp [results, Try.results64, go_sem, q0, q1]; try rfl) rfl ?_
  exact ⟨rfl, BF⟩
set_option maxRecDepth 100000 in
set_option maxHeartbeats 4000000 in
theorem boundsOf_7 (c : Co) (ca : Option Addr) (cn cc : Nat) (q cap : Nat) (L : List Kn) (ho : c.op = 7) (hL : ∀ k ∈ L, Kn.Fit k) (hn : L.length ≤ 3) (w : World) (hr : Kn.Kr w q 0 L) :
    Calls Try.prog 64 #[.agg #[.int .i64 c.op, .int .i64 c.a, .int .i64 c.b, .int .i64 c.c, .int .i64 c.num, .slice ca cn cc], .slice (some ⟨q, 0, none⟩) L.length cap] w fun e w' => e = .returned (.agg #[.int .i64 (Kn.bd c L).1, .int .i64 (Kn.bd c L).2]) ∧ Below w.heap.size w w' := by
  have FIN := hide (show Kn.bd c L = L.foldl Kn.times (1, 1) by unfold Kn.bd; simp [ho])
  rw [unhide FIN]
  rw [ho]
  generalize c.a = c1 at *
  generalize c.b = c2 at *
  generalize c.c = c3 at *
  generalize c.num = c4 at *
  clear ho FIN
  obtain ⟨W, hW⟩ : ∃ W, W = ((w.alloc (.cells #[.int .i64 7, .int .i64 c1, .int .i64 c2, .int .i64 c3, .int .i64 c4, .slice ca cn cc] 48)).alloc (.cells #[.int .i64 0, .int .i64 0] 51)).alloc (.cells #[.int .i64 1, .int .i64 1] 51) := ⟨_, rfl⟩
  have ON : Own W (w.heap.size + 1) 51 [.int .i64 0, .int .i64 0] := by rw [hW]; exact Kn.new1of3 _ _ _ _ _
  have BN : Below w.heap.size w W := by rw [hW]; exact Kn.bel3 _ _ _ _
  have HC := hide (joined_times 1 1 q 0 cap L W (hr.below BN hr.1) hL ⟨⟨by decide, by decide⟩, ⟨by decide, by decide⟩⟩ hn)
  obtain ⟨R, hR⟩ : ∃ R, L.foldl Kn.times (1, 1) = R := ⟨_, rfl⟩
  rw [hR] at HC ⊢
  clear hR hr hL
  obtain ⟨R1, R2⟩ := R
  simp only at HC ⊢
  go_enter Try.func64, Try.ntmps64
  go_wp2_with fail
  rw [← hW]
  clear hW
  refine (unhide HC).mono ?_
  rintro e w1 ⟨rfl, hb1⟩
  have O1 := ON.below hb1 ON.lt
  have B1 : Below w.heap.size w w1 := BN.trans (hb1.mono BN.size)
  clear hb1 HC ON BN
  obtain ⟨c0', c1'⟩ := Kn.two_co O1
  have z0 := O1.frozen 0
  have z1 := O1.frozen 1
  have O2 := hide ((O1.set 0 (.int .i64 R1)).set 1 (.int .i64 R2))
  have B2 := hide (show Below w.heap.size w ((w1.setCell ⟨w.heap.size + 1, 0, none⟩ (.int .i64 R1)).setCell ⟨w.heap.size + 1, 1, none⟩ (.int .i64 R2)) from (B1.setCell (by simp only; omega) _).setCell (by simp only; omega) _)
  clear O1 B1
  go_wp2_with fail
  obtain ⟨q0, q1⟩ := Kn.two_co (x := .int .i64 R1) (y := .int .i64 R2) (unhide O2)
  have BF := unhide B2
  clear O2 B2 c0' c1' z0 z1
  generalize (w1.setCell ⟨w.heap.size + 1, 0, none⟩ (.int .i64 R1)).setCell ⟨w.heap.size + 1, 1, none⟩ (.int .i64 R2) = WW at *
  refine bodyPost_ret (v := .agg #[.int .i64 R1, .int .i64 R2]) (by simp [results, Try.results64, go_sem, q0, q1]; try rfl) rfl ?_
  exact ⟨rfl, BF⟩
set_option maxRecDepth 100000 in
set_option maxHeartbeats 4000000 in
theorem boundsOf_11 (c : Co) (ca : Option Addr) (cn cc : Nat) (q cap : Nat) (L : List Kn) (ho : c.op = 11) (hL : ∀ k ∈ L, Kn.Fit k) (hn : L.length ≤ 3) (w : World) (hr : Kn.Kr w q 0 L) :
    Calls Try.prog 64 #[.agg #[.int .i64 c.op, .int .i64 c.a, .int .i64 c.b, .int .i64 c.c, .int .i64 c.num, .slice ca cn cc], .slice (some ⟨q, 0, none⟩) L.length cap] w fun e w' => e = .returned (.agg #[.int .i64 (Kn.bd c L).1, .int .i64 (Kn.bd c L).2]) ∧ Below w.heap.size w w' := by
  have FIN := hide (show Kn.bd c L = L.foldl Kn.times (1, 1) by unfold Kn.bd; simp [ho])
  rw [unhide FIN]
  rw [ho]
  generalize c.a = c1 at *
  generalize c.b = c2 at *
  generalize c.c = c3 at *
  generalize c.num = c4 at *
  clear ho FIN
  obtain ⟨W, hW⟩ : ∃ W, W = ((w.alloc (.cells #[.int .i64 11, .int .i64 c1, .int .i64 c2, .int .i64 c3, .int .i64 c4, .slice ca cn cc] 48)).alloc (.cells #[.int .i64 0, .int .i64 0] 51)).alloc (.cells #[.int .i64 1, .int .i64 1] 51) := ⟨_, rfl⟩
  have ON : Own W (w.heap.size + 1) 51 [.int .i64 0, .int .i64 0] := by rw [hW]; exact Kn.new1of3 _ _ _ _ _
  have BN : Below w.heap.size w W := by rw [hW]; exact Kn.bel3 _ _ _ _
  have HC := hide (joined_times 1 1 q 0 cap L W (hr.below BN hr.1) hL ⟨⟨by decide, by decide⟩, ⟨by decide, by decide⟩⟩ hn)
  obtain ⟨R, hR⟩ : ∃ R, L.foldl Kn.times (1, 1) = R := ⟨_, rfl⟩
  rw [hR] at HC ⊢
  clear hR hr hL
  obtain ⟨R1, R2⟩ := R
  simp only at HC ⊢
  go_enter Try.func64, Try.ntmps64
  go_wp2_with fail
  rw [← hW]
  clear hW
  refine (unhide HC).mono ?_
  rintro e w1 ⟨rfl, hb1⟩
  have O1 := ON.below hb1 ON.lt
  have B1 : Below w.heap.size w w1 := BN.trans (hb1.mono BN.size)
  clear hb1 HC ON BN
  obtain ⟨c0', c1'⟩ := Kn.two_co O1
  have z0 := O1.frozen 0
  have z1 := O1.frozen 1
  have O2 := hide ((O1.set 0 (.int .i64 R1)).set 1 (.int .i64 R2))
  have B2 := hide (show Below w.heap.size w ((w1.setCell ⟨w.heap.size + 1, 0, none⟩ (.int .i64 R1)).setCell ⟨w.heap.size + 1, 1, none⟩ (.int .i64 R2)) from (B1.setCell (by simp only; omega) _).setCell (by simp only; omega) _)
  clear O1 B1
  go_wp2_with fail
  obtain ⟨q0, q1⟩ := Kn.two_co (x := .int .i64 R1) (y := .int .i64 R2) (unhide O2)
  have BF := unhide B2
  clear O2 B2 c0' c1' z0 z1
  generalize (w1.setCell ⟨w.heap.size + 1, 0, none⟩ (.int .i64 R1)).setCell ⟨w.heap.size + 1, 1, none⟩ (.int .i64 R2) = WW at *
  refine bodyPost_ret (v := .agg #[.int .i64 R1, .int .i64 R2]) (by simp [results, Try.results64, go_sem, q0, q1]; try rfl) rfl ?_
  exact ⟨rfl, BF⟩
set_option maxRecDepth 100000 in
set_option maxHeartbeats 4000000 in
theorem boundsOf_8 (c : Co) (ca : Option Addr) (cn cc : Nat) (q cap : Nat) (L : List Kn) (ho : c.op = 8) (hL : ∀ k ∈ L, Kn.Fit k) (hn : L.length = 1) (w : World) (hr : Kn.Kr w q 0 L) :
    Calls Try.prog 64 #[.agg #[.int .i64 c.op, .int .i64 c.a, .int .i64 c.b, .int .i64 c.c, .int .i64 c.num, .slice ca cn cc], .slice (some ⟨q, 0, none⟩) L.length cap] w fun e w' => e = .returned (.agg #[.int .i64 (Kn.bd c L).1, .int .i64 (Kn.bd c L).2]) ∧ Below w.heap.size w w' := by
  have FIN := hide (show Kn.bd c L = Kn.times (0, 1000) (Kn.g L 0) by unfold Kn.bd; simp [ho])
  rw [unhide FIN]
  rw [ho, hn]
  generalize c.a = c1 at *
  generalize c.b = c2 at *
  generalize c.c = c3 at *
  generalize c.num = c4 at *
  clear ho FIN
  obtain ⟨W, hW⟩ : ∃ W, W = ((w.alloc (.cells #[.int .i64 8, .int .i64 c1, .int .i64 c2, .int .i64 c3, .int .i64 c4, .slice ca cn cc] 48)).alloc (.cells #[.int .i64 0, .int .i64 0] 51)).alloc (.cells #[.int .i64 1, .int .i64 1] 51) := ⟨_, rfl⟩
  have ON : Own W (w.heap.size + 1) 51 [.int .i64 0, .int .i64 0] := by rw [hW]; exact Kn.new1of3 _ _ _ _ _
  have OC : Own W w.heap.size 48 [.int .i64 8, .int .i64 c1, .int .i64 c2, .int .i64 c3, .int .i64 c4, .slice ca cn cc] := by
    rw [hW]
    exact Own.below (w := w.alloc _) ⟨_, heap_alloc_new _ _, rfl⟩ (((Below.refl _ _).alloc (Nat.le_refl _) _).alloc (by simp) _) (by simp)
  have BN : Below w.heap.size w W := by rw [hW]; exact Kn.bel3 _ _ _ _
  have hrg : W.rangeAt q 0 (Kn.cells (Kn.g L 0)) := fun j v hv => by
    have hj : j < 20 := by have := (List.getElem?_eq_some_iff.1 hv).1; simpa [Kn.cells] using this
    have := (hr.below BN hr.1).2 0 (by omega) j hj
    simp only [Nat.zero_mul, Nat.add_zero] at this
    rw [this]; exact hv
  have hk := hL _ (show Kn.g L 0 ∈ L by unfold Kn.g; rw [List.getD_eq_getElem?_getD, List.getElem?_eq_getElem (by omega)]; exact List.getElem_mem _)
  generalize Kn.g L 0 = k at *
  have HC := hide (times_any 0 1000 k W ⟨⟨by decide, by decide⟩, ⟨by decide, by decide⟩⟩ hk)
  obtain ⟨R, hR⟩ : ∃ R, Kn.times (0, 1000) k = R := ⟨_, rfl⟩
  rw [hR] at HC ⊢
  obtain ⟨R1, R2⟩ := R
  have HC2 := hide (show Calls Try.prog 76 #[.agg #[.int .i64 0, .int .i64 1000], .agg (Kn.cells k).toArray] W fun e w' => e = .returned (.agg #[.int .i64 R1, .int .i64 R2]) ∧ Below W.heap.size W w' from unhide HC)
  have f0 : W.cell? ⟨w.heap.size, 0, none⟩ = some (.int .i64 8) := OC.cell 0
  clear hR hr hL HC hk OC
  have HC := HC2
  clear HC2
  go_enter Try.func64, Try.ntmps64
  go_upto_region 2 with fail
  rw [← hW]
  clear hW
  go_upto_region 16 with fail
  refine wp_region_lit ?_
  refine Kn.step_val (v := .agg #[.int .i64 0, .int .i64 1000]) (w' := W) rfl (by kernel_rfl) ?_
  simp only [Act.put, List.setIfInBounds_toArray, List.set_cons_zero, List.set_cons_succ]
  refine Kn.step_val (v := .slice (some ⟨q, 0, none⟩) 1 cap) (w' := W) rfl (by rfl) ?_
  simp only [Act.put, List.setIfInBounds_toArray, List.set_cons_zero, List.set_cons_succ]
  refine Kn.step_val (v := .pointer (some ⟨q, 0, none⟩)) (w' := W) rfl (by go_simp) ?_
  simp only [Act.put, List.setIfInBounds_toArray, List.set_cons_zero, List.set_cons_succ]
  refine wpList_load_mid rfl 55 (.tmp 44) rfl q 0 rfl (Kn.cells k) _ hrg Try.underlying55 rfl Kn.knInfo ?_
  simp only [Act.put, List.setIfInBounds_toArray, List.set_cons_zero, List.set_cons_succ]
  generalize (Kn.cells k).toArray = KA at *
  clear hrg
  go_wp2_with fail
  refine (unhide HC).mono ?_
  rintro e w1 ⟨rfl, hb1⟩
  have O1 := ON.below hb1 ON.lt
  have B1 : Below w.heap.size w w1 := BN.trans (hb1.mono BN.size)
  clear hb1 HC ON BN
  obtain ⟨c0', c1'⟩ := Kn.two_co O1
  have z0 := O1.frozen 0
  have z1 := O1.frozen 1
  have O2 := hide ((O1.set 0 (.int .i64 R1)).set 1 (.int .i64 R2))
  have B2 := hide (show Below w.heap.size w ((w1.setCell ⟨w.heap.size + 1, 0, none⟩ (.int .i64 R1)).setCell ⟨w.heap.size + 1, 1, none⟩ (.int .i64 R2)) from (B1.setCell (by simp only; omega) _).setCell (by simp only; omega) _)
  clear O1 B1
  go_wp2_with fail
  obtain ⟨q0, q1⟩ := Kn.two_co (x := .int .i64 R1) (y := .int .i64 R2) (unhide O2)
  have BF := unhide B2
  clear O2 B2 c0' c1' z0 z1
  generalize (w1.setCell ⟨w.heap.size + 1, 0, none⟩ (.int .i64 R1)).setCell ⟨w.heap.size + 1, 1, none⟩ (.int .i64 R2) = WW at *
  refine bodyPost_ret (v := .agg #[.int .i64 R1, .int .i64 R2]) (by simp [results, Try.results64, go_sem, q0, q1]; try rfl) rfl ?_
  exact ⟨rfl, BF⟩
set_option maxRecDepth 100000 in
set_option maxHeartbeats 4000000 in
theorem boundsOf_9 (c : Co) (ca : Option Addr) (cn cc : Nat) (q cap : Nat) (L : List Kn) (ho : c.op = 9) (hL : ∀ k ∈ L, Kn.Fit k) (hn : L.length = 1) (w : World) (hr : Kn.Kr w q 0 L) :
    Calls Try.prog 64 #[.agg #[.int .i64 c.op, .int .i64 c.a, .int .i64 c.b, .int .i64 c.c, .int .i64 c.num, .slice ca cn cc], .slice (some ⟨q, 0, none⟩) L.length cap] w fun e w' => e = .returned (.agg #[.int .i64 (Kn.bd c L).1, .int .i64 (Kn.bd c L).2]) ∧ Below w.heap.size w w' := by
  have FIN := hide (show Kn.bd c L = Kn.tried (Kn.g L 0) by unfold Kn.bd; simp [ho])
  rw [unhide FIN]
  rw [ho, hn]
  generalize c.a = c1 at *
  generalize c.b = c2 at *
  generalize c.c = c3 at *
  generalize c.num = c4 at *
  clear ho FIN
  obtain ⟨W, hW⟩ : ∃ W, W = ((w.alloc (.cells #[.int .i64 9, .int .i64 c1, .int .i64 c2, .int .i64 c3, .int .i64 c4, .slice ca cn cc] 48)).alloc (.cells #[.int .i64 0, .int .i64 0] 51)).alloc (.cells #[.int .i64 1, .int .i64 1] 51) := ⟨_, rfl⟩
  have ON : Own W (w.heap.size + 1) 51 [.int .i64 0, .int .i64 0] := by rw [hW]; exact Kn.new1of3 _ _ _ _ _
  have OC : Own W w.heap.size 48 [.int .i64 9, .int .i64 c1, .int .i64 c2, .int .i64 c3, .int .i64 c4, .slice ca cn cc] := by
    rw [hW]
    exact Own.below (w := w.alloc _) ⟨_, heap_alloc_new _ _, rfl⟩ (((Below.refl _ _).alloc (Nat.le_refl _) _).alloc (by simp) _) (by simp)
  have BN : Below w.heap.size w W := by rw [hW]; exact Kn.bel3 _ _ _ _
  have hrg : W.rangeAt q 0 (Kn.cells (Kn.g L 0)) := fun j v hv => by
    have hj : j < 20 := by have := (List.getElem?_eq_some_iff.1 hv).1; simpa [Kn.cells] using this
    have := (hr.below BN hr.1).2 0 (by omega) j hj
    simp only [Nat.zero_mul, Nat.add_zero] at this
    rw [this]; exact hv
  have hk := hL _ (show Kn.g L 0 ∈ L by unfold Kn.g; rw [List.getD_eq_getElem?_getD, List.getElem?_eq_getElem (by omega)]; exact List.getElem_mem _)
  generalize Kn.g L 0 = k at *
  have HC := hide (triedBounds_any k W)
  obtain ⟨R, hR⟩ : ∃ R, Kn.tried k = R := ⟨_, rfl⟩
  rw [hR] at HC ⊢
  obtain ⟨R1, R2⟩ := R
  have HC2 := hide (show Calls Try.prog 78 #[.agg (Kn.cells k).toArray] W fun e w' => e = .returned (.agg #[.int .i64 R1, .int .i64 R2]) ∧ Below W.heap.size W w' from unhide HC)
  have f0 : W.cell? ⟨w.heap.size, 0, none⟩ = some (.int .i64 9) := OC.cell 0
  clear hR hr hL HC hk OC
  have HC := HC2
  clear HC2
  go_enter Try.func64, Try.ntmps64
  go_upto_region 2 with fail
  rw [← hW]
  clear hW
  go_upto_region 18 with fail
  refine wp_region_lit ?_
  refine Kn.step_val (v := .slice (some ⟨q, 0, none⟩) 1 cap) (w' := W) rfl (by rfl) ?_
  simp only [Act.put, List.setIfInBounds_toArray, List.set_cons_zero, List.set_cons_succ]
  refine Kn.step_val (v := .pointer (some ⟨q, 0, none⟩)) (w' := W) rfl (by go_simp) ?_
  simp only [Act.put, List.setIfInBounds_toArray, List.set_cons_zero, List.set_cons_succ]
  refine wpList_load_mid rfl 55 (.tmp 50) rfl q 0 rfl (Kn.cells k) _ hrg Try.underlying55 rfl Kn.knInfo ?_
  simp only [Act.put, List.setIfInBounds_toArray, List.set_cons_zero, List.set_cons_succ]
  generalize (Kn.cells k).toArray = KA at *
  clear hrg
  go_wp2_with fail
  refine (unhide HC).mono ?_
  rintro e w1 ⟨rfl, hb1⟩
  have O1 := ON.below hb1 ON.lt
  have B1 : Below w.heap.size w w1 := BN.trans (hb1.mono BN.size)
  clear hb1 HC ON BN
  obtain ⟨c0', c1'⟩ := Kn.two_co O1
  have z0 := O1.frozen 0
  have z1 := O1.frozen 1
  have O2 := hide ((O1.set 0 (.int .i64 R1)).set 1 (.int .i64 R2))
  have B2 := hide (show Below w.heap.size w ((w1.setCell ⟨w.heap.size + 1, 0, none⟩ (.int .i64 R1)).setCell ⟨w.heap.size + 1, 1, none⟩ (.int .i64 R2)) from (B1.setCell (by simp only; omega) _).setCell (by simp only; omega) _)
  clear O1 B1
  go_wp2_with fail
  obtain ⟨q0, q1⟩ := Kn.two_co (x := .int .i64 R1) (y := .int .i64 R2) (unhide O2)
  have BF := unhide B2
  clear O2 B2 c0' c1' z0 z1
  generalize (w1.setCell ⟨w.heap.size + 1, 0, none⟩ (.int .i64 R1)).setCell ⟨w.heap.size + 1, 1, none⟩ (.int .i64 R2) = WW at *
  refine bodyPost_ret (v := .agg #[.int .i64 R1, .int .i64 R2]) (by simp [results, Try.results64, go_sem, q0, q1]; try rfl) rfl ?_
  exact ⟨rfl, BF⟩

end Go.Proofs.Ytkjmnkbiflkpdaa
