/-
  impl.stepTo, the closures that say which paths are wanted, and how much is laid.
-/
import Derived.Test.YtfcglmkbfdfaeaaDoorT36
namespace Go.Proofs.YtfcglmkbfdfaeaaDoor
open Go.RowKit
set_option linter.unusedVariables false
set_option linter.unusedSimpArgs false
namespace Al
set_option maxHeartbeats 1000000 in
theorem keyStep_any (s : ByteArray) (w : World) : Calls Tryd.prog 72 #[.string s] w fun e w' => e = .returned (.agg #[.int .i64 4, .int .i64 0, .string s, .string { data := #[] }, .int .i64 0]) ∧ Below w.heap.size w w' := by
  go_enter Tryd.func72, Tryd.ntmps72
  go_wp2_with fail
  refine bodyPost_ret (v := .agg #[.int .i64 4, .int .i64 0, .string s, .string { data := #[] }, .int .i64 0]) (by simp [results, Tryd.results72, go_sem]) rfl ⟨rfl, (Below.refl _ _).alloc (Nat.le_refl _) _⟩
set_option maxHeartbeats 1000000 in
theorem placeStep_any (n : Int) (w : World) : Calls Tryd.prog 73 #[.int .i64 n] w fun e w' => e = .returned (.agg #[.int .i64 3, .int .i64 n, .string { data := #[] }, .string { data := #[] }, .int .i64 0]) ∧ Below w.heap.size w w' := by
  go_enter Tryd.func73, Tryd.ntmps73
  go_wp2_with fail
  refine bodyPost_ret (v := .agg #[.int .i64 3, .int .i64 n, .string { data := #[] }, .string { data := #[] }, .int .i64 0]) (by simp [results, Tryd.results73, go_sem]) rfl ⟨rfl, (Below.refl _ _).alloc (Nat.le_refl _) _⟩
theorem below_set5 {w W : World} (B : Below w.heap.size w W) (x0 x1 x2 x3 x4 : Value) : Below w.heap.size w (((((W.setCell ⟨w.heap.size, 0, none⟩ x0).setCell ⟨w.heap.size, 1, none⟩ x1).setCell ⟨w.heap.size, 2, none⟩ x2).setCell ⟨w.heap.size, 3, none⟩ x3).setCell ⟨w.heap.size, 4, none⟩ x4) :=
  ((((B.setCell (Nat.le_refl _) _).setCell (Nat.le_refl _) _).setCell (Nat.le_refl _) _).setCell (Nat.le_refl _) _).setCell (Nat.le_refl _) _

set_option maxRecDepth 100000 in
set_option maxHeartbeats 2000000 in
theorem stepTo_any (v : List M.Cl) (b off cap a k p : Nat) (w : World) (ha : a < v.length) (hp : p < v.length) (hrow : Row w b off v) (hb : b < w.heap.size) (hcap : v.length ≤ cap) (hn : v.length ≤ 200) (ks : List ByteArray) (hks : (v.getD p M.zero).key = ks.getD k ByteArray.empty) :
    Calls Tryd.prog 56 #[.slice (some ⟨b, off, none⟩) v.length cap, .int .i64 (a : Int), .int .i64 (k : Int), .int .i64 (p : Int)] w fun e w' => e = .returned (.agg #[.int .i64 (stepAt (decide ((v.getD a M.zero).kind = 6)) ks k).kind, .int .i64 (stepAt (decide ((v.getD a M.zero).kind = 6)) ks k).num, .string (stepAt (decide ((v.getD a M.zero).kind = 6)) ks k).text, .string (stepAt (decide ((v.getD a M.zero).kind = 6)) ks k).key, .int .i64 (stepAt (decide ((v.getD a M.zero).kind = 6)) ks k).n]) ∧ Below w.heap.size w w' := by
  have B0 : ∀ y, Below w.heap.size w (w.alloc y) := fun y => (Below.refl _ _).alloc (Nat.le_refl _) y
  have HB0 := hide B0
  have f0 : ∀ y, (w.alloc y).cell? ⟨b, off + a * 5, none⟩ = some (.int .i64 (v.getD a M.zero).kind) := fun y => ((B0 y).cell hb).trans (hrow a ha).1
  have f3 : ∀ y, (w.alloc y).cell? ⟨b, off + p * 5 + 3, none⟩ = some (.string (ks.getD k ByteArray.empty)) := fun y => by rw [← hks]; exact ((B0 y).cell hb).trans (hrow p hp).2.2.2.1
  have aI : (a : Int) < (v.length : Int) := by omega
  have pI : (p : Int) < (v.length : Int) := by omega
  have a0 : (0 : Int) ≤ (a : Int) := by omega
  have p0 : (0 : Int) ≤ (p : Int) := by omega
  have E6 := hide (fun h : (v.getD a M.zero).kind = 6 => (show stepAt (decide ((v.getD a M.zero).kind = 6)) ks k = ⟨4, 0, ks.getD k ByteArray.empty, ByteArray.empty, 0⟩ by rw [h]; rfl))
  have E5 := hide (fun h : (v.getD a M.zero).kind ≠ 6 => (show stepAt (decide ((v.getD a M.zero).kind = 6)) ks k = ⟨3, (k : Int), ByteArray.empty, ByteArray.empty, 0⟩ by rw [decide_eq_false h]; rfl))
  generalize ks.getD k ByteArray.empty = key at *
  generalize stepAt (decide ((v.getD a M.zero).kind = 6)) ks k = st at *
  clear hrow hks B0
  by_cases h6 : (v.getD a M.zero).kind = 6
  · have E := hide ((unhide E6) h6)
    have HK := hide (fun W => keyStep_any key W)
    rw [h6] at f0
    clear E5 E6 h6
    go_enter Tryd.func56, Tryd.ntmps56
    go_wp2_with fail
    refine ((unhide HK) _).mono ?_
    rintro e w1 ⟨rfl, hb1⟩
    have hR : Own w1 w.heap.size 43 [.int .i64 0, .int .i64 0, .string { data := #[] }, .string { data := #[] }, .int .i64 0] := Own.below ⟨_, heap_alloc_new _ _, rfl⟩ hb1 (by simp)
    have B1 : Below w.heap.size w w1 := ((unhide HB0) _).trans (hb1.mono (by simp))
    have r0 := hR.cell 0
    have r1 := hR.cell 1
    have r2 := hR.cell 2
    have r3 := hR.cell 3
    have r4 := hR.cell 4
    have z0 := hR.frozen 0
    have z1 := hR.frozen 1
    have z2 := hR.frozen 2
    have z3 := hR.frozen 3
    have z4 := hR.frozen 4
    simp only [List.getElem?_cons_zero, List.getElem?_cons_succ] at r0 r1 r2 r3 r4
    clear hb1 hR HK
    go_wp2_with fail
    refine bodyPost_ret (v := .agg #[.int .i64 4, .int .i64 0, .string key, .string { data := #[] }, .int .i64 0]) (by simp [results, Tryd.results56, go_sem, r0, r1, r2, r3, r4]) rfl ⟨by rw [unhide E]; rfl, below_set5 B1 _ _ _ _ _⟩
  · have E := hide ((unhide E5) h6)
    have HK := hide (fun W => placeStep_any (k : Int) W)
    have h6' : ((v.getD a M.zero).kind == 6) = false := beq_eq_false_iff_ne.2 h6
    generalize (v.getD a M.zero).kind = kd at *
    clear E5 E6 h6
    go_enter Tryd.func56, Tryd.ntmps56
    go_wp2_with fail
    refine ((unhide HK) _).mono ?_
    rintro e w1 ⟨rfl, hb1⟩
    have hR : Own w1 w.heap.size 43 [.int .i64 0, .int .i64 0, .string { data := #[] }, .string { data := #[] }, .int .i64 0] := Own.below ⟨_, heap_alloc_new _ _, rfl⟩ hb1 (by simp)
    have B1 : Below w.heap.size w w1 := ((unhide HB0) _).trans (hb1.mono (by simp))
    have r0 := hR.cell 0
    have r1 := hR.cell 1
    have r2 := hR.cell 2
    have r3 := hR.cell 3
    have r4 := hR.cell 4
    have z0 := hR.frozen 0
    have z1 := hR.frozen 1
    have z2 := hR.frozen 2
    have z3 := hR.frozen 3
    have z4 := hR.frozen 4
    simp only [List.getElem?_cons_zero, List.getElem?_cons_succ] at r0 r1 r2 r3 r4
    clear hb1 hR HK
    go_wp2_with fail
    refine bodyPost_ret (v := .agg #[.int .i64 3, .int .i64 (k : Int), .string { data := #[] }, .string { data := #[] }, .int .i64 0]) (by simp [results, Tryd.results56, go_sem, r0, r1, r2, r3, r4]) rfl ⟨by rw [unhide E]; rfl, below_set5 B1 _ _ _ _ _⟩

/-- How much is laid on the way. -/
theorem allK_iter (leaves : Bool) (f : Nat) {v : List M.Cl} (hv : M.valueFault v = 0) (ahead : List M.Cl) : ∀ k, k ≤ M.arity v 0 → (allK (all leaves f) (decide ((v.getD 0 M.zero).kind = 6)) (keysAt v 0) (subs v 0) ahead k).length + 1 ≤ M.iter v k 1 := by
  intro k
  induction k with
  | zero => intro _; exact Nat.le_refl _
  | succ k ih =>
    intro hk
    have i1 := ih (by omega)
    obtain ⟨_, p2, p3⟩ := part_lt hv (show k < M.arity v 0 by omega)
    have h := all_len leaves f (part v (M.iter v k 1)) (ahead ++ [stepAt (decide ((v.getD 0 M.zero).kind = 6)) (keysAt v 0) k]) p3
    rw [allK, List.length_append, subs_getD v 0 k (by omega), Nat.zero_add]
    omega
theorem all_plen {leaves : Bool} {f : Nat} {v ahead p : List M.Cl} (hv : M.valueFault v = 0) (h : p ∈ all leaves f v ahead) : p.length + 1 ≤ ahead.length + v.length := by
  obtain ⟨q, e, _, hq, _⟩ := (all_leads leaves f v ahead p hv h).ex
  rw [e, List.length_append]
  omega
theorem bound (leaves : Bool) (f : Nat) {v : List M.Cl} (hv : M.valueFault v = 0) (ahead : List M.Cl) (hsz : ahead.length + v.length ≤ 300) (k : Nat) (hk : k ≤ M.arity v 0) :
    (own leaves (v.getD 0 M.zero).n ahead ++ allK (all leaves f) (decide ((v.getD 0 M.zero).kind = 6)) (keysAt v 0) (subs v 0) ahead k).length ≤ M.iter v k 1 ∧
    (lays (own leaves (v.getD 0 M.zero).n ahead ++ allK (all leaves f) (decide ((v.getD 0 M.zero).kind = 6)) (keysAt v 0) (subs v 0) ahead k)).length ≤ 301 * M.iter v k 1 := by
  have h1 := allK_iter leaves f hv ahead k hk
  have h2 := own_len leaves (v.getD 0 M.zero).n ahead
  have hL : (own leaves (v.getD 0 M.zero).n ahead ++ allK (all leaves f) (decide ((v.getD 0 M.zero).kind = 6)) (keysAt v 0) (subs v 0) ahead k).length ≤ M.iter v k 1 := by rw [List.length_append]; omega
  refine ⟨hL, Nat.le_trans (lays_le (B := 300) fun p hp => ?_) (Nat.mul_le_mul_left 301 hL)⟩
  rcases List.mem_append.1 hp with hp | hp
  · have e : p = ahead := by
      unfold own at hp
      split at hp
      · simpa using hp
      · simp at hp
    rw [e]; have := (M.fault_zero hv).1; omega
  · obtain ⟨j, hj, hm⟩ := mem_allK hp
    have hj' : j < M.arity v 0 := by omega
    obtain ⟨p1, p2, p3⟩ := part_lt hv hj'
    have hi := iter_le hv (show j + 1 ≤ M.arity v 0 by omega)
    have hi0 := (iter_le hv (Nat.le_of_lt hj')).1
    rw [subs_getD v 0 j hj', Nat.zero_add] at hm
    have := all_plen p3 hm
    rw [List.length_append, List.length_cons, List.length_nil] at this
    omega
/-- What is known of a place within a value. -/
structure At (v : List M.Cl) (a : Nat) (k : Nat) : Prop where
  lt : M.iter v k (a + 1) < v.length
  sub : (subs v a).getD k [] = part v (M.iter v k (a + 1))
  val : M.valueFault (part v (M.iter v k (a + 1))) = 0
  key : (keysAt v a).getD k ByteArray.empty = (v.getD (M.iter v k (a + 1)) M.zero).key
  len : M.iter (part v a) k 1 + (part v (M.iter v k (a + 1))).length = M.iter (part v a) (k + 1) 1
  up : M.iter (part v a) (k + 1) 1 ≤ (part v a).length
  lo : k + 1 ≤ M.iter (part v a) k 1
theorem at_place {v : List M.Cl} (hv : M.valueFault v = 0) {a : Nat} (ha : a < v.length) {k : Nat} (hk : k < M.arity v a) : At v a k := by
  have hpv := part_valid hv ha
  have hk' : k < M.arity (part v a) 0 := by rw [part_arity hv ha]; exact hk
  obtain ⟨p1, p2, p3⟩ := part_lt hpv hk'
  have hi := iter_le hpv (Nat.le_of_lt hk')
  have hu := iter_le hpv (show k + 1 ≤ M.arity (part v a) 0 by omega)
  have hit := part_iter hv ha k (by omega)
  have hpl := part_len hv ha
  have hpp := part_part hv ha (M.iter (part v a) k 1) (by omega) (by omega)
  rw [show a + M.iter (part v a) k 1 = M.iter v k (a + 1) by omega] at hpp
  have he := end_gt hv ha
  exact ⟨by omega, subs_getD v a k hk, by rw [← hpp]; exact p3, keysAt_getD v a k hk, by rw [← hpp]; exact p2, hu.2, hi.1⟩
theorem bound_at (leaves : Bool) (f : Nat) {v : List M.Cl} (hv : M.valueFault v = 0) {a : Nat} (ha : a < v.length) (ahead : List M.Cl) (hsz : ahead.length + (part v a).length ≤ 300) (k : Nat) (hk : k ≤ M.arity v a) :
    (own leaves (v.getD a M.zero).n ahead ++ allK (all leaves f) (decide ((v.getD a M.zero).kind = 6)) (keysAt v a) (subs v a) ahead k).length ≤ M.iter (part v a) k 1 ∧
    (lays (own leaves (v.getD a M.zero).n ahead ++ allK (all leaves f) (decide ((v.getD a M.zero).kind = 6)) (keysAt v a) (subs v a) ahead k)).length ≤ 301 * M.iter (part v a) k 1 := by
  have := bound leaves f (part_valid hv ha) ahead hsz k (by rw [part_arity hv ha]; exact hk)
  rwa [part_zero hv ha, (subs_part hv ha).1, (subs_part hv ha).2] at this

theorem wantE (c : M.Cl) (w : World) : Calls Tryd.prog 16 #[.agg #[.int .i64 c.kind, .int .i64 c.num, .string c.text, .string c.key, .int .i64 c.n]] w fun e w' => e = .returned (.bool true) ∧ Below w.heap.size w w' := by
  go_enter Tryd.func16, Tryd.ntmps16
  go_wp2_with fail
  go_ret
  exact ⟨rfl, (Below.refl _ _).alloc (Nat.le_refl _) _⟩
theorem wantL (c : M.Cl) (w : World) : Calls Tryd.prog 18 #[.agg #[.int .i64 c.kind, .int .i64 c.num, .string c.text, .string c.key, .int .i64 c.n]] w fun e w' => e = .returned (.bool (c.n == 0)) ∧ Below w.heap.size w w' := by
  go_enter Tryd.func18, Tryd.ntmps18
  go_wp2_with fail
  go_ret
  exact ⟨rfl, (Below.refl _ _).alloc (Nat.le_refl _) _⟩
/-- What layFrom says. -/
def LaySays (leaves : Bool) (fv : Value) (f : Nat) : Prop := ∀ (v : List M.Cl) (b off cap a : Nat) (ahead : List M.Cl) (sv : Value) (base PB : Nat) (C : List M.Cl) (E : List Nat) (cv ev : Value) (w : World), M.valueFault v = 0 → a < v.length → (part v a).length ≤ f → Row w b off v → b < base → base ≤ w.heap.size → v.length ≤ cap →
  Ls base w PB C E cv ev → w.ownsRow base 43 5 sv ahead.length (flat ahead) → Dis cv sv → ahead.length + (part v a).length ≤ 300 → C.length + 301 * (part v a).length ≤ 100000 → E.length + (part v a).length ≤ 1000 →
  Calls Tryd.prog 33 #[.pointer (some ⟨PB, 0, none⟩), .slice (some ⟨b, off, none⟩) v.length cap, .int .i64 (a : Int), sv, fv] w fun e w' => e = .returned (.tuple #[]) ∧ LaidP base w PB C E cv ev sv ahead (all leaves f (part v a) ahead) w'
end Al
end Go.Proofs.YtfcglmkbfdfaeaaDoor
