/-
  Proved: at every two arguments impl.SameRuns answers as spec.SameRuns and writes nothing into them (laws.FnExactSameRuns returns true). No condition.
-/
import Derived.Test.YtmbefapdckhjdaaRunT
import Derived.Test.YtmbefapdckhjdaaArg
import Derived.ShutString
import Derived.ChangeOld
import Derived.Lib.SmallJoins
import Derived.Deep.RegionHeldLaw
import Derived.Deep.DeepFit
namespace Go.Proofs.Ytmbefapdckhjdaa
open Go.ChangeShapes Go.WideShapes Go.ChangeAt Go.RowKit
set_option linter.unusedVariables false
set_option linter.unusedSimpArgs false

theorem LL.setLow {w : World} {g : Nat} {ps : List (List M.Cl)} (h : LL w g ps) (p : Addr) (v : Value) (hp : p.block < g) : LL (w.setCell p v) g ps := by
  obtain ⟨xs, β, h1, h2, h3⟩ := h
  refine ⟨xs, β, h1.setOther _ _ (by omega), h2, fun i hi => ⟨(h3 i hi).1, (h3 i hi).2.1, ?_, (h3 i hi).2.2.2⟩⟩
  obtain ⟨ys, y1, y2⟩ := (h3 i hi).2.2.1
  exact ⟨ys, y1.setOther _ _ (by have := (h3 i hi).2.1; omega), y2⟩
theorem runs_ok {w : World} {a : Option Addr} {cap : Nat} {es : List Ar} (h : Lists w a cap es) : OkS (lists es) := by
  intro i hi c hc
  rw [lists_length] at hi
  rw [lists_getD] at hc
  exact (h.2.2.1 _ (ar_mem hi)).2.2.1 c hc
set_option maxHeartbeats 1000000 in
theorem szRun_any (c d : Int) (a : Option Addr) (cap : Nat) (es : List Ar) (left : Int) (w : World) (h : Lists w a cap es) (h0 : 0 ≤ left) (h1 : left ≤ 1048576) :
    Calls Try.prog 14 #[.agg #[.int .i64 c, .int .i64 d, .slice a es.length cap], .int .i64 left] w fun e w' => ∃ r : Int, e = .returned (.int .i64 r) ∧ (r < 0 ∨ (0 ≤ r ∧ r ≤ left ∧ es.length ≤ 1048576 ∧ tot (lists es) (lists es).length ≤ 1048576)) ∧ Below w.heap.size w w' := by
  obtain ⟨w0, hw0⟩ : ∃ w0, w0 = w.alloc (.cells #[.int .i64 c, .int .i64 d, .slice a es.length cap] 37) := ⟨_, rfl⟩
  have B0 : Below w.heap.size w w0 := by rw [hw0]; exact (Below.refl _ _).alloc (Nat.le_refl _) _
  have HC := hide (szCellSS_any a cap es left w0 (h.below B0) h0 h1)
  clear h
  go_enter Try.func14, Try.ntmps14
  go_wp2_with fail
  try rw [← hw0]
  clear hw0
  refine (unhide HC).mono ?_
  rintro e w1 ⟨r, rfl, hr, hb1⟩
  have B1 : Below w.heap.size w w1 := B0.trans (hb1.mono B0.size)
  rcases hr with hr | ⟨hr0, hr1⟩
  · go_wp2_with fail
    go_ret
    exact ⟨-1, rfl, .inl (by decide), B1⟩
  · have HR := hide hr1
    clear hr1
    have hr3 : ¬ r < 0 := by omega
    go_wp2_with fail
    go_ret
    exact ⟨r, rfl, .inr ⟨hr0, unhide HR⟩, B1⟩

set_option maxRecDepth 100000 in
set_option maxHeartbeats 1000000 in
theorem toRun_any (c d : Int) (a : Option Addr) (cap : Nat) (es : List Ar) (w : World) (h : Lists w a cap es) (hn : es.length ≤ 1048576) (hln : tot (lists es) (lists es).length ≤ 1048576) :
    Calls Try.prog 16 #[.agg #[.int .i64 c, .int .i64 d, .slice a es.length cap]] w fun e w' => ∃ g : Nat, e = .returned (.agg #[.int .i64 c, .int .i64 d, .slice (some ⟨g, 0, none⟩) (lists es).length (lists es).length]) ∧ LR w' g (lists es) ∧ Below w.heap.size w w' := by
  obtain ⟨w0, hw0⟩ : ∃ w0, w0 = ((w.alloc (.cells #[.int .i64 c, .int .i64 d, .slice a es.length cap] 37)).alloc (.cells #[.int .i64 0, .int .i64 0, .slice none 0 0] 42)).alloc (.cells #[.int .i64 c, .int .i64 d, .slice none 0 0] 42) := ⟨_, rfl⟩
  have S0 : w0.heap.size = w.heap.size + 3 := by rw [hw0]; simp
  have B0 : Below w.heap.size w w0 := by rw [hw0]; exact (((Below.refl _ _).alloc (Nat.le_refl _) _).alloc (by simp) _).alloc (by simp; omega) _
  have Y0 : Own w0 (w.heap.size + 1) 42 [.int .i64 0, .int .i64 0, .slice none 0 0] := by
    rw [hw0]
    refine Own.alloc ⟨_, (by rw [show w.heap.size + 1 = (w.alloc (.cells #[.int .i64 c, .int .i64 d, .slice a es.length cap] 37)).heap.size by simp]; exact heap_alloc_new _ _), rfl⟩ _
  have Z0 : Own w0 (w.heap.size + 2) 42 [.int .i64 c, .int .i64 d, .slice none 0 0] := by
    rw [hw0]
    refine ⟨_, (by rw [show w.heap.size + 2 = ((w.alloc (.cells #[.int .i64 c, .int .i64 d, .slice a es.length cap] 37)).alloc (.cells #[.int .i64 0, .int .i64 0, .slice none 0 0] 42)).heap.size by simp]; exact heap_alloc_new _ _), rfl⟩
  have HC := hide (toCellSS_any a cap es w0 (h.below B0) hn hln)
  clear h
  go_enter Try.func16, Try.ntmps16
  go_wp2_with fail
  try rw [← hw0]
  clear hw0
  refine (unhide HC).mono ?_
  rintro e w1 ⟨rfl, hl, hb1⟩
  have Y1 := Y0.below hb1 Y0.lt
  have Z1 := Z0.below hb1 Z0.lt
  have B1 : Below w.heap.size w w1 := B0.trans (hb1.mono B0.size)
  have y0 := Y1.cell 0
  have y1 := Y1.cell 1
  have y2 := Y1.cell 2
  have z0 := Z1.cell 0
  have z1 := Z1.cell 1
  have z2 := Z1.cell 2
  simp only [List.getElem?_cons_zero, List.getElem?_cons_succ] at y0 y1 y2 z0 z1 z2
  have p0 := Y1.frozen 0
  have p1 := Y1.frozen 1
  have p2 := Y1.frozen 2
  have q2 := Z1.frozen 2
  obtain ⟨gb, hgb⟩ : ∃ gb, gb = w0.heap.size := ⟨_, rfl⟩
  rw [← hgb] at hl ⊢
  rw [← lists_length es] at *
  have HL := hide hl
  have hg3 : w.heap.size + 3 ≤ gb := by omega
  clear hl hgb HC hb1
  go_wp2_with fail
  refine bodyPost_ret (v := .agg #[.int .i64 c, .int .i64 d, .slice (some ⟨gb, 0, none⟩) (lists es).length (lists es).length]) (by simp [results, Try.results16, go_sem, y0, y1, y2, z0, z1, z2]; try rfl) rfl ⟨gb, rfl, ?_, ?_⟩
  · exact (((((unhide HL).setLow _ _ (by show w.heap.size + 1 + 1 < gb; omega)).setLow _ _ (by show w.heap.size + 1 < gb; omega)).setLow _ _ (by show w.heap.size + 1 < gb; omega)).setLow _ _ (by show w.heap.size + 1 < gb; omega)).row
  · exact (((B1.setCell (by show w.heap.size ≤ w.heap.size + 1 + 1; omega) _).setCell (by show w.heap.size ≤ w.heap.size + 1; omega) _).setCell (by show w.heap.size ≤ w.heap.size + 1; omega) _).setCell (by show w.heap.size ≤ w.heap.size + 1; omega) _

set_option maxHeartbeats 1000000 in
theorem eqRun_same (c d : Int) (g h : Nat) (ps : List (List M.Cl)) (w : World) (h1 : LR w g ps) (h2 : LR w h ps) (hn : ps.length ≤ 1048576) (ht : tot ps ps.length ≤ 1048576) :
    Calls Try.prog 18 #[.agg #[.int .i64 c, .int .i64 d, .slice (some ⟨g, 0, none⟩) ps.length ps.length], .agg #[.int .i64 c, .int .i64 d, .slice (some ⟨h, 0, none⟩) ps.length ps.length]] w fun e w' => e = .returned (.bool true) ∧ Below w.heap.size w w' := by
  obtain ⟨w0, hw0⟩ : ∃ w0, w0 = (w.alloc (.cells #[.int .i64 c, .int .i64 d, .slice (some ⟨g, 0, none⟩) ps.length ps.length] 42)).alloc (.cells #[.int .i64 c, .int .i64 d, .slice (some ⟨h, 0, none⟩) ps.length ps.length] 42) := ⟨_, rfl⟩
  have B0 : Below w.heap.size w w0 := by rw [hw0]; exact ((Below.refl _ _).alloc (Nat.le_refl _) _).alloc (by simp) _
  have HC := hide (eqCellSS_same g h ps w0 (h1.below B0) (h2.below B0) hn ht)
  clear h1 h2
  go_enter Try.func18, Try.ntmps18
  go_wp2_with fail
  try rw [← hw0]
  clear hw0
  refine (unhide HC).mono ?_
  rintro e w1 ⟨rfl, hb1⟩
  have B1 : Below w.heap.size w w1 := B0.trans (hb1.mono B0.size)
  go_wp2_with fail
  go_ret
  exact ⟨rfl, B1⟩

set_option maxRecDepth 100000 in
set_option maxHeartbeats 1000000 in
theorem lawSameRuns_walk (c d : Int) (a : Option Addr) (cap : Nat) (es : List Ar) (c' d' : Int) (a' : Option Addr) (cap' : Nat) (es' : List Ar) (w : World) (hA : Lists w a cap es) (hA' : Lists w a' cap' es') :
    Calls Try.prog 4 #[.agg #[.int .i64 c, .int .i64 d, .slice a es.length cap], .agg #[.int .i64 c', .int .i64 d', .slice a' es'.length cap']] w fun e w' => e = .returned (.bool true) ∧ Below w.heap.size w w' := by
  obtain ⟨w0, hw0⟩ : ∃ w0, w0 = (w.alloc (.cells #[.int .i64 c, .int .i64 d, .slice a es.length cap] 37)).alloc (.cells #[.int .i64 c', .int .i64 d', .slice a' es'.length cap'] 37) := ⟨_, rfl⟩
  have B0 : Below w.heap.size w w0 := by rw [hw0]; exact ((Below.refl _ _).alloc (Nat.le_refl _) _).alloc (by simp) _
  have X0 : Own w0 w.heap.size 37 [.int .i64 c, .int .i64 d, .slice a es.length cap] := by rw [hw0]; exact Own.alloc ⟨_, heap_alloc_new _ _, rfl⟩ _
  have Y0 : Own w0 (w.heap.size + 1) 37 [.int .i64 c', .int .i64 d', .slice a' es'.length cap'] := by rw [hw0]; refine ⟨_, (by rw [show w.heap.size + 1 = (w.alloc (.cells #[.int .i64 c, .int .i64 d, .slice a es.length cap] 37)).heap.size by simp]; exact heap_alloc_new _ _), rfl⟩
  have KEEP := hide (show ∀ W, Below w0.heap.size w0 W → (Below w0.heap.size w0 W ∧ W.cell? ⟨w.heap.size, 0, none⟩ = some (.int .i64 c) ∧ W.cell? ⟨w.heap.size, 1, none⟩ = some (.int .i64 d) ∧ W.cell? ⟨w.heap.size, 2, none⟩ = some (.slice a es.length cap) ∧ W.cell? ⟨w.heap.size + 1, 0, none⟩ = some (.int .i64 c') ∧ W.cell? ⟨w.heap.size + 1, 1, none⟩ = some (.int .i64 d') ∧ W.cell? ⟨w.heap.size + 1, 2, none⟩ = some (.slice a' es'.length cap')) from fun W hb => by
    have X := X0.below hb X0.lt
    have Y := Y0.below hb Y0.lt
    exact ⟨hb, X.cell 0, X.cell 1, X.cell 2, Y.cell 0, Y.cell 1, Y.cell 2⟩)
  have SZ1 := hide (fun (W : World) (hb : Below w0.heap.size w0 W) (left : Int) h0 h1 => szRun_any c d a cap es left W (hA.below (B0.trans (hb.mono B0.size))) h0 h1)
  have SZ2 := hide (fun (W : World) (hb : Below w0.heap.size w0 W) (left : Int) h0 h1 => szRun_any c' d' a' cap' es' left W (hA'.below (B0.trans (hb.mono B0.size))) h0 h1)
  have TO1 := hide (fun (W : World) (hb : Below w0.heap.size w0 W) hn ht => toRun_any c d a cap es W (hA.below (B0.trans (hb.mono B0.size))) hn ht)
  have TO2 := hide (fun (W : World) (hb : Below w0.heap.size w0 W) hn ht => toRun_any c' d' a' cap' es' W (hA'.below (B0.trans (hb.mono B0.size))) hn ht)
  have OK1 := hide (runs_ok hA)
  have OK2 := hide (runs_ok hA')
  clear hA hA' X0 Y0
  obtain ⟨_, c0, c1, c2, d0, d1, d2⟩ := (unhide KEEP) w0 (Below.refl _ _)
  go_enter Try.func4, Try.ntmps4
  go_wp2_with fail
  rw [← hw0]
  clear hw0 c0 c1 c2 d0 d1 d2
  refine ((unhide SZ1) w0 (Below.refl _ _) 1048576 (by decide) (by decide)).mono ?_
  rintro e w1 ⟨r, rfl, hr, b1⟩
  rcases hr with hr | ⟨hr0, hr1, hn1, ht1⟩
  · go_wp2_with fail
    go_ret
    exact ⟨rfl, B0.trans (b1.mono B0.size)⟩
  obtain ⟨_, c0, c1, c2, d0, d1, d2⟩ := (unhide KEEP) w1 b1
  have hr2 : ¬ r < 0 := by omega
  go_wp2_with fail
  clear c0 c1 c2 d0 d1 d2
  refine ((unhide SZ2) w1 b1 r hr0 hr1).mono ?_
  rintro e w2 ⟨r', rfl, hr, b2⟩
  have B2 : Below w0.heap.size w0 w2 := b1.trans (b2.mono b1.size)
  clear b1 b2 hr2
  rcases hr with hr | ⟨hr3, hr4, hn2, ht2⟩
  · go_wp2_with fail
    go_ret
    exact ⟨rfl, B0.trans (B2.mono B0.size)⟩
  have hr5 : ¬ r' < 0 := by omega
  have T1 := hide (fun W hb => (unhide TO1) W hb hn1 ht1)
  have T2 := hide (fun W hb => (unhide TO2) W hb hn2 ht2)
  rw [← lists_length es] at hn1
  rw [← lists_length es'] at hn2
  have SP := hide (fun (W : World) g h (l1 : LR W g (lists es)) (l2 : LR W h (lists es')) => specSameRuns_any c d c' d' g h (lists es) (lists es') W l1 l2 hn1 hn2 ht1 ht2 (unhide OK1) (unhide OK2))
  have IM := hide (fun (W : World) g h (l1 : LR W g (lists es)) (l2 : LR W h (lists es')) => implSameRuns_any c d c' d' g h (lists es) (lists es') W l1 l2 hn1 hn2 ht1 ht2 (unhide OK1) (unhide OK2))
  have EQ1 := hide (fun (W : World) g h (l1 : LR W g (lists es)) (l2 : LR W h (lists es)) => eqRun_same c d g h (lists es) W l1 l2 hn1 ht1)
  have EQ2 := hide (fun (W : World) g h (l1 : LR W g (lists es')) (l2 : LR W h (lists es')) => eqRun_same c' d' g h (lists es') W l1 l2 hn2 ht2)
  clear TO1 TO2 SZ1 SZ2 hr0 hr1 hr3 hr4 hn1 hn2 ht1 ht2 OK1 OK2
  generalize lists es = ps at *
  generalize lists es' = qs at *
  have S2 := (unhide KEEP) w2 B2
  go_wp2_with fail
  clear hr5
  go_region_held_law (fun w' => Below w0.heap.size w0 w' ∧ w'.cell? ⟨w.heap.size, 0, none⟩ = some (.int .i64 c) ∧ w'.cell? ⟨w.heap.size, 1, none⟩ = some (.int .i64 d) ∧ w'.cell? ⟨w.heap.size, 2, none⟩ = some (.slice a es.length cap) ∧ w'.cell? ⟨w.heap.size + 1, 0, none⟩ = some (.int .i64 c') ∧ w'.cell? ⟨w.heap.size + 1, 1, none⟩ = some (.int .i64 d') ∧ w'.cell? ⟨w.heap.size + 1, 2, none⟩ = some (.slice a' es'.length cap'))
    (first | assumption | exact (unhide KEEP) _ (by assumption) | exact (unhide KEEP) _ (Below.drew (by assumption)))
    (first
    | (go_at_call 16
       go_fit ((unhide T1) _ (And.left (by assumption)))
       rintro ea wa ⟨ga, rfl, la, ba⟩
       have Ba : Below w0.heap.size w0 wa := Below.trans (And.left (by assumption)) (ba.mono (Below.size (B := w0.heap.size) (And.left (by assumption))))
       try have lb := lb.below ba)
    | (go_at_call 16
       go_fit ((unhide T2) _ (And.left (by assumption)))
       rintro eb wb ⟨gb, rfl, lb, bb⟩
       have Bb : Below w0.heap.size w0 wb := Below.trans (And.left (by assumption)) (bb.mono (Below.size (B := w0.heap.size) (And.left (by assumption))))
       try have la := la.below bb)
    | (go_at_call 15
       refine ((unhide SP) _ _ _ la lb).mono ?_
       rintro e5 w5 ⟨⟨q, rfl, hq⟩, b5⟩
       have B5 : Below w0.heap.size w0 w5 := Below.trans (And.left (by assumption)) (b5.mono (Below.size (B := w0.heap.size) (And.left (by assumption))))))
  all_goals
    obtain ⟨_, c0, c1, c2, d0, d1, d2⟩ := (unhide KEEP) w5 B5
    clear S2
    go_wp2_with fail
    clear c0 c1 c2 d0 d1 d2
    refine ((unhide T1) w5 B5).mono ?_
    rintro e wA ⟨gA, rfl, lA, bA⟩
    have BA : Below w0.heap.size w0 wA := B5.trans (bA.mono B5.size)
    obtain ⟨w6, hw6⟩ : ∃ w6, w6 = wA.alloc (.cells #[.int .i64 c, .int .i64 d, .slice (some ⟨gA, 0, none⟩) ps.length ps.length] 42) := ⟨_, rfl⟩
    have b6 : Below wA.heap.size wA w6 := by rw [hw6]; exact (Below.refl _ _).alloc (Nat.le_refl _) _
    have B6 : Below w0.heap.size w0 w6 := BA.trans (b6.mono BA.size)
    have OA : Own w6 wA.heap.size 42 [.int .i64 c, .int .i64 d, .slice (some ⟨gA, 0, none⟩) ps.length ps.length] := by rw [hw6]; exact ⟨_, heap_alloc_new _ _, rfl⟩
    have lA := lA.below b6
    obtain ⟨_, c0, c1, c2, d0, d1, d2⟩ := (unhide KEEP) w6 B6
    rw [hw6] at c0 c1 c2 d0 d1 d2
    clear b6 bA
    go_wp2_with fail
    rw [← hw6]
    clear hw6 c0 c1 c2 d0 d1 d2
    refine ((unhide T2) w6 B6).mono ?_
    rintro e wB ⟨gB, rfl, lB, bB⟩
    have BB : Below w0.heap.size w0 wB := B6.trans (bB.mono B6.size)
    have lA := lA.below bB
    have OA := OA.below bB OA.lt
    obtain ⟨w7, hw7⟩ : ∃ w7, w7 = wB.alloc (.cells #[.int .i64 c', .int .i64 d', .slice (some ⟨gB, 0, none⟩) qs.length qs.length] 42) := ⟨_, rfl⟩
    have b7 : Below wB.heap.size wB w7 := by rw [hw7]; exact (Below.refl _ _).alloc (Nat.le_refl _) _
    have B7 : Below w0.heap.size w0 w7 := BB.trans (b7.mono BB.size)
    have OB : Own w7 wB.heap.size 42 [.int .i64 c', .int .i64 d', .slice (some ⟨gB, 0, none⟩) qs.length qs.length] := by rw [hw7]; exact ⟨_, heap_alloc_new _ _, rfl⟩
    have lA := lA.below b7
    have lB := lB.below b7
    have OA := OA.below b7 OA.lt
    have o0 := OA.cell 0
    have o1 := OA.cell 1
    have o2 := OA.cell 2
    simp only [List.getElem?_cons_zero, List.getElem?_cons_succ] at o0 o1 o2
    rw [hw7] at o0 o1 o2
    clear b7 bB
    go_wp2_with fail
    rw [← hw7]
    clear hw7 o0 o1 o2
    skip
    refine ((unhide IM) w7 _ _ lA lB).mono ?_
    rintro e w8 ⟨⟨q', rfl, hq'⟩, b8⟩
    have hqq : q' = q := by
      cases q' <;> cases q <;> first | rfl | exact absurd (hq.2 (hq'.1 rfl)) (by decide) | exact absurd (hq'.2 (hq.1 rfl)) (by decide)
    subst hqq
    have hqn : (q' != q') = false := by simp
    clear hq hq'
    have B8 : Below w0.heap.size w0 w8 := B7.trans (b8.mono B7.size)
    have lA := lA.below b8
    have lB := lB.below b8
    have OA := OA.below b8 OA.lt
    have OB := OB.below b8 OB.lt
    have KEEP8 := hide (show ∀ W, Below w8.heap.size w8 W → (Below w8.heap.size w8 W ∧ W.cell? ⟨wA.heap.size, 0, none⟩ = some (.int .i64 c) ∧ W.cell? ⟨wA.heap.size, 1, none⟩ = some (.int .i64 d) ∧ W.cell? ⟨wA.heap.size, 2, none⟩ = some (.slice (some ⟨gA, 0, none⟩) ps.length ps.length) ∧ W.cell? ⟨wB.heap.size, 0, none⟩ = some (.int .i64 c') ∧ W.cell? ⟨wB.heap.size, 1, none⟩ = some (.int .i64 d') ∧ W.cell? ⟨wB.heap.size, 2, none⟩ = some (.slice (some ⟨gB, 0, none⟩) qs.length qs.length) ∧ W.cell? ⟨w.heap.size, 0, none⟩ = some (.int .i64 c) ∧ W.cell? ⟨w.heap.size, 1, none⟩ = some (.int .i64 d) ∧ W.cell? ⟨w.heap.size, 2, none⟩ = some (.slice a es.length cap) ∧ W.cell? ⟨w.heap.size + 1, 0, none⟩ = some (.int .i64 c') ∧ W.cell? ⟨w.heap.size + 1, 1, none⟩ = some (.int .i64 d') ∧ W.cell? ⟨w.heap.size + 1, 2, none⟩ = some (.slice a' es'.length cap')) from fun W hb => by
      have h := (unhide KEEP) W (B8.trans (hb.mono B8.size))
      have X := OA.below hb OA.lt
      have Y := OB.below hb OB.lt
      exact ⟨hb, X.cell 0, X.cell 1, X.cell 2, Y.cell 0, Y.cell 1, Y.cell 2, h.2⟩)
    have S8 := (unhide KEEP8) w8 (Below.refl _ _)
    clear b8 OA OB
    go_wp2_with fail
    skip
    go_region_held_law (fun w' => Below w8.heap.size w8 w' ∧ w'.cell? ⟨wA.heap.size, 0, none⟩ = some (.int .i64 c) ∧ w'.cell? ⟨wA.heap.size, 1, none⟩ = some (.int .i64 d) ∧ w'.cell? ⟨wA.heap.size, 2, none⟩ = some (.slice (some ⟨gA, 0, none⟩) ps.length ps.length) ∧ w'.cell? ⟨wB.heap.size, 0, none⟩ = some (.int .i64 c') ∧ w'.cell? ⟨wB.heap.size, 1, none⟩ = some (.int .i64 d') ∧ w'.cell? ⟨wB.heap.size, 2, none⟩ = some (.slice (some ⟨gB, 0, none⟩) qs.length qs.length) ∧ w'.cell? ⟨w.heap.size, 0, none⟩ = some (.int .i64 c) ∧ w'.cell? ⟨w.heap.size, 1, none⟩ = some (.int .i64 d) ∧ w'.cell? ⟨w.heap.size, 2, none⟩ = some (.slice a es.length cap) ∧ w'.cell? ⟨w.heap.size + 1, 0, none⟩ = some (.int .i64 c') ∧ w'.cell? ⟨w.heap.size + 1, 1, none⟩ = some (.int .i64 d') ∧ w'.cell? ⟨w.heap.size + 1, 2, none⟩ = some (.slice a' es'.length cap'))
      (first | assumption | exact (unhide KEEP8) _ (by assumption) | exact (unhide KEEP8) _ (Below.drew (by assumption)) | exact (unhide KEEP8) _ (Below.refl _ _).drew)
      (first
      | (go_at_call 16
         go_fit ((unhide T1) _ (B8.trans (Below.mono (And.left (by assumption)) B8.size)))
         rintro eC wC ⟨gC, rfl, lC, bC⟩
         have BC : Below w8.heap.size w8 wC := Below.trans (And.left (by assumption)) (bC.mono (Below.size (B := w8.heap.size) (And.left (by assumption)))))
      | (go_at_call 18
         go_fit ((unhide EQ1) _ _ _ (lA.below BC) lC)
         rintro e9 w9 ⟨rfl, b9⟩
         have B9 : Below w8.heap.size w8 w9 := BC.trans (b9.mono BC.size)))
    clear S8
    have S9 := (unhide KEEP8) w9 B9
    go_wp2_with fail
    skip
    go_region_held_law (fun w' => Below w8.heap.size w8 w' ∧ w'.cell? ⟨wA.heap.size, 0, none⟩ = some (.int .i64 c) ∧ w'.cell? ⟨wA.heap.size, 1, none⟩ = some (.int .i64 d) ∧ w'.cell? ⟨wA.heap.size, 2, none⟩ = some (.slice (some ⟨gA, 0, none⟩) ps.length ps.length) ∧ w'.cell? ⟨wB.heap.size, 0, none⟩ = some (.int .i64 c') ∧ w'.cell? ⟨wB.heap.size, 1, none⟩ = some (.int .i64 d') ∧ w'.cell? ⟨wB.heap.size, 2, none⟩ = some (.slice (some ⟨gB, 0, none⟩) qs.length qs.length) ∧ w'.cell? ⟨w.heap.size, 0, none⟩ = some (.int .i64 c) ∧ w'.cell? ⟨w.heap.size, 1, none⟩ = some (.int .i64 d) ∧ w'.cell? ⟨w.heap.size, 2, none⟩ = some (.slice a es.length cap) ∧ w'.cell? ⟨w.heap.size + 1, 0, none⟩ = some (.int .i64 c') ∧ w'.cell? ⟨w.heap.size + 1, 1, none⟩ = some (.int .i64 d') ∧ w'.cell? ⟨w.heap.size + 1, 2, none⟩ = some (.slice a' es'.length cap'))
      (first | assumption | exact (unhide KEEP8) _ (by assumption) | exact (unhide KEEP8) _ (Below.drew (by assumption)) | exact (unhide KEEP8) _ (Below.refl _ _).drew)
      (first
      | (go_at_call 16
         go_fit ((unhide T2) _ (B8.trans (Below.mono (And.left (by assumption)) B8.size)))
         rintro eD wD ⟨gD, rfl, lD, bD⟩
         have BD : Below w8.heap.size w8 wD := Below.trans (And.left (by assumption)) (bD.mono (Below.size (B := w8.heap.size) (And.left (by assumption)))))
      | (go_at_call 18
         go_fit ((unhide EQ2) _ _ _ (lB.below BD) lD)
         rintro e10 w10 ⟨rfl, b10⟩
         have B10 : Below w8.heap.size w8 w10 := BD.trans (b10.mono BD.size)))
    go_wp2_with fail
    go_ret
    exact ⟨rfl, B0.trans ((B8.trans (B10.mono B8.size)).mono B0.size)⟩

namespace lawSameRuns
theorem own : ownKnob Try.prog.godebug = none := by kernel_rfl
theorem laidOut : laidOutB Try.prog = true := by kernel_rfl

set_option maxRecDepth 100000 in
theorem lifted (os : Os) (started : os.Started) (H : Type) (enc : TypeId × Value → H) :
    ReturnsInHanded {} Try.checked os 4 .any (Rows.fnExactSameRunsSpec.pre6 enc Try.prog Try.f4 Rows.fnExactSameRunsRow.domain false) (Rows.fnExactSameRunsSpec.post enc Try.prog Try.f4 false true false false) := by
  refine returnsInHanded_of_change (C := Try.checked) own started (by kernel_rfl) Try.func4
    (ChangeSpec.witness6 (enc := enc) (C := Try.checked) false ⟨#[], #[.agg #[.int .i64 0, .int .i64 0, .slice none 0 0], .agg #[.int .i64 0, .int .i64 0, .slice none 0 0]], []⟩ 8 (by kernel_rfl) (by kernel_rfl) (by kernel_rfl) (by kernel_rfl)) ?_
  intro W base args ds gs before hval0 hW hcnd _
  have hval : ∀ (j : Nat) t v, Try.f4.params[j]? = some t → args[j]? = some v → Value.okWide Try.prog W .any base t v := hval0
  have hW' := hW
  obtain ⟨p, q, hA0, hV, rfl, hfz, hnd⟩ := hW
  have hA : DataW.TrodAll enc Try.prog W 0 (fun _ => true) true Try.f4.params.toList args.toList ds p := hA0
  rw [Try.params4] at hA hval
  obtain ⟨v0, vs0, d0, ds0, p0, q0, hargs, rfl, rfl, h0, r0⟩ := trodAll_cons hA
  obtain ⟨v1, vs1, d1, ds1, p1, q1, rfl, rfl, rfl, h1, r1⟩ := trodAll_cons r0
  obtain ⟨rfl, rfl, rfl⟩ := trodAll_nil r1
  obtain rfl : args = #[v0, v1] := by cases args; simp_all
  obtain ⟨rfl, rfl⟩ := trodVars_none hV
  have k0 := h0
  have lt0 : ∀ x ∈ p0, x.block < W.heap.size := by obtain ⟨m, hm⟩ := k0; exact DataW.trod_lt m _ _ _ hm
  obtain ⟨c00, c01, c02, y00, y01, y02, m0, rfl, hd0, hp0, hy00, hy01, hy02⟩ := Go.Joins.open_agg3 Try.underlying37 (by kernel_rfl) (show Try.prog.cellsOf 37 = 3 by kernel_rfl) (hval 0 37 v0 rfl rfl) h0
  obtain ⟨z0, e00, _, wz00⟩ := DataW.trod_int Try.underlying2 hy00
  obtain ⟨u0, e01, _, wz01⟩ := DataW.trod_int Try.underlying2 hy01
  simp only [List.cons.injEq, and_true] at e00 e01
  subst e00 e01
  obtain ⟨a0, len0, cap0, rfl⟩ : ∃ a' l' c', c02 = .slice a' l' c' := by
    rcases Go.Deep.open_slice Try.underlying35 hy02 with ⟨hcs, _⟩ | ⟨ad, len', cap', m, n, D, Pl, hcs, _⟩
    · simp only [List.cons.injEq, and_true] at hcs; exact ⟨_, _, _, hcs⟩
    · simp only [List.cons.injEq, and_true] at hcs; exact ⟨_, _, _, hcs⟩
  obtain ⟨l0, hl0, w0⟩ : ∃ es : List Ar, es.length = len0 ∧ Lists W a0 cap0 es := open_lists hy02
  subst hl0
  have k1 := h1
  have lt1 : ∀ x ∈ p1, x.block < W.heap.size := by obtain ⟨m, hm⟩ := k1; exact DataW.trod_lt m _ _ _ hm
  obtain ⟨c10, c11, c12, y10, y11, y12, m1, rfl, hd1, hp1, hy10, hy11, hy12⟩ := Go.Joins.open_agg3 Try.underlying37 (by kernel_rfl) (show Try.prog.cellsOf 37 = 3 by kernel_rfl) (hval 1 37 v1 rfl rfl) h1
  obtain ⟨z1, e10, _, wz10⟩ := DataW.trod_int Try.underlying2 hy10
  obtain ⟨u1, e11, _, wz11⟩ := DataW.trod_int Try.underlying2 hy11
  simp only [List.cons.injEq, and_true] at e10 e11
  subst e10 e11
  obtain ⟨a1, len1, cap1, rfl⟩ : ∃ a' l' c', c12 = .slice a' l' c' := by
    rcases Go.Deep.open_slice Try.underlying35 hy12 with ⟨hcs, _⟩ | ⟨ad, len', cap', m, n, D, Pl, hcs, _⟩
    · simp only [List.cons.injEq, and_true] at hcs; exact ⟨_, _, _, hcs⟩
    · simp only [List.cons.injEq, and_true] at hcs; exact ⟨_, _, _, hcs⟩
  obtain ⟨l1, hl1, w1⟩ : ∃ es : List Ar, es.length = len1 ∧ Lists W a1 cap1 es := open_lists hy12
  subst hl1
  clear hA0 hval0
  refine (lawSameRuns_walk z0 u0 a0 cap0 l0 z1 u1 a1 cap1 l1 W w0 w1).mono fun e W' ⟨he, bel⟩ => ?_
  subst he
  exact ⟨_, rfl, _, _, _, [], _, [], hW', trodAll_mk1 (shut_bool Try.underlying4 _), (trodAll_cons_mk (Below.trod laidOut (by kernel_rfl) (of_decide_eq_true (by kernel_rfl)) k0 bel lt0) (trodAll_cons_mk (Below.trod laidOut (by kernel_rfl) (of_decide_eq_true (by kernel_rfl)) k1 bel lt1) trodAll_mk0)), rfl, bel.frame _, fun h => by cases h⟩

theorem over : Rows.fnExactSameRunsRow.holds Try.pinned (OpenSpec.ofChange Rows.fnExactSameRunsSpec) :=
  OpenClaim.holds_of_wide 4 Try.f4 rfl rfl rfl rfl rfl rfl rfl ⟨rfl, rfl, rfl, rfl, rfl⟩ rfl rfl rfl rfl rfl (by kernel_rfl) Try.func4 (by kernel_rfl)
    (of_decide_eq_true (by kernel_rfl)) (by unfold Func.isWrapper; first | (rw [if_pos (by decide +kernel)]; kernel_rfl) | (rw [if_neg (by decide +kernel)]; exact ⟨rfl, rfl⟩))
    (fun os started H enc _ => lifted os started H enc)
end lawSameRuns

/-- The statement. -/
theorem lawSameRuns_holds : Rows.FnExactSameRunsSaid := lawSameRuns.over
#print axioms lawSameRuns_holds

end Go.Proofs.Ytmbefapdckhjdaa
