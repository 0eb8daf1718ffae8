/-
  Proved: at every argument impl.SkipBlanks answers as spec.SkipBlanks, every field (laws.FnExactSkipBlanks returns true). No condition.
-/
import Derived.Test.YtnjfafiikednnahSkipT
import Derived.ProofKit
import Derived.OpenShut
import Derived.ShutString
import Derived.ChangeOld
namespace Go.Proofs.Ytnjfafiikednnah
open Go.ChangeShapes Go.WideShapes Go.ChangeAt Go.RowKit
open Go.ChangeMaps (open_string shut_string)
set_option linter.unusedVariables false
set_option linter.unusedSimpArgs false

def skipOut (s : ByteArray) (a : Int) : Int × Int := if a < 0 ∨ (s.size : Int) < a then (3, 0) else (0, J.skip s a.toNat)
theorem skip_out_bad {s : ByteArray} {a : Int} (h : a < 0 ∨ (s.size : Int) < a) : skipOut s a = (3, 0) := if_pos h
theorem skip_out_ok {s : ByteArray} {k : Nat} (h : k ≤ s.size) : skipOut s (k : Int) = (0, (J.skip s k : Int)) := by
  unfold skipOut; rw [if_neg (by omega)]; rfl

set_option maxHeartbeats 1000000 in
theorem eqIntResult_same (x y : Int) (w : World) :
    Calls Try.prog 11 #[.agg #[.int .i64 x, .int .i64 y], .agg #[.int .i64 x, .int .i64 y]] w fun e w' => e = .returned (.bool true) ∧ Below w.heap.size w w' := by
  go_enter Try.func11, Try.ntmps11
  go_wp2
  go_ret
  exact ⟨rfl, by repeat (first | exact Below.refl _ _ | refine Below.setCell ?_ (Nat.le_refl _) _ | refine Below.alloc ?_ (by simp <;> omega) _)⟩

set_option maxHeartbeats 1000000 in
theorem l1In_any (a lo hi : Int) (w : World) : Calls Try.prog 25 #[.int .i64 a, .int .i64 lo, .int .i64 hi] w fun e w' => e = .returned (.bool (decide (lo ≤ a) && decide (a ≤ hi))) ∧ w' = w := by
  by_cases h1 : lo ≤ a
  · by_cases h2 : a ≤ hi
    · go_enter Try.func25, Try.ntmps25
      go_wp2
      go_ret
      exact ⟨ret_bool (by first | simp [h1, h2] | (simp; omega)), rfl⟩
    · go_enter Try.func25, Try.ntmps25
      go_wp2
      go_ret
      exact ⟨ret_bool (by first | simp [h1, h2] | (simp; omega)), rfl⟩
  · go_enter Try.func25, Try.ntmps25
    go_wp2
    go_ret
    exact ⟨ret_bool (by simp; omega), rfl⟩

set_option maxHeartbeats 1000000 in
theorem spec_SkipBlanks (s : ByteArray) (a : Int) (w : World) (hs : s.size ≤ 1048576) (h0 : -9223372036854775808 ≤ a) (h1 : a ≤ 9223372036854775807) :
    Calls Try.prog 9 #[.string s, .int .i64 a] w fun e w' => e = .returned (.agg #[.int .i64 (skipOut s a).1, .int .i64 (skipOut s a).2]) ∧ Below w.heap.size w w' := by
  have H := l1In_any a 0 (s.size : Int)
  by_cases hb : a < 0 ∨ (s.size : Int) < a
  · have fin := hide (skip_out_bad hb)
    have hd : (decide ((0 : Int) ≤ a) && decide (a ≤ (s.size : Int))) = false := by rw [Bool.and_eq_false_iff]; rcases hb with hb | hb <;> simp <;> omega
    clear hb
    go_enter Try.func9, Try.ntmps9
    go_wp2_with fail
    refine (H _).mono ?_
    rintro e w1 ⟨rfl, rfl⟩
    rw [hd]
    go_wp2_with fail
    refine bodyPost_ret (v := .agg #[.int .i64 3, .int .i64 0]) (by simp [results, Try.results9, go_sem]) rfl ⟨by rw [unhide fin], ?_⟩
    repeat (first | exact Below.refl _ _ | refine Below.setCell ?_ (Nat.le_refl _) _ | refine Below.alloc ?_ (by simp <;> omega) _)
  · obtain ⟨k, rfl⟩ : ∃ k : Nat, a = (k : Int) := ⟨a.toNat, by omega⟩
    have hk : k ≤ s.size := by omega
    have fin := hide (skip_out_ok hk)
    have hle := J.skip_le s k hk
    have hd : (decide ((0 : Int) ≤ (k : Int)) && decide ((k : Int) ≤ (s.size : Int))) = true := by simp; omega
    clear hb
    go_enter Try.func9, Try.ntmps9
    go_wp2_with fail
    refine (H _).mono ?_
    rintro e w1 ⟨rfl, rfl⟩
    rw [hd]
    go_wp2_with fail
    refine (l2Skip_any s k _ hk hs).mono ?_
    rintro e w1 ⟨rfl, rfl⟩
    generalize J.skip s k = q at *
    go_wp2_with fail
    refine bodyPost_ret (v := .agg #[.int .i64 0, .int .i64 q]) (by simp [results, Try.results9, go_sem]) rfl ⟨by rw [unhide fin], ?_⟩
    repeat (first | exact Below.refl _ _ | refine Below.setCell ?_ (Nat.le_refl _) _ | refine Below.alloc ?_ (by simp <;> omega) _)

set_option maxHeartbeats 1000000 in
theorem impl_SkipBlanks (s : ByteArray) (a : Int) (w : World) (hs : s.size ≤ 1048576) (h0 : -9223372036854775808 ≤ a) (h1 : a ≤ 9223372036854775807) :
    Calls Try.prog 10 #[.string s, .int .i64 a] w fun e w' => e = .returned (.agg #[.int .i64 (skipOut s a).1, .int .i64 (skipOut s a).2]) ∧ Below w.heap.size w w' := by
  by_cases hb1 : a < 0
  · have fin := hide (skip_out_bad (s := s) (.inl hb1))
    go_enter Try.func10, Try.ntmps10
    go_wp2_with fail
    refine bodyPost_ret (v := .agg #[.int .i64 3, .int .i64 0]) (by simp [results, Try.results10, go_sem]) rfl ⟨by rw [unhide fin], ?_⟩
    repeat (first | exact Below.refl _ _ | refine Below.setCell ?_ (Nat.le_refl _) _ | refine Below.alloc ?_ (by simp <;> omega) _)
  by_cases hb2 : (s.size : Int) < a
  · have fin := hide (skip_out_bad (s := s) (.inr hb2))
    go_enter Try.func10, Try.ntmps10
    go_wp2_with fail
    refine bodyPost_ret (v := .agg #[.int .i64 3, .int .i64 0]) (by simp [results, Try.results10, go_sem]) rfl ⟨by rw [unhide fin], ?_⟩
    repeat (first | exact Below.refl _ _ | refine Below.setCell ?_ (Nat.le_refl _) _ | refine Below.alloc ?_ (by simp <;> omega) _)
  obtain ⟨k, rfl⟩ : ∃ k : Nat, a = (k : Int) := ⟨a.toNat, by omega⟩
  have hk : k ≤ s.size := by omega
  have fin := hide (skip_out_ok hk)
  have hle := J.skip_le s k hk
  go_enter Try.func10, Try.ntmps10
  go_wp2_with fail
  have hX : Own ((w.alloc (.cells #[.int .i64 0, .int .i64 0] 28)).alloc (.cells #[.string s, .int .i64 k] 50)) w.heap.size 28 [.int .i64 0, .int .i64 0] := Own.alloc ⟨_, heap_alloc_new _ _, rfl⟩ _
  have hR : Rd ((w.alloc (.cells #[.int .i64 0, .int .i64 0] 28)).alloc (.cells #[.string s, .int .i64 k] 50)) (w.heap.size + 1) 50 s k [] := ⟨_, by rw [← show (w.alloc (.cells #[.int .i64 0, .int .i64 0] 28)).heap.size = w.heap.size + 1 by simp]; exact heap_alloc_new _ _, rfl⟩
  have B1 : Below w.heap.size w ((w.alloc (.cells #[.int .i64 0, .int .i64 0] 28)).alloc (.cells #[.string s, .int .i64 k] 50)) := ((Below.refl _ _).alloc (Nat.le_refl _) _).alloc (by simp) _
  have hsz : w.heap.size + 1 < ((w.alloc (.cells #[.int .i64 0, .int .i64 0] 28)).alloc (.cells #[.string s, .int .i64 k] 50)).heap.size := by simp
  generalize ((w.alloc (.cells #[.int .i64 0, .int .i64 0] 28)).alloc (.cells #[.string s, .int .i64 k] 50)) = w1 at *
  refine (skipBlanks_any (w.heap.size + 1) _ s k [] _ hR hk hs).mono ?_
  rintro e w2 ⟨rfl, hR2, ht2⟩
  have hX2 : Own w2 w.heap.size 28 [.int .i64 0, .int .i64 0] := by
    obtain ⟨c, h1, h2⟩ := hX
    exact ⟨c, (ht2.block w.heap.size (by omega) (by omega)).trans h1, h2⟩
  have B2 : Below w.heap.size w w2 := B1.trans (ht2.below (by omega) (by omega))
  clear hX hR B1 ht2
  generalize J.skip s k = q at *
  have r0 := hX2.cell 0
  have r1 := hX2.cell 1
  have z0 := hX2.frozen 0
  have z1 := hX2.frozen 1
  have y1 := hR2.cell 1
  simp only [List.getElem?_cons_zero, List.getElem?_cons_succ] at r0 r1 y1
  go_wp2_with fail
  refine bodyPost_ret (v := .agg #[.int .i64 0, .int .i64 q]) (by simp [results, Try.results10, go_sem, r0, r1]) rfl ⟨by rw [unhide fin], ?_⟩
  exact (B2.setCell (Nat.le_refl _) _).setCell (Nat.le_refl _) _

set_option maxRecDepth 100000 in
set_option maxHeartbeats 4000000 in
theorem lawSkipBlanks_walk (s0 : ByteArray) (a1 : Int) (w : World) (hs : s0.size ≤ maxLen) (ha0 : (Lit.int IntKind.i64 a1).wf = true) :
    Calls Try.prog 4 #[.string s0, .int .i64 a1] w fun e w' => e = .returned (.bool true) ∧ Below w.heap.size w w' := by
  have ha := bounds_i64 ha0
  clear ha0
  have B0 : Below w.heap.size w w := Below.refl _ _
  have hs' := hs
  unfold maxLen at hs'
  by_cases hbig : 1048576 < s0.size
  · go_enter Try.func4, Try.ntmps4
    go_wp2_with fail
    go_ret
    exact ⟨rfl, B0⟩
  go_enter Try.func4, Try.ntmps4
  go_wp2_with fail
  refine (spec_SkipBlanks s0 a1 _ (by omega) ha.1 ha.2).mono ?_
  rintro e w1 ⟨rfl, hb1⟩
  have B1 : Below w.heap.size w w1 := B0.trans (hb1.mono B0.size)
  generalize hR : skipOut s0 a1 = R at *
  obtain ⟨x, y⟩ := R
  simp only
  have HR := hide hR
  clear hR hb1 B0
  go_wp2_with fail
  have hX : Own (w1.alloc (.cells #[.int .i64 x, .int .i64 y] 28)) w1.heap.size 28 [.int .i64 x, .int .i64 y] := ⟨_, heap_alloc_new _ _, rfl⟩
  refine (impl_SkipBlanks s0 a1 _ (by omega) ha.1 ha.2).mono ?_
  rintro e w2 ⟨rfl, hb2⟩
  rw [unhide HR]
  simp only
  have hX2 : Own w2 w1.heap.size 28 [.int .i64 x, .int .i64 y] := hX.below hb2 (by simp)
  have B2 : Below w.heap.size w w2 := (B1.alloc B1.size _).trans (hb2.mono (by simp; have := B1.size; omega))
  clear hX hb2 B1
  have x0 : ∀ o, (w2.alloc o).cell? ⟨w1.heap.size, 0, none⟩ = some (.int .i64 x) := fun o => (hX2.alloc o).cell 0
  have x1 : ∀ o, (w2.alloc o).cell? ⟨w1.heap.size, 1, none⟩ = some (.int .i64 y) := fun o => (hX2.alloc o).cell 1
  go_wp2_with fail
  refine (eqIntResult_same x y _).mono ?_
  rintro e w3 ⟨rfl, hb3⟩
  have B3 : Below w.heap.size w w3 := (B2.alloc B2.size _).trans (hb3.mono (by simp; have := B2.size; omega))
  clear hb3 x0 x1 hX2 B2
  go_wp2_with fail
  go_ret
  exact ⟨rfl, B3⟩

namespace lawSkipBlanks
theorem own : ownKnob Try.prog.godebug = none := by kernel_rfl
theorem laidOut : laidOutB Try.prog = true := by kernel_rfl

set_option maxRecDepth 100000 in
theorem lifted (os : Os) (started : os.Started) (H : Type) (enc : TypeId × Value → H) :
    ReturnsInHanded {} Try.checked os 4 .any (Rows.fnExactSkipBlanksSpec.pre6 enc Try.prog Try.f4 Rows.fnExactSkipBlanksRow.domain false) (Rows.fnExactSkipBlanksSpec.post enc Try.prog Try.f4 false true false false) := by
  refine returnsInHanded_of_change (C := Try.checked) own started (by kernel_rfl) Try.func4
    (ChangeSpec.witness6 (enc := enc) (C := Try.checked) false ⟨#[], #[.string ByteArray.empty, .int .i64 0], []⟩ 8 (by kernel_rfl) (by kernel_rfl) (by kernel_rfl) (by kernel_rfl)) ?_
  intro W base args ds gs before hval0 hW hcnd _
  have hval : ∀ (j : Nat) t v, Try.f4.params[j]? = some t → args[j]? = some v → Value.okWide Try.prog W .any base t v := hval0
  have hW' := hW
  obtain ⟨p, q, hA0, hV, rfl, hfz, hnd⟩ := hW
  have hA : DataW.TrodAll enc Try.prog W 0 (fun _ => true) true Try.f4.params.toList args.toList ds p := hA0
  rw [Try.params4] at hA hval
  obtain ⟨v0, vs0, d0, ds0, p0, q0, hargs, rfl, rfl, h0, r0⟩ := trodAll_cons hA
  obtain ⟨v1, vs1, d1, ds1, p1, q1, rfl, rfl, rfl, h1, r1⟩ := trodAll_cons r0
  obtain ⟨rfl, rfl, rfl⟩ := trodAll_nil r1
  obtain rfl : args = #[v0, v1] := by cases args; simp_all
  obtain ⟨rfl, rfl⟩ := trodVars_none hV
  obtain ⟨a0, rfl, rfl, rfl, w0⟩ := open_string Try.underlying9 (hval 0 9 v0 rfl rfl) h0
  obtain ⟨a1, rfl, rfl, rfl, w1⟩ := open_int Try.underlying2 (hval 1 2 v1 rfl rfl) h1
  clear hA0 hval0
  refine (lawSkipBlanks_walk a0 a1 W w0 w1).mono fun e W' ⟨he, bel⟩ => ?_
  subst he
  exact ⟨_, rfl, _, _, _, [], _, [], hW', trodAll_mk1 (shut_bool Try.underlying4 _), (trodAll_cons_mk (shut_string Try.underlying9 w0) (trodAll_cons_mk (shut_int Try.underlying2 w1) trodAll_mk0)), rfl, bel.frame _, fun h => by cases h⟩

theorem over : Rows.fnExactSkipBlanksRow.holds Try.pinned (OpenSpec.ofChange Rows.fnExactSkipBlanksSpec) :=
  OpenClaim.holds_of_wide 4 Try.f4 rfl rfl rfl rfl rfl rfl rfl ⟨rfl, rfl, rfl, rfl, rfl⟩ rfl rfl rfl rfl rfl (by kernel_rfl) Try.func4 (by kernel_rfl)
    (of_decide_eq_true (by kernel_rfl)) (by unfold Func.isWrapper; first | (rw [if_pos (by decide +kernel)]; kernel_rfl) | (rw [if_neg (by decide +kernel)]; exact ⟨rfl, rfl⟩))
    (fun os started H enc _ => lifted os started H enc)
end lawSkipBlanks

/-- The statement. -/
theorem lawSkipBlanks_holds : Rows.FnExactSkipBlanksSaid := lawSkipBlanks.over
#print axioms lawSkipBlanks_holds
end Go.Proofs.Ytnjfafiikednnah
