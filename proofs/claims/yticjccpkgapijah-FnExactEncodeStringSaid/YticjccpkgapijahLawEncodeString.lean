/-
  Proved: at every argument impl.EncodeString answers as spec.EncodeString, every field (laws.FnExactEncodeString returns true). No condition.
-/
import Derived.Test.YticjccpkgapijahQuoT
import Derived.ProofKit
import Derived.OpenShut
import Derived.ShutString
import Derived.ChangeOld
namespace Go.Proofs.Yticjccpkgapijah
open Go.ChangeShapes Go.WideShapes Go.ChangeAt Go.RowKit
open Go.ChangeMaps (open_string shut_string)
set_option linter.unusedVariables false

def encS (s : ByteArray) : Int × ByteArray := if M.textOk s = true then (0, J.bytes (J.quote s)) else (5, ByteArray.empty)
theorem encS_bad {s : ByteArray} (h : M.textOk s = false) : encS s = (5, ByteArray.empty) := by unfold encS; rw [if_neg (by simp [h])]
theorem encS_ok {s : ByteArray} (h : M.textOk s = true) : encS s = (0, J.bytes (J.quote s)) := by unfold encS; rw [if_pos h]
theorem textOk_size {s : ByteArray} (h : M.textOk s = true) : s.size ≤ 60 := by
  unfold M.textOk at h
  simp only [Bool.and_eq_true, decide_eq_true_eq] at h
  exact h.1

set_option maxHeartbeats 1000000 in
theorem spec_EncodeString (s0 : ByteArray) (w : World) (hs : s0.size ≤ maxLen) :
    Calls Try.prog 5 #[.string s0] w fun e w' => e = .returned (.agg #[.int .i64 (encS s0).1, .string (encS s0).2]) ∧ Below w.heap.size w w' := by
  have H := hide (l1Text_any s0)
  cases ht : M.textOk s0 with
  | false =>
    have fin := hide (encS_bad ht)
    go_enter Try.func5, Try.ntmps5
    go_wp2_with fail
    refine ((unhide H) _ hs).mono ?_; rintro e w' ⟨rfl, rfl⟩
    rw [ht]
    clear ht
    go_wp2_with fail
    refine bodyPost_ret (v := .agg #[.int .i64 5, .string ByteArray.empty]) (by simp [results, Try.results5, go_sem]; rfl) rfl ⟨by rw [unhide fin], ?_⟩
    exact (Below.refl _ _).alloc (Nat.le_refl _) _
  | true =>
    have fin := hide (encS_ok ht)
    have h60 := textOk_size ht
    go_enter Try.func5, Try.ntmps5
    go_wp2_with fail
    refine ((unhide H) _ hs).mono ?_; rintro e w' ⟨rfl, rfl⟩
    rw [ht]
    clear ht
    go_wp2_with fail
    refine (l2Quote_any s0 _ h60).mono ?_; rintro e w' ⟨rfl, rfl⟩
    generalize J.bytes (J.quote s0) = q at *
    go_wp2_with fail
    refine bodyPost_ret (v := .agg #[.int .i64 0, .string q]) (by simp [results, Try.results5, go_sem]) rfl ⟨by rw [unhide fin], ?_⟩
    exact (Below.refl _ _).alloc (Nat.le_refl _) _

set_option maxHeartbeats 1000000 in
theorem impl_EncodeString (s0 : ByteArray) (w : World) (hs : s0.size ≤ maxLen) :
    Calls Try.prog 6 #[.string s0] w fun e w' => e = .returned (.agg #[.int .i64 (encS s0).1, .string (encS s0).2]) ∧ Below w.heap.size w w' := by
  have H := hide (textFits_any s0)
  cases ht : M.textOk s0 with
  | false =>
    have fin := hide (encS_bad ht)
    go_enter Try.func6, Try.ntmps6
    go_wp2_with fail
    refine ((unhide H) _ hs).mono ?_; rintro e w' ⟨rfl, rfl⟩
    rw [ht]
    clear ht
    go_wp2_with fail
    refine bodyPost_ret (v := .agg #[.int .i64 5, .string ByteArray.empty]) (by simp [results, Try.results6, go_sem]; rfl) rfl ⟨by rw [unhide fin], ?_⟩
    exact (Below.refl _ _).alloc (Nat.le_refl _) _
  | true =>
    have fin := hide (encS_ok ht)
    have h60 := textOk_size ht
    have hql := J.quote_length s0
    go_enter Try.func6, Try.ntmps6
    go_wp2_with fail
    refine ((unhide H) _ hs).mono ?_; rintro e w' ⟨rfl, rfl⟩
    rw [ht]
    clear ht
    go_wp2_with fail
    have B0 : ∀ o, Below w.heap.size w (w.alloc o) := fun o => (Below.refl _ _).alloc (Nat.le_refl _) o
    refine (appendQuoted_any (w.heap.size + 1) (.slice none 0 0) [] s0 _ (World.ownsRow_nil _ _ _ _) h60 (by simp) (by simp)).mono ?_
    rintro e w1 ⟨v, rfl, ho1, hb1⟩
    rw [List.nil_append] at ho1
    have hX : Own w1 w.heap.size 23 [.int .i64 0, .string ByteArray.empty] := Own.below ⟨_, heap_alloc_new _ _, rfl⟩ hb1 (by omega)
    have B1 : Below w.heap.size w w1 := (B0 _).trans (hb1.mono (by omega))
    rcases ho1.2 with ⟨_, h0⟩ | ⟨g, cap, cur, rfl, hgb, _⟩
    · exact absurd h0 (by unfold J.quote; simp)
    have hcv := fun W (hW : W = w1) => show (convert 33 9 (.slice (some ⟨g, 0, none⟩) (J.quote s0).length cap)).run Try.prog W = .ok (.string (J.bytes (J.quote s0))) W by
      subst hW
      exact run_convert_bytes_back _ _ _ 5 _ cap _ Try.underlying33 Try.underlying5 Try.underlying9 (J.owns_cells ho1)
    have hcv1 := hcv w1 rfl
    have r0 := hX.cell 0
    have r1 := hX.cell 1
    have z0 := hX.frozen 0
    have z1 := hX.frozen 1
    simp only [List.getElem?_cons_zero, List.getElem?_cons_succ] at r0 r1
    clear hcv ho1 hb1 B0
    generalize (J.quote s0).length = n at *
    generalize J.bytes (J.quote s0) = q at *
    go_wp2_with fail
    refine bodyPost_ret (v := .agg #[.int .i64 0, .string q]) (by simp [results, Try.results6, go_sem, r0, r1]) rfl ⟨by rw [unhide fin], ?_⟩
    exact (B1.setCell (Nat.le_refl _) _).setCell (Nat.le_refl _) _

set_option maxHeartbeats 1000000 in
theorem eqTextResult_same (x : Int) (y : ByteArray) (w : World) :
    Calls Try.prog 7 #[.agg #[.int .i64 x, .string y], .agg #[.int .i64 x, .string y]] w fun e w' => e = .returned (.bool true) ∧ Below w.heap.size w w' := by
  go_enter Try.func7, Try.ntmps7
  go_wp2
  go_ret
  exact ⟨rfl, by repeat (first | exact Below.refl _ _ | refine Below.setCell ?_ (Nat.le_refl _) _ | refine Below.alloc ?_ (by simp <;> omega) _)⟩

set_option maxRecDepth 100000 in
set_option maxHeartbeats 4000000 in
theorem lawEncodeString_walk (s0 : ByteArray) (w : World) (hs : s0.size ≤ maxLen) :
    Calls Try.prog 3 #[.string s0] w fun e w' => e = .returned (.bool true) ∧ Below w.heap.size w w' := by
  have B0 : Below w.heap.size w w := Below.refl _ _
  have hs' := hs
  unfold maxLen at hs'
  by_cases hbig : 1048576 < s0.size
  · go_enter Try.func3, Try.ntmps3
    go_wp2_with fail
    go_ret
    exact ⟨rfl, B0⟩
  go_enter Try.func3, Try.ntmps3
  go_wp2_with fail
  refine (spec_EncodeString s0 _ hs).mono ?_
  rintro e w1 ⟨rfl, hb1⟩
  have B1 : Below w.heap.size w w1 := B0.trans (hb1.mono B0.size)
  generalize hR : encS s0 = R at *
  obtain ⟨x, y⟩ := R
  simp only
  have HR := hide hR
  clear hR hb1 B0
  go_wp2_with fail
  have hX : Own (w1.alloc (.cells #[.int .i64 x, .string y] 23)) w1.heap.size 23 [.int .i64 x, .string y] := ⟨_, heap_alloc_new _ _, rfl⟩
  refine (impl_EncodeString s0 _ hs).mono ?_
  rintro e w2 ⟨rfl, hb2⟩
  rw [unhide HR]
  simp only
  have hX2 : Own w2 w1.heap.size 23 [.int .i64 x, .string y] := hX.below hb2 (by simp)
  have B2 : Below w.heap.size w w2 := (B1.alloc B1.size _).trans (hb2.mono (by simp; have := B1.size; omega))
  clear hX hb2 B1
  have x0 : ∀ o, (w2.alloc o).cell? ⟨w1.heap.size, 0, none⟩ = some (.int .i64 x) := fun o => (hX2.alloc o).cell 0
  have x1 : ∀ o, (w2.alloc o).cell? ⟨w1.heap.size, 1, none⟩ = some (.string y) := fun o => (hX2.alloc o).cell 1
  go_wp2_with fail
  refine (eqTextResult_same x y _).mono ?_
  rintro e w3 ⟨rfl, hb3⟩
  have B3 : Below w.heap.size w w3 := (B2.alloc B2.size _).trans (hb3.mono (by simp; have := B2.size; omega))
  clear hb3 x0 x1 hX2 B2
  go_wp2_with fail
  go_ret
  exact ⟨rfl, B3⟩

namespace lawEncodeString
theorem own : ownKnob Try.prog.godebug = none := by kernel_rfl
theorem laidOut : laidOutB Try.prog = true := by kernel_rfl

set_option maxRecDepth 100000 in
theorem lifted (os : Os) (started : os.Started) (H : Type) (enc : TypeId × Value → H) :
    ReturnsInHanded {} Try.checked os 3 .any (Rows.fnExactEncodeStringSpec.pre6 enc Try.prog Try.f3 Rows.fnExactEncodeStringRow.domain false) (Rows.fnExactEncodeStringSpec.post enc Try.prog Try.f3 false true false false) := by
  refine returnsInHanded_of_change (C := Try.checked) own started (by kernel_rfl) Try.func3
    (ChangeSpec.witness6 (enc := enc) (C := Try.checked) false ⟨#[], #[.string ByteArray.empty], []⟩ 8 (by kernel_rfl) (by kernel_rfl) (by kernel_rfl) (by kernel_rfl)) ?_
  intro W base args ds gs before hval0 hW hcnd _
  have hval : ∀ (j : Nat) t v, Try.f3.params[j]? = some t → args[j]? = some v → Value.okWide Try.prog W .any base t v := hval0
  have hW' := hW
  obtain ⟨p, q, hA0, hV, rfl, hfz, hnd⟩ := hW
  have hA : DataW.TrodAll enc Try.prog W 0 (fun _ => true) true Try.f3.params.toList args.toList ds p := hA0
  rw [Try.params3] at hA hval
  obtain ⟨v0, vs0, d0, ds0, p0, q0, hargs, rfl, rfl, h0, r0⟩ := trodAll_cons hA
  obtain ⟨rfl, rfl, rfl⟩ := trodAll_nil r0
  obtain rfl : args = #[v0] := by cases args; simp_all
  obtain ⟨rfl, rfl⟩ := trodVars_none hV
  obtain ⟨a0, rfl, rfl, rfl, w0⟩ := open_string Try.underlying9 (hval 0 9 v0 rfl rfl) h0
  clear hA0 hval0
  refine (lawEncodeString_walk a0 W w0).mono fun e W' ⟨he, bel⟩ => ?_
  subst he
  exact ⟨_, rfl, _, _, _, [], _, [], hW', trodAll_mk1 (shut_bool Try.underlying4 _), (trodAll_cons_mk (shut_string Try.underlying9 w0) trodAll_mk0), rfl, bel.frame _, fun h => by cases h⟩

theorem over : Rows.fnExactEncodeStringRow.holds Try.pinned (OpenSpec.ofChange Rows.fnExactEncodeStringSpec) :=
  OpenClaim.holds_of_wide 3 Try.f3 rfl rfl rfl rfl rfl rfl rfl ⟨rfl, rfl, rfl, rfl, rfl⟩ rfl rfl rfl rfl rfl (by kernel_rfl) Try.func3 (by kernel_rfl)
    (of_decide_eq_true (by kernel_rfl)) (by unfold Func.isWrapper; first | (rw [if_pos (by decide +kernel)]; kernel_rfl) | (rw [if_neg (by decide +kernel)]; exact ⟨rfl, rfl⟩))
    (fun os started H enc _ => lifted os started H enc)
end lawEncodeString

/-- The statement. -/
theorem lawEncodeString_holds : Rows.FnExactEncodeStringSaid := lawEncodeString.over
#print axioms lawEncodeString_holds
end Go.Proofs.Yticjccpkgapijah
