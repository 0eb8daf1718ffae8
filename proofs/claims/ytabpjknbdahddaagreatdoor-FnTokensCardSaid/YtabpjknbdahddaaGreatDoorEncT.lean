/-
  impl.EncodeString and spec.EncodeString answer encS.
-/
import Derived.Test.YtabpjknbdahddaaGreatDoorQuoT
namespace Go.Proofs.YtabpjknbdahddaaGreatDoor
open Go.RowKit
set_option linter.unusedVariables false

def encS (s : ByteArray) : Int × ByteArray := if M.textOk s = true then (0, J.bytes (J.quote s)) else (5, ByteArray.empty)
theorem encS_bad {s : ByteArray} (h : M.textOk s = false) : encS s = (5, ByteArray.empty) := by unfold encS; rw [if_neg (by simp [h])]
theorem encS_ok {s : ByteArray} (h : M.textOk s = true) : encS s = (0, J.bytes (J.quote s)) := by unfold encS; rw [if_pos h]
theorem textOk_size {s : ByteArray} (h : M.textOk s = true) : s.size ≤ 60 := by
  unfold M.textOk at h
  simp only [Bool.and_eq_true, decide_eq_true_eq] at h
  exact h.1

set_option maxHeartbeats 1000000 in
theorem impl_EncodeString (s0 : ByteArray) (w : World) (hs : s0.size ≤ maxLen) :
    Calls Tryz.prog 39 #[.string s0] w fun e w' => e = .returned (.agg #[.int .i64 (encS s0).1, .string (encS s0).2]) ∧ Below w.heap.size w w' := by
  have H := hide (textFits_any s0)
  cases ht : M.textOk s0 with
  | false =>
    have fin := hide (encS_bad ht)
    go_enter Tryz.func39, Tryz.ntmps39
    go_wp2_with fail
    refine ((unhide H) _ hs).mono ?_; rintro e w' ⟨rfl, rfl⟩
    rw [ht]
    clear ht
    go_wp2_with fail
    refine bodyPost_ret (v := .agg #[.int .i64 5, .string ByteArray.empty]) (by simp [results, Tryz.results39, go_sem]; rfl) rfl ⟨by rw [unhide fin], ?_⟩
    exact (Below.refl _ _).alloc (Nat.le_refl _) _
  | true =>
    have fin := hide (encS_ok ht)
    have h60 := textOk_size ht
    have hql := J.quote_length s0
    go_enter Tryz.func39, Tryz.ntmps39
    go_wp2_with fail
    refine ((unhide H) _ hs).mono ?_; rintro e w' ⟨rfl, rfl⟩
    rw [ht]
    clear ht
    go_wp2_with fail
    have B0 : ∀ o, Below w.heap.size w (w.alloc o) := fun o => (Below.refl _ _).alloc (Nat.le_refl _) o
    refine (appendQuoted_any (w.heap.size + 1) (.slice none 0 0) [] s0 _ (World.ownsRow_nil _ _ _ _) h60 (by simp) (by simp)).mono ?_
    rintro e w1 ⟨v, rfl, ho1, hb1k⟩
    have hb1 := hb1k.1
    clear hb1k
    rw [List.nil_append] at ho1
    have hX : Own w1 w.heap.size 27 [.int .i64 0, .string ByteArray.empty] := Own.below ⟨_, heap_alloc_new _ _, rfl⟩ hb1 (by omega)
    have B1 : Below w.heap.size w w1 := (B0 _).trans (hb1.mono (by omega))
    rcases ho1.2 with ⟨_, h0⟩ | ⟨g, cap, cur, rfl, hgb, _⟩
    · exact absurd h0 (by unfold J.quote; simp)
    have hcv := fun W (hW : W = w1) => show (convert 22 9 (.slice (some ⟨g, 0, none⟩) (J.quote s0).length cap)).run Tryz.prog W = .ok (.string (J.bytes (J.quote s0))) W by
      subst hW
      exact run_convert_bytes_back _ _ _ 5 _ cap _ Tryz.underlying22 Tryz.underlying5 Tryz.underlying9 (J.owns_cells ho1)
    have hcv1 := hcv w1 rfl
    have r0 := hX.cell 0
    have r1 := hX.cell 1
    have z0 := hX.frozen 0
    have z1 := hX.frozen 1
    simp only [List.getElem?_cons_zero, List.getElem?_cons_succ] at r0 r1
    clear hcv ho1 hb1 B0
    generalize (J.quote s0).length = n at *
    generalize J.bytes (J.quote s0) = q at *
    go_wp2_with fail
    refine bodyPost_ret (v := .agg #[.int .i64 0, .string q]) (by simp [results, Tryz.results39, go_sem, r0, r1]) rfl ⟨by rw [unhide fin], ?_⟩
    exact (B1.setCell (Nat.le_refl _) _).setCell (Nat.le_refl _) _

end Go.Proofs.YtabpjknbdahddaaGreatDoor
