/-
  impl.mergedOf (mk_mgj.py).
-/
import Derived.Test.YtlmibdddfjbbdaaM39
import Derived.Test.YtlmibdddfjbbdaaM40
namespace Go.Proofs.Ytlmibdddfjbbdaa
open Go.RowKit
set_option linter.unusedVariables false
set_option linter.unusedSimpArgs false
namespace Mg
set_option maxRecDepth 100000 in
set_option maxHeartbeats 8000000 in
theorem mergedOf_leaf (f : Nat) (IH : Hid (MgSays f)) (A B : List M.Cl) (b off cap b' off' cap' : Nat) (w : World) (hv : M.valueFault A = 0) (hv' : M.valueFault B = 0) (hfl : B.length ≤ f + 1) (hrow : Row w b off A) (hb : b < w.heap.size) (hcap : A.length ≤ cap) (hrow' : Row w b' off' B) (hb' : b' < w.heap.size) (hcap' : B.length ≤ cap') (h6 : ¬ (B.getD 0 M.zero).kind = 6) :
    Calls Try.prog 21 #[.slice (some ⟨b, off, none⟩) A.length cap, .slice (some ⟨b', off', none⟩) B.length cap'] w fun e w' => ∃ s, e = .returned s ∧ Res w' w.heap.size s (merge (f + 1) A B) ∧ Below w.heap.size w w' := by
  have eqn : ∀ a n c W, (binOp .neq 24 (.slice a n c) (.slice none 0 0)).run Try.prog W = .ok (.bool (!a.isNone)) W := fun a n c W => neq_nil _ _ Try.underlying24 a n c W
  obtain ⟨t0, ht0, hy0, hy1, hy2⟩ := info_parts Try.info9
  obtain ⟨i0, hi, hz0, hz1, hz2⟩ := info_parts Try.info24
  have hl := (M.fault_zero hv').1
  have hla := (M.fault_zero hv).1
  have f0 := (hrow' 0 (by omega)).1
  have g0_ := (hrow 0 (by omega)).1
  simp only [Nat.zero_mul, Nat.add_zero] at f0 g0_
  have fin := hide (merge_b (f := f) (a := A) h6)
  have h6' : ((B.getD 0 M.zero).kind == 6) = false := by simpa using h6
  have HCL := hide (clone_any B b' off' cap' w hrow' hb' (by have := (M.fault_zero hv').2.1; omega))
  generalize (B.getD 0 M.zero).kind = kd at *
  clear hv hv' hrow hrow'
  go_enter Try.func21, Try.ntmps21
  go_wp2_with fail
  refine (unhide HCL).mono ?_
  rintro e w2 ⟨s2, rfl, hr2, hb2⟩
  obtain ⟨xa, xn, xc, rfl⟩ := hr2.shape
  have FIN := hide (show Res w2 w.heap.size (.slice xa xn xc) (merge (f + 1) A B) by rw [unhide fin]; exact hr2)
  have HB2 := hide hb2
  clear hr2 hb2 HCL
  go_wp2_with fail
  go_ret
  exact ⟨_, rfl, unhide FIN, unhide HB2⟩
theorem mergedOf_any : ∀ f, MgSays f
  | 0 => fun A B b off cap b' off' cap' w hv hv' hfl => by have := (M.fault_zero hv').1; omega
  | f + 1 => fun A B b off cap b' off' cap' w hv hv' hfl hrow hb hcap hrow' hb' hcap' => by
    by_cases h6 : (B.getD 0 M.zero).kind = 6
    · by_cases a6 : (A.getD 0 M.zero).kind = 6
      · exact mergedOf_obj f (hide (mergedOf_any f)) A B b off cap b' off' cap' w hv hv' hfl hrow hb hcap hrow' hb' hcap' h6 a6
      · exact mergedOf_not f (hide (mergedOf_any f)) A B b off cap b' off' cap' w hv hv' hfl hrow hb hcap hrow' hb' hcap' h6 a6
    · exact mergedOf_leaf f (hide (mergedOf_any f)) A B b off cap b' off' cap' w hv hv' hfl hrow hb hcap hrow' hb' hcap' h6
end Mg
end Go.Proofs.Ytlmibdddfjbbdaa
