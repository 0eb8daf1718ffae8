/-
  spec.l14Merge, spec.MergeValues (mk_mgs.py).
-/
import Derived.Test.YtlmibdddfjbbdaaM36
import Derived.Test.YtlmibdddfjbbdaaM48
import Derived.Test.YtlmibdddfjbbdaaM49
namespace Go.Proofs.Ytlmibdddfjbbdaa
open Go.RowKit
set_option linter.unusedVariables false
set_option linter.unusedSimpArgs false
namespace Mg
set_option maxRecDepth 100000 in
set_option maxHeartbeats 8000000 in
theorem mergeS_leaf (f : Nat) (IH : Hid (MsSays f)) (A B : List M.Cl) (b off cap b' off' cap' : Nat) (w : World) (hv : M.valueFault A = 0) (hv' : M.valueFault B = 0) (hfl : B.length ≤ f + 1) (hrow : Row w b off A) (hb : b < w.heap.size) (hcap : A.length ≤ cap) (hrow' : Row w b' off' B) (hb' : b' < w.heap.size) (hcap' : B.length ≤ cap') (h6 : ¬ (B.getD 0 M.zero).kind = 6) :
    Calls Try.prog 17 #[.slice (some ⟨b, off, none⟩) A.length cap, .slice (some ⟨b', off', none⟩) B.length cap'] w fun e w' => ∃ s, e = .returned s ∧ Res w' w.heap.size s (merge (f + 1) A B) ∧ Below w.heap.size w w' := by
  have hl := (M.fault_zero hv').1
  have f0 := (hrow' 0 (by omega)).1
  simp only [Nat.zero_mul, Nat.add_zero] at f0
  have fin := hide (merge_b (f := f) (a := A) h6)
  have h6' : ((B.getD 0 M.zero).kind == 6) = false := by simpa using h6
  have hn : B.length ≤ 1048576 := by have := (M.fault_zero hv').2.1; omega
  generalize (B.getD 0 M.zero).kind = kd at *
  obtain ⟨i0, hi, hz0, hz1, hz2⟩ := info_parts Try.info41
  have hnews := hide (fun o => row_words (hrow'.below ((Below.refl w.heap.size w).alloc (Nat.le_refl _) o) hb'))
  have hone := hide (flat_one B)
  have HFL := hide (flat_length B)
  have hoe := hide (owns_empty5 w 41)
  have hb63 : 0 + B.length ≤ maxLen := by unfold maxLen; omega
  have hby : (0 + B.length) * 56 ≤ 140737488355328 := by omega
  clear hv hv' hrow hrow'
  go_enter Try.func17, Try.ntmps17
  go_wp2_with (at_builtin; refine wpList_append_own _ rfl (.tmp 20) (.tmp 21) 24 rfl w.heap.size 41 i0 _ 5 56 Try.underlying24 hi hz0 hz1 hz2 rfl (by decide) _ 0 [] rfl (unhide hoe) ⟨b', off', none⟩ B.length cap' (flat B) rfl (unhide HFL) ((unhide hnews) _) (unhide hone) hb63 hby (by simp) ?_)
  intro v' w' ho hg _
  have hB : Below w.heap.size w w' := ((Below.refl _ w).alloc (Nat.le_refl _) _).grown hg (by simp) (fun q hq => by simp only [Value.ownBlock, Option.some.injEq] at hq; omega)
  have hr := hide (show Res w' w.heap.size v' (merge (f + 1) A B) from by rw [unhide fin]; exact res_of_owns (l := B) (by simpa using ho) hn)
  clear ho hg
  go_wp2_with fail
  go_ret
  exact ⟨_, rfl, unhide hr, hB⟩
theorem mergeS_any : ∀ f, MsSays f
  | 0 => fun A B b off cap b' off' cap' w hv hv' hfl => by have := (M.fault_zero hv').1; omega
  | f + 1 => fun A B b off cap b' off' cap' w hv hv' hfl hrow hb hcap hrow' hb' hcap' => by
    by_cases h6 : (B.getD 0 M.zero).kind = 6
    · by_cases a6 : (A.getD 0 M.zero).kind = 6
      · exact mergeS_obj f (hide (mergeS_any f)) A B b off cap b' off' cap' w hv hv' hfl hrow hb hcap hrow' hb' hcap' h6 a6
      · exact mergeS_not f (hide (mergeS_any f)) A B b off cap b' off' cap' w hv hv' hfl hrow hb hcap hrow' hb' hcap' h6 a6
    · exact mergeS_leaf f (hide (mergeS_any f)) A B b off cap b' off' cap' w hv hv' hfl hrow hb hcap hrow' hb' hcap' h6
/-- spec.MergeValues, whole. -/
theorem specMerge_any (v : List M.Cl) (b off cap : Nat) (u : List M.Cl) (b' off' cap' : Nat) (w : World) (hrow : Row w b off v) (hb : b < w.heap.size) (hn : v.length ≤ 1048576) (hcap : v.length ≤ cap) (hok : ∀ c ∈ v, c.ok) (hrow' : Row w b' off' u) (hb' : b' < w.heap.size) (hn' : u.length ≤ 1048576) (hcap' : u.length ≤ cap') (hok' : ∀ c ∈ u, c.ok) :
    Calls Try.prog 5 #[.slice (some ⟨b, off, none⟩) v.length cap, .slice (some ⟨b', off', none⟩) u.length cap'] w (Ans w (mergeOut v u)) :=
  specMerge_of v b off cap u b' off' cap' w hrow hb hn hcap hok hrow' hb' hn' hcap' hok' (hide (mergeS_any u.length))
end Mg
end Go.Proofs.Ytlmibdddfjbbdaa
