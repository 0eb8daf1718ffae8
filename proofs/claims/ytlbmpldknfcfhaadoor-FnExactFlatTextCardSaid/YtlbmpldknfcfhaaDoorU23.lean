/-
  impl.partOf: the value at a place by itself.
  impl.partsOf and impl.keysIn: the parts of a value, each in memory of its own, and their keys.
  Lists that are joined, and what a sum of two values is, plainly.
-/
import Derived.Test.YtlbmpldknfcfhaaDoorU13
import Derived.Test.YtlbmpldknfcfhaaDoorU16
import Derived.Test.YtlbmpldknfcfhaaDoorU19
import Derived.Test.YtlbmpldknfcfhaaDoorU21
import Derived.Test.YtlbmpldknfcfhaaDoorU22
import Derived.Laws.AppendOwnNone
namespace Go.Proofs.YtlbmpldknfcfhaaDoor
open Go.RowKit
set_option linter.unusedVariables false

set_option maxHeartbeats 1000000 in
theorem partOf_any (v : List M.Cl) (b off cap a : Nat) (w : World) (hv : M.valueFault v = 0) (ha : a < v.length) (hrow : Row w b off v) (hb : b < w.heap.size) (hcap : v.length ≤ cap) :
    Calls Tryd.prog 95 #[.slice (some ⟨b, off, none⟩) v.length cap, .int .i64 a] w fun e w' => ∃ s, e = .returned s ∧ Res w' w.heap.size s (part v a) ∧ Below w.heap.size w w' := by
  have hl := (M.fault_zero hv).2.1
  obtain ⟨d, _, h2, h3, h4⟩ := M.endOf_spec hv a (by omega)
  have HV := hide hv
  clear hv
  go_enter Tryd.func95, Tryd.ntmps95
  go_wp2_with fail
  refine (endOf_any v b off cap a _ (unhide HV) (by omega) hrow hb hcap).mono ?_
  rintro e2 w2 ⟨rfl, hw2⟩
  subst hw2
  have HP := hide (show part v a = setKey (cut v a (M.endOf v a)) ByteArray.empty from rfl)
  generalize hz : M.endOf v a = z at *
  have hcl := cut_length v a z h3
  have hne : cut v a z ≠ [] := by intro h; rw [h] at hcl; simp at hcl; omega
  have HCL := hide hcl
  clear hcl
  have HAP := hide (appendPart_any w2.heap.size (.slice none 0 0) [] (cut v a z) b (off + a * 5) (cap - a) ByteArray.empty w2 (World.ownsRow_nil _ _ _ _) (hrow.cut a z h3) hne (by rw [unhide HCL]; simp; omega) (Nat.le_refl _))
  rw [unhide HCL] at HAP
  clear hz
  go_wp2_with fail
  refine (unhide HAP).mono ?_
  rintro e3 w3 ⟨s, rfl, ho3, hb2⟩
  simp only [List.nil_append] at ho3
  have hr2 := res_of_owns ho3 (by rw [setKey_length, unhide HCL]; omega)
  rw [← unhide HP] at hr2
  clear ho3 HAP
  have HR2 := hide hr2
  clear hr2
  go_wp2_with fail
  go_ret
  exact ⟨_, rfl, unhide HR2, hb2⟩

end Go.Proofs.YtlbmpldknfcfhaaDoor

namespace Go.Proofs.YtlbmpldknfcfhaaDoor
open Go.RowKit
set_option linter.unusedVariables false

end Go.Proofs.YtlbmpldknfcfhaaDoor

namespace Go.Proofs.YtlbmpldknfcfhaaDoor
open Go.RowKit
set_option linter.unusedVariables false

theorem told_str (s : ByteArray) : told [strCl s] = strOut s := by
  cases h : M.textOk s with
  | false =>
    have hne : s.toList ≠ [] := by
      intro e
      have hs : s = ByteArray.empty := bytes_ext (by rw [e, empty_toList])
      rw [hs] at h
      exact absurd h (by decide)
    have hc : M.cellCode (strCl s) = 5 := by
      unfold strCl M.cellCode
      simp only
      rw [if_neg (by omega), if_neg, if_neg (by omega), if_neg (by simp [h])]
      intro g
      rcases g with g | g | g
      · exact g.1 rfl
      · exact g.2 rfl
      · exact g.1 rfl
    have hf : M.valueFault [strCl s] = 5 := by unfold M.valueFault; rw [if_neg (by simp)]; simp [M.firstCode, hc]
    rw [str_bad h, told_bad (by rw [hf]; decide), hf]
  | true => rw [str_ok h, told_ok (one_valid (code_str h) empty_toList rfl).1]; rfl
theorem zero_valid : M.valueFault [M.zero] = 0 ∧ ∀ c ∈ [M.zero], c.ok := by
  refine ⟨(one_valid (c := M.zero) ?_ empty_toList rfl).1, fun c hc => ?_⟩
  · unfold M.zero M.cellCode
    simp only
    rw [if_neg (by omega), if_neg, if_neg (by omega), if_pos ⟨by decide, by decide⟩]
    intro g
    rcases g with g | g | g
    · exact g.1 rfl
    · exact g.1 empty_toList
    · exact g.1 rfl
  · simp only [List.mem_cons, List.not_mem_nil, or_false] at hc
    subst hc
    unfold M.zero M.Cl.ok
    simp only
    refine ⟨by omega, by omega, by omega, by decide, by decide⟩

end Go.Proofs.YtlbmpldknfcfhaaDoor
