/-
  Members of an object as a text, plainly.
-/
import Derived.Test.YtcolohilnmikiaaDoorFmtM
namespace Go.Proofs.YtcolohilnmikiaaDoor
open Go.RowKit
set_option linter.unusedVariables false
set_option linter.unusedSimpArgs false

namespace Tr
theorem trim_at (x : ByteArray) : trimB (x ++ ⟨#[125]⟩) = x := by
  unfold trimB Lib.trimSuffix
  have e : (x ++ (⟨#[125]⟩ : ByteArray)).data.toList = x.data.toList ++ [125] := by simp
  rw [e, if_pos]
  · have : (x.data.toList ++ [125]).take ((x.data.toList ++ [(125 : UInt8)]).length - [(125 : UInt8)].length) = x.data.toList := by simp
    rw [this]
  · unfold Lib.hasSuffix
    rw [List.isSuffixOf_iff_suffix]
    exact List.suffix_append _ _
/-- An object with one member. -/
theorem mem_first {n : Nd} {b : ByteArray} : memT n (trimB ⟨#[123, 125]⟩) b = (⟨#[123]⟩ ++ ((qt n.text ++ ⟨#[58]⟩) ++ b)) ++ ⟨#[125]⟩ := by
  have e : trimB ⟨#[123, 125]⟩ = ⟨#[123]⟩ := by decide
  unfold memT
  rw [e, if_pos (by rw [ByteArray.toList_eq])]
  simp only [ByteArray.append_assoc]
/-- An object with one member more. -/
theorem mem_next {n : Nd} {P b : ByteArray} (h : 0 < P.size) : memT n (trimB ((⟨#[123]⟩ ++ P) ++ ⟨#[125]⟩)) b = (⟨#[123]⟩ ++ ((P ++ ⟨#[44]⟩) ++ ((qt n.text ++ ⟨#[58]⟩) ++ b))) ++ ⟨#[125]⟩ := by
  unfold memT
  rw [trim_at, if_neg]
  · simp only [ByteArray.append_assoc]
  · intro hc
    have := congrArg List.length hc
    rw [ByteArray.toList_eq, ← Lib.size_eq] at this
    rw [ByteArray.size_append] at this
    have e : (⟨#[123]⟩ : ByteArray).size = 1 := rfl
    simp at this
    omega
theorem join_lit {a b s t : ByteArray} (h : (⟨#[32]⟩ ++ s) ++ ⟨#[32]⟩ = t) : (((⟨#[40]⟩ ++ a) ++ t) ++ b) ++ ⟨#[41]⟩ = joinT a s b := by
  unfold joinT
  rw [← h]
  simp only [ByteArray.append_assoc]
end Tr

end Go.Proofs.YtcolohilnmikiaaDoor
