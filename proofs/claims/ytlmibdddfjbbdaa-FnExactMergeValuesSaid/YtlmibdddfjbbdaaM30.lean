/-
  The plain mathematics of values that are made of parts: a head, and parts without a fault one behind the other, is a value without a fault. No word of the program is used here.
  impl.layArray and spec.l1Array of lists that lie anywhere.
  spec.l1Number, spec.l1String, impl.NumberValue, impl.StringValue: makers of one cell.
  A list of parts to which one more is appended; an answer whose slice was there already.
  spec.RangeOf and impl.RangeOf.
  What KeysOf tells, plainly; texts and lists that do not touch one another.
  spec.LengthOf and impl.LengthOf.
-/
import Derived.Test.YtlmibdddfjbbdaaM27
import Derived.Test.YtlmibdddfjbbdaaM28
import Derived.Test.YtlmibdddfjbbdaaM29
namespace Go.Proofs.Ytlmibdddfjbbdaa
open Go.RowKit

end Go.Proofs.Ytlmibdddfjbbdaa

namespace Go.Proofs.Ytlmibdddfjbbdaa
open Go.RowKit
set_option linter.unusedVariables false

end Go.Proofs.Ytlmibdddfjbbdaa

namespace Go.Proofs.Ytlmibdddfjbbdaa
open Go.RowKit
set_option linter.unusedVariables false

def strOut (s : ByteArray) : Int × List M.Cl := if M.textOk s = true then (0, [⟨4, 0, s, ByteArray.empty, 0⟩]) else (5, [])
theorem str_bad {s : ByteArray} (h : M.textOk s = false) : strOut s = (5, []) := by unfold strOut; rw [if_neg (by simp [h])]
theorem str_ok {s : ByteArray} (h : M.textOk s = true) : strOut s = (0, [⟨4, 0, s, ByteArray.empty, 0⟩]) := by unfold strOut; rw [if_pos h]

end Go.Proofs.Ytlmibdddfjbbdaa

namespace Go.Proofs.Ytlmibdddfjbbdaa
open Go.RowKit
set_option linter.unusedVariables false

theorem SS.snoc {w2 w3 : World} {o : Obj} {B k : Nat} {s v' sp : Value} {ps : List (List M.Cl)} {p : List M.Cl} {ss : List Value} (hk : ps.length = k) (hl : ss.length = ps.length) (hown : w2.ownsRow B 24 1 s ps.length ss) (hres : ∀ i, i < ps.length → Res w2 B (ss.getD i (.slice none 0 0)) (ps.getD i [])) (hp : Res w2 B sp p) (hg : (w2.alloc o).grownBy w3 s.ownBlock) (ho : w3.ownsRow B 24 1 v' (k + 1) (ss ++ [sp])) : SS w3 B v' (ps ++ [p]) := by
  subst hk
  have keep : ∀ (r : Value) (l : List M.Cl), Res w2 B r l → Res w3 B r l := fun r l h => grown_res (hown.alloc o) hg (h.alloc o) (by decide)
  refine ⟨ss ++ [sp], by simp [hl], by simpa using ho, fun i hi => ?_⟩
  rw [List.length_append] at hi
  simp only [List.length_cons, List.length_nil] at hi
  by_cases e : i < ps.length
  · rw [List.getD_eq_getElem?_getD, List.getElem?_append_left (by omega), ← List.getD_eq_getElem?_getD, List.getD_eq_getElem?_getD (l := ps ++ [p]), List.getElem?_append_left e, ← List.getD_eq_getElem?_getD]
    exact keep _ _ (hres i e)
  · obtain rfl : i = ps.length := by omega
    rw [List.getD_eq_getElem?_getD, List.getElem?_append_right (by omega), hl, Nat.sub_self, List.getD_eq_getElem?_getD (l := ps ++ [p]), List.getElem?_append_right (Nat.le_refl _), Nat.sub_self]
    exact keep _ _ hp
theorem SS.empty (w : World) (B b : Nat) (hb : b = w.heap.size) (hB : B ≤ b) : SS (w.alloc (.cells #[] 24)) B (.slice (some ⟨b, 0, none⟩) 0 0) [] := by
  subst hb
  exact ⟨[], rfl, ⟨rfl, .inr ⟨w.heap.size, 0, #[], rfl, hB, heap_alloc_new _ _, Nat.le_refl _, by simp [maxLen], rfl, rfl⟩⟩, fun i hi => by simp at hi⟩
def strCl (s : ByteArray) : M.Cl := ⟨4, 0, s, ByteArray.empty, 0⟩
theorem code_str {s : ByteArray} (h : M.textOk s = true) : M.cellCode (strCl s) = 0 := by
  unfold strCl M.cellCode
  simp only
  rw [if_neg (by omega), if_neg, if_neg (by omega), if_pos ⟨h, by decide⟩]
  intro h
  rcases h with h | h | h
  · exact h.1 rfl
  · exact h.2 rfl
  · exact h.1 rfl
theorem one_valid {c : M.Cl} (hc : M.cellCode c = 0) (hk : c.key.toList = []) (hn : c.n = 0) : M.valueFault [c] = 0 ∧ M.walk [c] 1 0 = some (1, 1) := by
  have hw : M.walk [c] 1 0 = some (1, 1) := by simp [M.walk, M.kids, hn]
  refine ⟨?_, hw⟩
  unfold M.valueFault
  rw [if_neg (by simp), if_neg (by simp [M.firstCode, hc])]
  simp only [List.length_cons, List.length_nil, Nat.zero_add]
  rw [hw]
  simp only
  rw [if_neg (by simp [hk]), if_neg (by omega)]
end Go.Proofs.Ytlmibdddfjbbdaa

namespace Go.Proofs.Ytlmibdddfjbbdaa
open Go.RowKit
set_option linter.unusedVariables false

end Go.Proofs.Ytlmibdddfjbbdaa

namespace Go.Proofs.Ytlmibdddfjbbdaa
open Go.RowKit
set_option linter.unusedVariables false

def TextsOk (ks : List ByteArray) : Prop := ∀ j, j < ks.length → M.textOk (ks.getD j ByteArray.empty) = true
theorem keys_text {v : List M.Cl} (hv : M.valueFault v = 0) : TextsOk (keysAt v 0) := by
  intro j hj
  have hl := (M.fault_zero hv).1
  rw [keysAt_length] at hj
  rw [show (keysAt v 0).getD j ByteArray.empty = (v.getD (M.iter v j 1) M.zero).key from by simp [keysAt, M.places, List.getD_eq_getElem?_getD, hj]]
  obtain ⟨h1, h2, h3, _⟩ := M.places_in hv 0 (by omega)
  have h5 := h1 j hj
  simp only [Nat.zero_add] at h5
  have h := code_at hv (M.iter v j 1) (by omega)
  unfold M.cellCode at h
  split at h
  · cases h
  split at h
  · cases h
  split at h
  · cases h
  split at h
  · rename_i h4; exact h4.2
  · cases h
theorem KS.alloc {w : World} {B : Nat} {v : Value} {ks : List ByteArray} (h : KS w B v ks) (o : Obj) : KS (w.alloc o) B v ks := h.below ((Below.refl _ _).alloc (Nat.le_refl _) o)
theorem SS.alloc {w : World} {B : Nat} {v : Value} {ps : List (List M.Cl)} (h : SS w B v ps) (o : Obj) : SS (w.alloc o) B v ps := h.below ((Below.refl _ _).alloc (Nat.le_refl _) o)

end Go.Proofs.Ytlmibdddfjbbdaa

namespace Go.Proofs.Ytlmibdddfjbbdaa
open Go.RowKit
set_option linter.unusedVariables false

/-- The size of a number. -/
def size (n : Int) : Int := if n < 0 then -n else n
end Go.Proofs.Ytlmibdddfjbbdaa
