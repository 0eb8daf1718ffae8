/-
  spec.l1KeyLists and spec.l1Lists: lists held against one another.
  spec.l1Lists and spec.l1Compare, by induction on the length of the first value.
  spec.l1Compare returns the plain order of values.
-/
import Derived.Test.YtakdlcgiieaieaaDoorCmpM
import Derived.Test.YtakdlcgiieaieaaDoorSS
import Derived.Deep.QuietTactic
import Derived.BigQuiet
namespace Go.Proofs.YtakdlcgiieaieaaDoor
open Go.RowKit
set_option linter.unusedVariables false

/-- What spec.l1Sign answers. -/
def signB (x y : Bool) : Int := if x = true then -1 else if y = true then 1 else 0

theorem sign_len (a b : Nat) : signB (decide (a < b)) (decide (b < a)) = lenSign a b := by unfold signB lenSign; simp

theorem ownsRow_form {w : World} {base : Nat} {e : TypeId} {v : Value} {n : Nat} {xs : List Value} (h : w.ownsRow base e 1 v n xs) : (n = 0 ∧ ∃ a c, v = .slice a 0 c) ∨ (0 < n ∧ ∃ g c, v = .slice (some ⟨g, 0, none⟩) n c ∧ n ≤ c ∧ base ≤ g) := by
  rcases h.2 with ⟨rfl, rfl⟩ | ⟨g, c, cur, rfl, hg, _, hn, _⟩
  · exact .inl ⟨rfl, _, _, rfl⟩
  · by_cases h0 : n = 0
    · subst h0; exact .inl ⟨rfl, _, _, rfl⟩
    · exact .inr ⟨by omega, g, c, rfl, hn, hg⟩

/-- Which of two slices is the shorter one, told by spec.l1Sign at the end. -/
theorem shape_len {w : World} {base : Nat} {e : TypeId} {v : Value} {n : Nat} {xs : List Value} (h : w.ownsRow base e 1 v n xs) : ∃ a c, v = .slice a n c := by
  rcases ownsRow_form h with ⟨h0, a, c, h⟩ | ⟨_, g, c, h, _⟩
  · exact ⟨a, c, by rw [h, h0]⟩
  · exact ⟨_, c, h⟩

end Go.Proofs.YtakdlcgiieaieaaDoor

namespace Go.Proofs.YtakdlcgiieaieaaDoor
open Go.RowKit
set_option linter.unusedVariables false

/-- A list among others is in place, and is what it must be. -/
def AllOk (f : Nat) (ps : List (List M.Cl)) : Prop := ∀ i, i < ps.length → M.valueFault (ps.getD i []) = 0 ∧ (ps.getD i []).length ≤ f ∧ ∀ c ∈ ps.getD i [], c.ok

theorem res_some {w : World} {B : Nat} {s : Value} {l : List M.Cl} (h : Res w B s l) (hv : M.valueFault l = 0) : ∃ b cap, s = .slice (some ⟨b, 0, none⟩) l.length cap ∧ l.length ≤ cap ∧ OwnG w b 55 l := by
  obtain ⟨_, ⟨_, rfl⟩ | ⟨b, cap, h1, _, h3, h4⟩⟩ := h
  · have := (M.fault_zero hv).1; simp at this
  · exact ⟨b, cap, h1, h3, h4⟩

end Go.Proofs.YtakdlcgiieaieaaDoor

namespace Go.Proofs.YtakdlcgiieaieaaDoor
open Go.RowKit
set_option linter.unusedVariables false

theorem sign_int (a b : Int) : signB (decide (a < b)) (decide (b < a)) = sgn a b := by unfold signB sgn; simp
theorem sign_text (a b : ByteArray) : signB (Op.bytesLess a.toList b.toList) (!Op.bytesLess a.toList b.toList && !(a.toList == b.toList)) = cmpK a b := by
  unfold signB cmpK
  cases h1 : Op.bytesLess a.toList b.toList <;> cases h2 : (a.toList == b.toList) <;> simp

section
variable (f : Nat) (A C : List M.Cl)
theorem cmp_kind (h : (A.getD 0 M.zero).kind ≠ (C.getD 0 M.zero).kind) : cmpL (f + 1) A C = signB (decide ((A.getD 0 M.zero).kind < (C.getD 0 M.zero).kind)) true := by
  rw [cmpL, if_pos h]; unfold signB; simp
theorem cmp_num (h : (A.getD 0 M.zero).kind = (C.getD 0 M.zero).kind) (h3 : (A.getD 0 M.zero).kind = 3) : cmpL (f + 1) A C = sgn (A.getD 0 M.zero).num (C.getD 0 M.zero).num := by
  rw [cmpL, if_neg (fun g => g h), if_pos h3]
theorem cmp_text (h : (A.getD 0 M.zero).kind = (C.getD 0 M.zero).kind) (h3 : (A.getD 0 M.zero).kind = 4) : cmpL (f + 1) A C = cmpK (A.getD 0 M.zero).text (C.getD 0 M.zero).text := by
  rw [cmpL, if_neg (fun g => g h), if_neg (by omega), if_pos h3]
theorem cmp_arr (h : (A.getD 0 M.zero).kind = (C.getD 0 M.zero).kind) (h3 : (A.getD 0 M.zero).kind = 5) : cmpL (f + 1) A C = lex (cmpL f) (subs A 0) (subs C 0) := by
  rw [cmpL, if_neg (fun g => g h), if_neg (by omega), if_neg (by omega), if_pos h3]
theorem cmp_obj (h : (A.getD 0 M.zero).kind = (C.getD 0 M.zero).kind) (h3 : (A.getD 0 M.zero).kind = 6) : cmpL (f + 1) A C = if lex cmpK (keysAt A 0) (keysAt C 0) ≠ 0 then lex cmpK (keysAt A 0) (keysAt C 0) else lex (cmpL f) (subs A 0) (subs C 0) := by
  rw [cmpL, if_neg (fun g => g h), if_neg (by omega), if_neg (by omega), if_neg (by omega), if_pos h3]
theorem cmp_else (h : (A.getD 0 M.zero).kind = (C.getD 0 M.zero).kind) (h3 : (A.getD 0 M.zero).kind ≠ 3 ∧ (A.getD 0 M.zero).kind ≠ 4 ∧ (A.getD 0 M.zero).kind ≠ 5 ∧ (A.getD 0 M.zero).kind ≠ 6) : cmpL (f + 1) A C = 0 := by
  rw [cmpL, if_neg (fun g => g h), if_neg h3.1, if_neg h3.2.1, if_neg h3.2.2.1, if_neg h3.2.2.2]
end

theorem allOk_subs {v : List M.Cl} (hv : M.valueFault v = 0) (hok : ∀ c ∈ v, c.ok) (f : Nat) (hf : v.length ≤ f + 1) : AllOk f (subs v 0) := by
  intro i hi
  have hl := (M.fault_zero hv).1
  have hm : (subs v 0).getD i [] ∈ subs v 0 := by rw [List.getD_eq_getElem?_getD, List.getElem?_eq_getElem hi]; exact List.getElem_mem hi
  have := subs_ok hv hok (a := 0) (by omega) _ hm
  exact ⟨this.1, by omega, this.2.2⟩

end Go.Proofs.YtakdlcgiieaieaaDoor
