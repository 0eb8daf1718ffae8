/-
  The order of values is an order: plainly. Values put in one by one. No word of the program is used here.
-/
import Derived.Test.YtemehbjlfiebdaaGreatX17
import Derived.Test.YtemehbjlfiebdaaGreatX18
import Derived.Test.YtemehbjlfiebdaaGreatX37
namespace Go.Proofs.YtemehbjlfiebdaaGreat
open Go.RowKit
set_option linter.unusedVariables false

theorem subs_val {v : List M.Cl} (hv : M.valueFault v = 0) : ∀ p ∈ subs v 0, M.valueFault p = 0 ∧ p.length < v.length := by
  intro p hp
  have h0 := (M.fault_zero hv).1
  simp only [subs, List.mem_map, M.places, List.mem_range] at hp
  obtain ⟨q, ⟨j, hj, rfl⟩, rfl⟩ := hp
  have hin := (M.places_in hv 0 (by omega)).1 j hj
  have hg := (end_gt hv (a := 0) (by omega)).2
  have hlt : M.iter v j (0 + 1) < v.length := by omega
  have hg2 := end_gt hv hlt
  have hl := part_len hv hlt
  exact ⟨part_valid hv hlt, by omega⟩

theorem lex_congr {α : Type} {c d : α → α → Int} : ∀ (A B : List α), (∀ a ∈ A, ∀ b ∈ B, c a b = d a b) → lex c A B = lex d A B
  | [], [], _ => rfl
  | [], _ :: _, _ => rfl
  | _ :: _, [], _ => rfl
  | a :: xs, b :: ys, h => by
    rw [lex, lex, h a (by simp) b (by simp), lex_congr xs ys (fun x hx y hy => h x (by simp [hx]) y (by simp [hy]))]
theorem lex_neg {α : Type} {c d : α → α → Int} : ∀ (A B : List α), (∀ a ∈ A, ∀ b ∈ B, c a b = - d b a) → lex c A B = - lex d B A
  | [], [], _ => rfl
  | [], _ :: _, _ => rfl
  | _ :: _, [], _ => rfl
  | a :: xs, b :: ys, h => by
    have h1 := h a (by simp) b (by simp)
    rw [lex, lex, lex_neg xs ys (fun x hx y hy => h x (by simp [hx]) y (by simp [hy]))]
    by_cases e : d b a = 0
    · rw [if_neg (by omega), if_neg (by omega)]
    · rw [if_pos (by omega), if_pos (by omega), h1]
/-- Of three in a row: what the first two tell of the third. -/
def TT (x y z : Int) : Prop := x ≤ 0 → y ≤ 0 → (z ≤ 0 ∧ ((x < 0 ∨ y < 0) → z < 0) ∧ (x = 0 → y = 0 → z = 0))
theorem sgn_neg (a b : Int) : sgn a b = - sgn b a := by unfold sgn; split <;> split <;> omega
theorem cmpK_cases (a b : ByteArray) : (cmpK a b = -1 ∧ Op.bytesLess a.toList b.toList = true) ∨ (cmpK a b = 0 ∧ a.toList = b.toList) ∨ (cmpK a b = 1 ∧ Op.bytesLess b.toList a.toList = true) := by
  unfold cmpK
  rcases St.bl_tri a.toList b.toList with h | h | h
  · left; rw [if_pos h]; exact ⟨rfl, h⟩
  · right; left; rw [h, St.bl_irr]; simp
  · right; right
    have h1 : Op.bytesLess a.toList b.toList ≠ true := fun e => by have := St.bl_trans _ _ _ e h; rw [St.bl_irr] at this; cases this
    have h2 : (a.toList == b.toList) ≠ true := fun e => by rw [eq_of_beq e, St.bl_irr] at h; cases h
    rw [if_neg h1, if_neg h2]; exact ⟨rfl, h⟩
theorem cmpK_less {a b : ByteArray} (h : Op.bytesLess a.toList b.toList = true) : cmpK a b = -1 := by unfold cmpK; rw [if_pos h]
theorem cmpK_more {a b : ByteArray} (h : Op.bytesLess b.toList a.toList = true) : cmpK a b = 1 := by
  rcases cmpK_cases a b with ⟨_, e⟩ | ⟨_, e⟩ | ⟨e, _⟩
  · have := St.bl_trans _ _ _ e h; rw [St.bl_irr] at this; cases this
  · rw [e, St.bl_irr] at h; cases h
  · exact e
theorem cmpK_none {a b : ByteArray} (h : a.toList = b.toList) : cmpK a b = 0 := by unfold cmpK; rw [h, St.bl_irr]; simp
theorem cmpK_neg (a b : ByteArray) : cmpK a b = - cmpK b a := by
  rcases cmpK_cases a b with ⟨e, h⟩ | ⟨e, h⟩ | ⟨e, h⟩
  · rw [e, cmpK_more h]
  · rw [e, cmpK_none h.symm]; rfl
  · rw [e, cmpK_less h]; rfl
/-- The order of kinds, and behind it that of what a kind holds. -/
theorem cmpL_step (f : Nat) (P Q : List M.Cl) : cmpL (f + 1) P Q = if sgn (P.getD 0 M.zero).kind (Q.getD 0 M.zero).kind ≠ 0 then sgn (P.getD 0 M.zero).kind (Q.getD 0 M.zero).kind else
    if (P.getD 0 M.zero).kind = 3 then sgn (P.getD 0 M.zero).num (Q.getD 0 M.zero).num
    else if (P.getD 0 M.zero).kind = 4 then cmpK (P.getD 0 M.zero).text (Q.getD 0 M.zero).text
    else if (P.getD 0 M.zero).kind = 5 then lex (cmpL f) (subs P 0) (subs Q 0)
    else if (P.getD 0 M.zero).kind = 6 then (if lex cmpK (keysAt P 0) (keysAt Q 0) ≠ 0 then lex cmpK (keysAt P 0) (keysAt Q 0) else lex (cmpL f) (subs P 0) (subs Q 0))
    else 0 := by
  rw [cmpL]
  by_cases h : (P.getD 0 M.zero).kind = (Q.getD 0 M.zero).kind
  · have hs : sgn (P.getD 0 M.zero).kind (Q.getD 0 M.zero).kind = 0 := by rw [h, sgn_self]
    rw [if_neg (show ¬ ((P.getD 0 M.zero).kind ≠ (Q.getD 0 M.zero).kind) from fun e => e h), hs, if_neg (show ¬ ((0 : Int) ≠ 0) from fun e => e rfl)]
  · rw [if_pos (show (P.getD 0 M.zero).kind ≠ (Q.getD 0 M.zero).kind from h)]
    by_cases h1 : (P.getD 0 M.zero).kind < (Q.getD 0 M.zero).kind
    · have hs : sgn (P.getD 0 M.zero).kind (Q.getD 0 M.zero).kind = -1 := by unfold sgn; rw [if_pos h1]
      rw [if_pos h1, hs, if_pos (show (-1 : Int) ≠ 0 by decide)]
    · have hs : sgn (P.getD 0 M.zero).kind (Q.getD 0 M.zero).kind = 1 := by unfold sgn; rw [if_neg h1, if_pos (by omega)]
      rw [if_neg h1, hs, if_pos (show (1 : Int) ≠ 0 by decide)]
theorem cmpL_fuel : ∀ (f g : Nat) (P Q : List M.Cl), M.valueFault P = 0 → P.length ≤ f → P.length ≤ g → cmpL f P Q = cmpL g P Q := by
  intro f
  induction f with
  | zero => intro g P Q hP h1 _; have := (M.fault_zero hP).1; omega
  | succ f ih =>
    intro g P Q hP h1 h2
    have h0 := (M.fault_zero hP).1
    obtain ⟨g, rfl⟩ : ∃ q, g = q + 1 := ⟨g - 1, by omega⟩
    have hs : lex (cmpL f) (subs P 0) (subs Q 0) = lex (cmpL g) (subs P 0) (subs Q 0) := lex_congr _ _ fun a ha b _ => by
      obtain ⟨a1, a2⟩ := subs_val hP a ha
      exact ih g a b a1 (by omega) (by omega)
    rw [cmpL_step f P Q, cmpL_step g P Q, hs]
theorem cmpL_neg : ∀ (f : Nat) (P Q : List M.Cl), M.valueFault P = 0 → M.valueFault Q = 0 → P.length ≤ f → Q.length ≤ f → cmpL f P Q = - cmpL f Q P := by
  intro f
  induction f with
  | zero => intro P Q hP _ h1 _; have := (M.fault_zero hP).1; omega
  | succ f ih =>
    intro P Q hP hQ h1 h2
    have hs : lex (cmpL f) (subs P 0) (subs Q 0) = - lex (cmpL f) (subs Q 0) (subs P 0) := lex_neg _ _ fun a ha b hb => by
      obtain ⟨a1, a2⟩ := subs_val hP a ha
      obtain ⟨b1, b2⟩ := subs_val hQ b hb
      exact ih a b a1 b1 (by omega) (by omega)
    have hk : lex cmpK (keysAt P 0) (keysAt Q 0) = - lex cmpK (keysAt Q 0) (keysAt P 0) := lex_neg _ _ fun a _ b _ => cmpK_neg a b
    have hsg := sgn_neg (P.getD 0 M.zero).kind (Q.getD 0 M.zero).kind
    rw [cmpL_step f P Q, cmpL_step f Q P]
    by_cases h : sgn (Q.getD 0 M.zero).kind (P.getD 0 M.zero).kind = 0
    · have h' : sgn (P.getD 0 M.zero).kind (Q.getD 0 M.zero).kind = 0 := by omega
      rw [if_neg (show ¬ (sgn (P.getD 0 M.zero).kind (Q.getD 0 M.zero).kind ≠ 0) from fun e => e h'), if_neg (show ¬ (sgn (Q.getD 0 M.zero).kind (P.getD 0 M.zero).kind ≠ 0) from fun e => e h), sgn_eq h]
      by_cases k3 : (P.getD 0 M.zero).kind = 3
      · rw [if_pos k3, if_pos k3]; exact sgn_neg _ _
      rw [if_neg k3, if_neg k3]
      by_cases k4 : (P.getD 0 M.zero).kind = 4
      · rw [if_pos k4, if_pos k4]; exact cmpK_neg _ _
      rw [if_neg k4, if_neg k4]
      by_cases k5 : (P.getD 0 M.zero).kind = 5
      · rw [if_pos k5, if_pos k5]; exact hs
      rw [if_neg k5, if_neg k5]
      by_cases k6 : (P.getD 0 M.zero).kind = 6
      · rw [if_pos k6, if_pos k6]
        by_cases e : lex cmpK (keysAt Q 0) (keysAt P 0) = 0
        · have e' : lex cmpK (keysAt P 0) (keysAt Q 0) = 0 := by omega
          rw [if_neg (show ¬ (lex cmpK (keysAt P 0) (keysAt Q 0) ≠ 0) from fun q => q e'), if_neg (show ¬ (lex cmpK (keysAt Q 0) (keysAt P 0) ≠ 0) from fun q => q e)]
          exact hs
        · rw [if_pos (show lex cmpK (keysAt P 0) (keysAt Q 0) ≠ 0 by omega), if_pos (show lex cmpK (keysAt Q 0) (keysAt P 0) ≠ 0 from e)]
          exact hk
      rw [if_neg k6, if_neg k6]; rfl
    · rw [if_pos (show sgn (P.getD 0 M.zero).kind (Q.getD 0 M.zero).kind ≠ 0 by omega), if_pos (show sgn (Q.getD 0 M.zero).kind (P.getD 0 M.zero).kind ≠ 0 from h)]
      exact hsg
namespace St
theorem null_valid : M.valueFault [M.zero] = 0 := by
  refine (one_valid (c := M.zero) ?_ empty_toList rfl).1
  · unfold M.zero M.cellCode
    simp only
    rw [if_neg (by omega), if_neg, if_neg (by omega), if_pos ⟨by decide, by decide⟩]
    intro g
    rcases g with g | g | g
    · exact g.1 rfl
    · exact g.1 empty_toList
    · exact g.1 rfl
end St

end Go.Proofs.YtemehbjlfiebdaaGreat
