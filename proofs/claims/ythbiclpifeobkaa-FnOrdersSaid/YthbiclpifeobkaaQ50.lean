/-
  The order of values is an order: plainly. Values put in one by one. No word of the program is used here.
-/
import Derived.Test.YthbiclpifeobkaaQ23
import Derived.Test.YthbiclpifeobkaaQ24
import Derived.Test.YthbiclpifeobkaaQ48
namespace Go.Proofs.Ythbiclpifeobkaa
open Go.RowKit
set_option linter.unusedVariables false

theorem subs_val {v : List M.Cl} (hv : M.valueFault v = 0) : ∀ p ∈ subs v 0, M.valueFault p = 0 ∧ p.length < v.length := by
  intro p hp
  have h0 := (M.fault_zero hv).1
  simp only [subs, List.mem_map, M.places, List.mem_range] at hp
  obtain ⟨q, ⟨j, hj, rfl⟩, rfl⟩ := hp
  have hin := (M.places_in hv 0 (by omega)).1 j hj
  have hg := (end_gt hv (a := 0) (by omega)).2
  have hlt : M.iter v j (0 + 1) < v.length := by omega
  have hg2 := end_gt hv hlt
  have hl := part_len hv hlt
  exact ⟨part_valid hv hlt, by omega⟩

theorem lex_congr {α : Type} {c d : α → α → Int} : ∀ (A B : List α), (∀ a ∈ A, ∀ b ∈ B, c a b = d a b) → lex c A B = lex d A B
  | [], [], _ => rfl
  | [], _ :: _, _ => rfl
  | _ :: _, [], _ => rfl
  | a :: xs, b :: ys, h => by
    rw [lex, lex, h a (by simp) b (by simp), lex_congr xs ys (fun x hx y hy => h x (by simp [hx]) y (by simp [hy]))]
theorem lex_neg {α : Type} {c d : α → α → Int} : ∀ (A B : List α), (∀ a ∈ A, ∀ b ∈ B, c a b = - d b a) → lex c A B = - lex d B A
  | [], [], _ => rfl
  | [], _ :: _, _ => rfl
  | _ :: _, [], _ => rfl
  | a :: xs, b :: ys, h => by
    have h1 := h a (by simp) b (by simp)
    rw [lex, lex, lex_neg xs ys (fun x hx y hy => h x (by simp [hx]) y (by simp [hy]))]
    by_cases e : d b a = 0
    · rw [if_neg (by omega), if_neg (by omega)]
    · rw [if_pos (by omega), if_pos (by omega), h1]
/-- Of three in a row: what the first two tell of the third. -/
def TT (x y z : Int) : Prop := x ≤ 0 → y ≤ 0 → (z ≤ 0 ∧ ((x < 0 ∨ y < 0) → z < 0) ∧ (x = 0 → y = 0 → z = 0))
theorem TT.pair {k1 k2 k3 s1 s2 s3 : Int} (K : TT k1 k2 k3) (S : TT s1 s2 s3) : TT (if k1 ≠ 0 then k1 else s1) (if k2 ≠ 0 then k2 else s2) (if k3 ≠ 0 then k3 else s3) := by
  by_cases e1 : k1 = 0
  · rw [if_neg (fun h => h e1)]
    by_cases e2 : k2 = 0
    · rw [if_neg (fun h => h e2)]
      have := (K (by omega) (by omega)).2.2 e1 e2
      rw [if_neg (fun h => h this)]
      exact S
    · rw [if_pos e2]
      intro hx hy
      have := (K (by omega) hy).2.1 (.inr (by omega))
      rw [if_pos (by omega)]
      exact ⟨by omega, fun _ => this, fun _ h => absurd h e2⟩
  · rw [if_pos e1]
    intro hx hy
    have hy2 : k2 ≤ 0 := by
      by_cases e2 : k2 = 0
      · omega
      · rw [if_pos e2] at hy; exact hy
    have := (K hx hy2).2.1 (.inl (by omega))
    rw [if_pos (by omega)]
    exact ⟨by omega, fun _ => this, fun h => absurd h e1⟩
theorem lex_TT {α : Type} {c : α → α → Int} : ∀ (A B C : List α), (∀ a ∈ A, ∀ b ∈ B, ∀ e ∈ C, TT (c a b) (c b e) (c a e)) → TT (lex c A B) (lex c B C) (lex c A C)
  | [], [], [], _ => show TT 0 0 0 from fun _ _ => ⟨by decide, fun h => (by rcases h with h | h <;> cases h), fun _ _ => rfl⟩
  | [], [], _ :: _, _ => show TT 0 (-1) (-1) from fun _ _ => ⟨by decide, fun _ => by decide, fun _ h => absurd h (by decide)⟩
  | [], _ :: _, [], _ => show TT (-1) 1 0 from fun _ h => absurd h (by decide)
  | [], _ :: _, _ :: _, _ => show TT (-1) _ (-1) from fun _ _ => ⟨by decide, fun _ => by decide, fun h => absurd h (by decide)⟩
  | _ :: _, [], _, _ => show TT 1 _ _ from fun h => absurd h (by decide)
  | _ :: _, _ :: _, [], _ => show TT _ 1 _ from fun _ h => absurd h (by decide)
  | a :: xs, b :: ys, e :: zs, h => by
    have h1 := h a (by simp) b (by simp) e (by simp)
    have h2 := lex_TT xs ys zs (fun x hx y hy z hz => h x (by simp [hx]) y (by simp [hy]) z (by simp [hz]))
    rw [lex, lex, lex]
    exact h1.pair h2
theorem sgn_neg (a b : Int) : sgn a b = - sgn b a := by unfold sgn; split <;> split <;> omega
theorem sgn_TT (a b c : Int) : TT (sgn a b) (sgn b c) (sgn a c) := by
  unfold TT sgn
  intro h1 h2
  refine ⟨?_, fun h3 => ?_, fun h3 h4 => ?_⟩ <;> (split at h1 <;> split at h2 <;> split <;> first | omega | (split at h1 <;> omega) | (split at h2 <;> omega) | (split <;> omega) | (split at h1 <;> split at h2 <;> split <;> omega))
theorem cmpK_cases (a b : ByteArray) : (cmpK a b = -1 ∧ Op.bytesLess a.toList b.toList = true) ∨ (cmpK a b = 0 ∧ a.toList = b.toList) ∨ (cmpK a b = 1 ∧ Op.bytesLess b.toList a.toList = true) := by
  unfold cmpK
  rcases St.bl_tri a.toList b.toList with h | h | h
  · left; rw [if_pos h]; exact ⟨rfl, h⟩
  · right; left; rw [h, St.bl_irr]; simp
  · right; right
    have h1 : Op.bytesLess a.toList b.toList ≠ true := fun e => by have := St.bl_trans _ _ _ e h; rw [St.bl_irr] at this; cases this
    have h2 : (a.toList == b.toList) ≠ true := fun e => by rw [eq_of_beq e, St.bl_irr] at h; cases h
    rw [if_neg h1, if_neg h2]; exact ⟨rfl, h⟩
theorem cmpK_less {a b : ByteArray} (h : Op.bytesLess a.toList b.toList = true) : cmpK a b = -1 := by unfold cmpK; rw [if_pos h]
theorem cmpK_more {a b : ByteArray} (h : Op.bytesLess b.toList a.toList = true) : cmpK a b = 1 := by
  rcases cmpK_cases a b with ⟨_, e⟩ | ⟨_, e⟩ | ⟨e, _⟩
  · have := St.bl_trans _ _ _ e h; rw [St.bl_irr] at this; cases this
  · rw [e, St.bl_irr] at h; cases h
  · exact e
theorem cmpK_none {a b : ByteArray} (h : a.toList = b.toList) : cmpK a b = 0 := by unfold cmpK; rw [h, St.bl_irr]; simp
theorem cmpK_neg (a b : ByteArray) : cmpK a b = - cmpK b a := by
  rcases cmpK_cases a b with ⟨e, h⟩ | ⟨e, h⟩ | ⟨e, h⟩
  · rw [e, cmpK_more h]
  · rw [e, cmpK_none h.symm]; rfl
  · rw [e, cmpK_less h]; rfl
theorem cmpK_TT (a b c : ByteArray) : TT (cmpK a b) (cmpK b c) (cmpK a c) := by
  intro h1 h2
  rcases cmpK_cases a b with ⟨e, h⟩ | ⟨e, h⟩ | ⟨e, h⟩
  · rcases cmpK_cases b c with ⟨e', h'⟩ | ⟨e', h'⟩ | ⟨e', h'⟩
    · rw [cmpK_less (St.bl_trans _ _ _ h h')]; exact ⟨by decide, fun _ => by decide, fun q => by rw [e] at q; cases q⟩
    · rw [cmpK_less (show Op.bytesLess a.toList c.toList = true by rw [← h']; exact h)]; exact ⟨by decide, fun _ => by decide, fun q => by rw [e] at q; cases q⟩
    · rw [e'] at h2; exact absurd h2 (by decide)
  · rcases cmpK_cases b c with ⟨e', h'⟩ | ⟨e', h'⟩ | ⟨e', h'⟩
    · rw [cmpK_less (show Op.bytesLess a.toList c.toList = true by rw [h]; exact h')]; exact ⟨by decide, fun _ => by decide, fun _ q => by rw [e'] at q; cases q⟩
    · rw [cmpK_none (h.trans h')]
      exact ⟨by decide, fun q => (by rw [e, e'] at q; rcases q with q | q <;> cases q), fun _ _ => rfl⟩
    · rw [e'] at h2; exact absurd h2 (by decide)
  · rw [e] at h1; exact absurd h1 (by decide)

/-- The order of kinds, and behind it that of what a kind holds. -/
theorem cmpL_step (f : Nat) (P Q : List M.Cl) : cmpL (f + 1) P Q = if sgn (P.getD 0 M.zero).kind (Q.getD 0 M.zero).kind ≠ 0 then sgn (P.getD 0 M.zero).kind (Q.getD 0 M.zero).kind else
    if (P.getD 0 M.zero).kind = 3 then sgn (P.getD 0 M.zero).num (Q.getD 0 M.zero).num
    else if (P.getD 0 M.zero).kind = 4 then cmpK (P.getD 0 M.zero).text (Q.getD 0 M.zero).text
    else if (P.getD 0 M.zero).kind = 5 then lex (cmpL f) (subs P 0) (subs Q 0)
    else if (P.getD 0 M.zero).kind = 6 then (if lex cmpK (keysAt P 0) (keysAt Q 0) ≠ 0 then lex cmpK (keysAt P 0) (keysAt Q 0) else lex (cmpL f) (subs P 0) (subs Q 0))
    else 0 := by
  rw [cmpL]
  by_cases h : (P.getD 0 M.zero).kind = (Q.getD 0 M.zero).kind
  · have hs : sgn (P.getD 0 M.zero).kind (Q.getD 0 M.zero).kind = 0 := by rw [h, sgn_self]
    rw [if_neg (show ¬ ((P.getD 0 M.zero).kind ≠ (Q.getD 0 M.zero).kind) from fun e => e h), hs, if_neg (show ¬ ((0 : Int) ≠ 0) from fun e => e rfl)]
  · rw [if_pos (show (P.getD 0 M.zero).kind ≠ (Q.getD 0 M.zero).kind from h)]
    by_cases h1 : (P.getD 0 M.zero).kind < (Q.getD 0 M.zero).kind
    · have hs : sgn (P.getD 0 M.zero).kind (Q.getD 0 M.zero).kind = -1 := by unfold sgn; rw [if_pos h1]
      rw [if_pos h1, hs, if_pos (show (-1 : Int) ≠ 0 by decide)]
    · have hs : sgn (P.getD 0 M.zero).kind (Q.getD 0 M.zero).kind = 1 := by unfold sgn; rw [if_neg h1, if_pos (by omega)]
      rw [if_neg h1, hs, if_pos (show (1 : Int) ≠ 0 by decide)]
theorem cmpL_fuel : ∀ (f g : Nat) (P Q : List M.Cl), M.valueFault P = 0 → P.length ≤ f → P.length ≤ g → cmpL f P Q = cmpL g P Q := by
  intro f
  induction f with
  | zero => intro g P Q hP h1 _; have := (M.fault_zero hP).1; omega
  | succ f ih =>
    intro g P Q hP h1 h2
    have h0 := (M.fault_zero hP).1
    obtain ⟨g, rfl⟩ : ∃ q, g = q + 1 := ⟨g - 1, by omega⟩
    have hs : lex (cmpL f) (subs P 0) (subs Q 0) = lex (cmpL g) (subs P 0) (subs Q 0) := lex_congr _ _ fun a ha b _ => by
      obtain ⟨a1, a2⟩ := subs_val hP a ha
      exact ih g a b a1 (by omega) (by omega)
    rw [cmpL_step f P Q, cmpL_step g P Q, hs]
theorem cmpL_neg : ∀ (f : Nat) (P Q : List M.Cl), M.valueFault P = 0 → M.valueFault Q = 0 → P.length ≤ f → Q.length ≤ f → cmpL f P Q = - cmpL f Q P := by
  intro f
  induction f with
  | zero => intro P Q hP _ h1 _; have := (M.fault_zero hP).1; omega
  | succ f ih =>
    intro P Q hP hQ h1 h2
    have hs : lex (cmpL f) (subs P 0) (subs Q 0) = - lex (cmpL f) (subs Q 0) (subs P 0) := lex_neg _ _ fun a ha b hb => by
      obtain ⟨a1, a2⟩ := subs_val hP a ha
      obtain ⟨b1, b2⟩ := subs_val hQ b hb
      exact ih a b a1 b1 (by omega) (by omega)
    have hk : lex cmpK (keysAt P 0) (keysAt Q 0) = - lex cmpK (keysAt Q 0) (keysAt P 0) := lex_neg _ _ fun a _ b _ => cmpK_neg a b
    have hsg := sgn_neg (P.getD 0 M.zero).kind (Q.getD 0 M.zero).kind
    rw [cmpL_step f P Q, cmpL_step f Q P]
    by_cases h : sgn (Q.getD 0 M.zero).kind (P.getD 0 M.zero).kind = 0
    · have h' : sgn (P.getD 0 M.zero).kind (Q.getD 0 M.zero).kind = 0 := by omega
      rw [if_neg (show ¬ (sgn (P.getD 0 M.zero).kind (Q.getD 0 M.zero).kind ≠ 0) from fun e => e h'), if_neg (show ¬ (sgn (Q.getD 0 M.zero).kind (P.getD 0 M.zero).kind ≠ 0) from fun e => e h), sgn_eq h]
      by_cases k3 : (P.getD 0 M.zero).kind = 3
      · rw [if_pos k3, if_pos k3]; exact sgn_neg _ _
      rw [if_neg k3, if_neg k3]
      by_cases k4 : (P.getD 0 M.zero).kind = 4
      · rw [if_pos k4, if_pos k4]; exact cmpK_neg _ _
      rw [if_neg k4, if_neg k4]
      by_cases k5 : (P.getD 0 M.zero).kind = 5
      · rw [if_pos k5, if_pos k5]; exact hs
      rw [if_neg k5, if_neg k5]
      by_cases k6 : (P.getD 0 M.zero).kind = 6
      · rw [if_pos k6, if_pos k6]
        by_cases e : lex cmpK (keysAt Q 0) (keysAt P 0) = 0
        · have e' : lex cmpK (keysAt P 0) (keysAt Q 0) = 0 := by omega
          rw [if_neg (show ¬ (lex cmpK (keysAt P 0) (keysAt Q 0) ≠ 0) from fun q => q e'), if_neg (show ¬ (lex cmpK (keysAt Q 0) (keysAt P 0) ≠ 0) from fun q => q e)]
          exact hs
        · rw [if_pos (show lex cmpK (keysAt P 0) (keysAt Q 0) ≠ 0 by omega), if_pos (show lex cmpK (keysAt Q 0) (keysAt P 0) ≠ 0 from e)]
          exact hk
      rw [if_neg k6, if_neg k6]; rfl
    · rw [if_pos (show sgn (P.getD 0 M.zero).kind (Q.getD 0 M.zero).kind ≠ 0 by omega), if_pos (show sgn (Q.getD 0 M.zero).kind (P.getD 0 M.zero).kind ≠ 0 from h)]
      exact hsg
theorem cmpL_TT : ∀ (f : Nat) (P Q R : List M.Cl), M.valueFault P = 0 → M.valueFault Q = 0 → M.valueFault R = 0 → P.length ≤ f → Q.length ≤ f → R.length ≤ f → TT (cmpL f P Q) (cmpL f Q R) (cmpL f P R) := by
  intro f
  induction f with
  | zero => intro P Q R hP _ _ h1 _ _; have := (M.fault_zero hP).1; omega
  | succ f ih =>
    intro P Q R hP hQ hR h1 h2 h3
    have hs : TT (lex (cmpL f) (subs P 0) (subs Q 0)) (lex (cmpL f) (subs Q 0) (subs R 0)) (lex (cmpL f) (subs P 0) (subs R 0)) := lex_TT _ _ _ fun a ha b hb c hc => by
      obtain ⟨a1, a2⟩ := subs_val hP a ha
      obtain ⟨b1, b2⟩ := subs_val hQ b hb
      obtain ⟨c1, c2⟩ := subs_val hR c hc
      exact ih a b c a1 b1 c1 (by omega) (by omega) (by omega)
    have hk : TT (lex cmpK (keysAt P 0) (keysAt Q 0)) (lex cmpK (keysAt Q 0) (keysAt R 0)) (lex cmpK (keysAt P 0) (keysAt R 0)) := lex_TT _ _ _ fun a _ b _ c _ => cmpK_TT a b c
    rw [cmpL_step f P Q, cmpL_step f Q R, cmpL_step f P R]
    by_cases e : (P.getD 0 M.zero).kind = (Q.getD 0 M.zero).kind ∧ (Q.getD 0 M.zero).kind = (R.getD 0 M.zero).kind
    · refine TT.pair (sgn_TT _ _ _) ?_
      rw [← e.1]
      by_cases k3 : (P.getD 0 M.zero).kind = 3
      · rw [if_pos k3, if_pos k3, if_pos k3]; exact sgn_TT _ _ _
      rw [if_neg k3, if_neg k3, if_neg k3]
      by_cases k4 : (P.getD 0 M.zero).kind = 4
      · rw [if_pos k4, if_pos k4, if_pos k4]; exact cmpK_TT _ _ _
      rw [if_neg k4, if_neg k4, if_neg k4]
      by_cases k5 : (P.getD 0 M.zero).kind = 5
      · rw [if_pos k5, if_pos k5, if_pos k5]; exact hs
      rw [if_neg k5, if_neg k5, if_neg k5]
      by_cases k6 : (P.getD 0 M.zero).kind = 6
      · rw [if_pos k6, if_pos k6, if_pos k6]; exact hk.pair hs
      rw [if_neg k6, if_neg k6, if_neg k6]
      exact fun _ _ => ⟨by decide, fun h => (by rcases h with h | h <;> cases h), fun _ _ => rfl⟩
    · generalize (P.getD 0 M.zero).kind = x at *
      generalize (Q.getD 0 M.zero).kind = y at *
      generalize (R.getD 0 M.zero).kind = z at *
      have S := sgn_TT x y z
      have z1 : sgn x y = 0 ↔ x = y := ⟨sgn_eq, fun h => by rw [h, sgn_self]⟩
      have z2 : sgn y z = 0 ↔ y = z := ⟨sgn_eq, fun h => by rw [h, sgn_self]⟩
      intro hx hy
      have hx' : sgn x y ≤ 0 := by
        by_cases q : sgn x y = 0
        · omega
        · rw [if_pos q] at hx; exact hx
      have hy' : sgn y z ≤ 0 := by
        by_cases q : sgn y z = 0
        · omega
        · rw [if_pos q] at hy; exact hy
      have hlt := (S hx' hy').2.1 (by
        by_cases q : sgn x y = 0
        · by_cases q2 : sgn y z = 0
          · exact absurd ⟨z1.1 q, z2.1 q2⟩ e
          · right; omega
        · left; omega)
      rw [if_pos (show sgn x z ≠ 0 by omega)]
      refine ⟨by omega, fun _ => hlt, fun g1 g2 => ?_⟩
      by_cases q : sgn x y = 0
      · by_cases q2 : sgn y z = 0
        · exact absurd ⟨z1.1 q, z2.1 q2⟩ e
        · rw [if_pos q2] at g2; exact absurd g2 q2
      · rw [if_pos q] at g1; exact absurd g1 q

end Go.Proofs.Ythbiclpifeobkaa
