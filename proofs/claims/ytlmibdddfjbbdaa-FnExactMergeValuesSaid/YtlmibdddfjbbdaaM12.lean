/-
  The plain mathematics of where a value ends: counting the cells that are still owed comes to the same place; every place of a value without a fault is the beginning of a value. No word of the program is used here.
  The plain mathematics of a value's parts: the places of the elements or members, one behind the other. No word of the program is used here.
-/
import Derived.Test.YtlmibdddfjbbdaaM00
namespace Go.Proofs.Ytlmibdddfjbbdaa
open Go.RowKit
namespace M

/-- How many cells the n cells from a on owe, less those that they pay. -/
def owe (v : List Cl) (a : Nat) : Nat → Int
  | 0 => 0
  | n + 1 => owe v a n + ((v.getD (a + n) zero).n - 1)

theorem owe_add (v : List Cl) (a m n : Nat) : owe v a (m + n) = owe v a m + owe v (a + m) n := by
  induction n with
  | zero => simp [owe]
  | succ n ih => rw [Nat.add_succ, owe, owe, ih, Nat.add_assoc a m n]; omega

theorem owe_front (v : List Cl) (a n : Nat) : owe v a (n + 1) = ((v.getD a zero).n - 1) + owe v (a + 1) n := by
  have := owe_add v a 1 n
  rw [show 1 + n = n + 1 from by omega] at this
  rw [this]
  simp [owe]

/-- All counts are 0 to 200. -/
def fits (v : List Cl) : Prop := ∀ c ∈ v, 0 ≤ c.n ∧ c.n ≤ 200

theorem fits_getD {v : List Cl} (h : fits v) (i : Nat) : 0 ≤ (v.getD i zero).n ∧ (v.getD i zero).n ≤ 200 := by
  by_cases hi : i < v.length
  · refine h _ ?_
    rw [List.getD_eq_getElem?_getD, List.getElem?_eq_getElem hi]; exact List.getElem_mem hi
  · rw [List.getD_eq_getElem?_getD, List.getElem?_eq_none (by omega)]; exact ⟨by decide, by decide⟩

theorem owe_bd {v : List Cl} (h : fits v) (a n : Nat) : -(n : Int) ≤ owe v a n ∧ owe v a n ≤ 199 * n := by
  induction n with
  | zero => simp [owe]
  | succ n ih => have := fits_getD h (a + n); rw [owe]; omega

theorem kids_owe (rec : Nat → Option (Nat × Nat)) (v : List Cl) (c : Cl)
    (hrec : ∀ a e d, rec a = some (e, d) → a < e ∧ owe v a (e - a) = -1 ∧ ∀ p, a ≤ p → p < e → 0 ≤ owe v a (p - a)) (m : Nat) :
    ∀ k e d last e' d', kids rec v c m k e d last = some (e', d') → e ≤ e' ∧ owe v e (e' - e) = -(m : Int) ∧ ∀ p, e ≤ p → p < e' → -(m : Int) < owe v e (p - e) := by
  induction m with
  | zero =>
    intro k e d last e' d' h
    simp only [kids, Option.some.injEq, Prod.mk.injEq] at h
    obtain ⟨rfl, _⟩ := h
    exact ⟨Nat.le_refl _, by simp [owe], fun p h1 h2 => by omega⟩
  | succ m ih =>
    intro k e d last e' d' h
    simp only [kids] at h
    split at h
    · cases h
    split at h
    · cases h
    · rename_i e1 d1 hr
      obtain ⟨q1, q2, q3⟩ := hrec e e1 d1 hr
      obtain ⟨r1, r2, r3⟩ := ih _ _ _ _ _ _ h
      refine ⟨by omega, ?_, ?_⟩
      · have := owe_add v e (e1 - e) (e' - e1)
        rw [show e1 - e + (e' - e1) = e' - e from by omega, show e + (e1 - e) = e1 from by omega] at this
        omega
      · intro p h1 h2
        by_cases hp : p < e1
        · have := q3 p h1 hp; omega
        · have := owe_add v e (e1 - e) (p - e1)
          rw [show e1 - e + (p - e1) = p - e from by omega, show e + (e1 - e) = e1 from by omega] at this
          have := r3 p (by omega) h2
          omega

theorem walk_owe {v : List Cl} (hv : fits v) (f : Nat) : ∀ a e d, walk v f a = some (e, d) → a < e ∧ owe v a (e - a) = -1 ∧ ∀ p, a ≤ p → p < e → 0 ≤ owe v a (p - a) := by
  induction f with
  | zero => intro a e d h; cases h
  | succ f ih =>
    intro a e d h
    simp only [walk, Option.map_eq_some_iff] at h
    obtain ⟨⟨e1, d1⟩, h1, h2⟩ := h
    simp only [Prod.mk.injEq] at h2
    obtain ⟨rfl, rfl⟩ := h2
    have hn := fits_getD hv a
    obtain ⟨r1, r2, r3⟩ := kids_owe (walk v f) v _ ih _ _ _ _ _ _ _ h1
    rw [Int.toNat_of_nonneg hn.1] at r2 r3
    refine ⟨by omega, ?_, ?_⟩
    · have := owe_front v a (e1 - (a + 1))
      rw [show e1 - (a + 1) + 1 = e1 - a from by omega] at this
      omega
    · intro p h1 h2
      by_cases hp : p = a
      · subst hp; simp [owe]
      · have := owe_front v a (p - (a + 1))
        rw [show p - (a + 1) + 1 = p - a from by omega] at this
        have := r3 p (by omega) h2
        omega

/-- With more fuel the same is answered. -/
theorem kids_more (rec rec' : Nat → Option (Nat × Nat)) (v : List Cl) (c : Cl) (h : ∀ a r, rec a = some r → rec' a = some r) (m : Nat) :
    ∀ k e d last r, kids rec v c m k e d last = some r → kids rec' v c m k e d last = some r := by
  induction m with
  | zero => intro k e d last r h; exact h
  | succ m ih =>
    intro k e d last r hk
    simp only [kids] at hk ⊢
    split at hk
    · cases hk
    · rename_i hb
      rw [if_neg hb]
      split at hk
      · cases hk
      · rename_i e1 d1 hr
        rw [h _ _ hr]
        exact ih _ _ _ _ _ hk

theorem walk_more (v : List Cl) (f : Nat) : ∀ a r, walk v f a = some r → walk v (f + 1) a = some r := by
  induction f with
  | zero => intro a r h; cases h
  | succ f ih =>
    intro a r h
    rw [walk] at h ⊢
    simp only [Option.map_eq_some_iff] at h ⊢
    obtain ⟨q, h1, h2⟩ := h
    exact ⟨q, kids_more _ _ v _ ih _ _ _ _ _ _ h1, h2⟩

theorem walk_le (v : List Cl) (f g : Nat) (hfg : f ≤ g) (a : Nat) (r : Nat × Nat) (h : walk v f a = some r) : walk v g a = some r := by
  induction g with
  | zero => have e : f = 0 := by omega
            subst e; exact h
  | succ g ih =>
    by_cases e : f = g + 1
    · subst e; exact h
    · exact walk_more v g a r (ih (by omega))

/-- Each place of a value is the beginning of one, which ends no later. -/
theorem kids_in (v : List Cl) (c : Cl) (f : Nat)
    (hrec : ∀ a e d, walk v f a = some (e, d) → ∀ p, a ≤ p → p < e → ∃ e' d', walk v f p = some (e', d') ∧ e' ≤ e) (m : Nat) :
    ∀ k e d last e' d', kids (walk v f) v c m k e d last = some (e', d') → e ≤ v.length → d ≤ f → ∀ p, e ≤ p → p < e' → ∃ e1 d1, walk v f p = some (e1, d1) ∧ e1 ≤ e' := by
  induction m with
  | zero => intro k e d last e' d' h _ _ p h1 h2; simp only [kids, Option.some.injEq, Prod.mk.injEq] at h; omega
  | succ m ih =>
    intro k e d last e' d' h he hd p h1 h2
    simp only [kids] at h
    split at h
    · cases h
    rename_i hb
    have hlt : e < v.length := by
      by_cases hx : e < v.length
      · exact hx
      · exact absurd (show bad v c k e last = true by unfold bad; rw [if_neg hx]) hb
    split at h
    · cases h
    · rename_i e1 d1 hr
      have hw := walk_bd v f e hlt _ hr
      simp only at hw
      have hmono := kids_bd (walk v f) v c f (walk_bd v f) m (k + 1) e1 (max d d1) _ _ hw.2.1 (by omega) h
      by_cases hp : p < e1
      · obtain ⟨q, r, h3, h4⟩ := hrec e e1 d1 hr p h1 hp
        exact ⟨q, r, h3, by have := hmono.1; simp only at this; omega⟩
      · exact ih _ _ _ _ _ _ h hw.2.1 (by omega) p (by omega) h2

theorem walk_in (v : List Cl) (f : Nat) : ∀ a e d, walk v f a = some (e, d) → a < v.length → ∀ p, a ≤ p → p < e → ∃ e' d', walk v f p = some (e', d') ∧ e' ≤ e := by
  induction f with
  | zero => intro a e d h; cases h
  | succ f ih =>
    intro a e d h ha p h1 h2
    by_cases hp : p = a
    · subst hp; exact ⟨e, d, h, Nat.le_refl _⟩
    · have h' := h
      simp only [walk, Option.map_eq_some_iff] at h'
      obtain ⟨⟨e1, d1⟩, h3, h4⟩ := h'
      simp only [Prod.mk.injEq] at h4
      obtain ⟨rfl, rfl⟩ := h4
      have hrec : ∀ a e d, walk v f a = some (e, d) → ∀ p, a ≤ p → p < e → ∃ e' d', walk v f p = some (e', d') ∧ e' ≤ e := by
        intro a e d h
        by_cases ha : a < v.length
        · exact ih a e d h ha
        · intro p q1 q2
          have hpa : p = a := by
            have h0 := h
            cases f with
            | zero => cases h0
            | succ f =>
              simp only [walk, Option.map_eq_some_iff] at h0
              obtain ⟨⟨x, y⟩, h5, h6⟩ := h0
              rw [show v.getD a zero = zero from by rw [List.getD_eq_getElem?_getD, List.getElem?_eq_none (by omega)]; rfl] at h5
              simp only [zero, Int.toNat_zero, kids, Option.some.injEq, Prod.mk.injEq] at h5 h6
              omega
          subst hpa
          exact ⟨e, d, h, Nat.le_refl _⟩
      obtain ⟨q, r, h5, h6⟩ := kids_in v _ f hrec _ _ _ _ _ _ _ h3 (by omega) (by omega) p (by omega) h2
      exact ⟨q, r, walk_more v f p _ h5, h6⟩

/-- What a value without a fault is. -/
theorem fault_zero {v : List Cl} (h : valueFault v = 0) : 1 ≤ v.length ∧ v.length ≤ 200 ∧ firstCode v = 0 ∧ (v.getD 0 zero).key.toList = [] ∧ ∃ d, walk v v.length 0 = some (v.length, d) ∧ d ≤ 20 := by
  unfold valueFault at h
  split at h
  · cases h
  rename_i h1
  split at h
  · rename_i h2; exact absurd h h2
  rename_i h2
  split at h
  · cases h
  rename_i e d hw
  split at h
  · cases h
  rename_i h3
  split at h
  · cases h
  rename_i h4
  have h3a : e = v.length := by
    by_cases he : e = v.length
    · exact he
    · exact absurd (.inl he) h3
  have h3b : (v.getD 0 zero).key.toList = [] := by
    by_cases he : (v.getD 0 zero).key.toList = []
    · exact he
    · exact absurd (.inr he) h3
  refine ⟨by omega, by omega, ?_, h3b, d, h3a ▸ hw, by omega⟩
  by_cases he : firstCode v = 0
  · exact he
  · exact absurd he h2

theorem code_zero_n {c : Cl} (h : cellCode c = 0) : 0 ≤ c.n ∧ c.n ≤ 200 := by
  unfold cellCode at h
  split at h
  · cases h
  split at h
  · cases h
  split at h
  · cases h
  omega

theorem first_zero {v : List Cl} (h : firstCode v = 0) : ∀ c ∈ v, cellCode c = 0 := by
  induction v with
  | nil => simp
  | cons c r ih =>
    rw [firstCode] at h
    split at h
    · rename_i h1
      intro x hx
      rcases List.mem_cons.1 hx with rfl | hx
      · exact h1
      · exact ih h x hx
    · rename_i h1; exact absurd h h1

theorem fits_of {v : List Cl} (h : valueFault v = 0) : fits v := fun c hc => code_zero_n (first_zero (fault_zero h).2.2.1 c hc)

/-- Where the value at a place ends. -/
def endOf (v : List Cl) (a : Nat) : Nat := match walk v v.length a with | some (e, _) => e | none => 0

theorem endOf_spec {v : List Cl} (h : valueFault v = 0) (a : Nat) (ha : a < v.length) : ∃ d, walk v v.length a = some (endOf v a, d) ∧ a < endOf v a ∧ endOf v a ≤ v.length ∧ d ≤ 200 := by
  obtain ⟨h1, h2, _, _, d, hw, _⟩ := fault_zero h
  obtain ⟨e', d', h3, h4⟩ := walk_in v v.length 0 _ _ hw (by omega) a (by omega) ha
  have := walk_bd v v.length a ha _ h3
  simp only at this
  refine ⟨d', ?_, ?_, ?_, by omega⟩
  · unfold endOf; rw [h3]
  · unfold endOf; rw [h3]; exact this.1
  · unfold endOf; rw [h3]; exact this.2.1

end M
end Go.Proofs.Ytlmibdddfjbbdaa

namespace Go.Proofs.Ytlmibdddfjbbdaa
open Go.RowKit
namespace M

/-- The place that comes j parts behind p. -/
def iter (v : List Cl) : Nat → Nat → Nat
  | 0, p => p
  | j + 1, p => iter v j (endOf v p)

theorem iter_next (v : List Cl) (j p : Nat) : iter v (j + 1) p = endOf v (iter v j p) := by
  induction j generalizing p with
  | zero => rfl
  | succ j ih => rw [iter, ih (endOf v p), iter]

theorem endOf_of {v : List Cl} {f a e d : Nat} (hf : f ≤ v.length) (h : walk v f a = some (e, d)) : endOf v a = e := by
  have := walk_le v f v.length hf a _ h
  unfold endOf; rw [this]

theorem kids_iter (v : List Cl) (c : Cl) (f : Nat) (hf : f ≤ v.length) (m : Nat) : ∀ k e d last e' d', kids (walk v f) v c m k e d last = some (e', d') → e ≤ v.length → d ≤ f →
    iter v m e = e' ∧ e ≤ e' ∧ e' ≤ v.length ∧ ∀ j, j < m → iter v j e < e' := by
  induction m with
  | zero =>
    intro k e d last e' d' h he _
    simp only [kids, Option.some.injEq, Prod.mk.injEq] at h
    obtain ⟨rfl, _⟩ := h
    exact ⟨rfl, Nat.le_refl _, he, fun j hj => by omega⟩
  | succ m ih =>
    intro k e d last e' d' h he hd
    simp only [kids] at h
    split at h
    · cases h
    rename_i hb
    have hlt : e < v.length := by
      by_cases hx : e < v.length
      · exact hx
      · exact absurd (show bad v c k e last = true by unfold bad; rw [if_neg hx]) hb
    split at h
    · cases h
    · rename_i e1 d1 hr
      have hw := walk_bd v f e hlt _ hr
      simp only at hw
      have he1 := endOf_of hf hr
      obtain ⟨r1, r2, r3, r4⟩ := ih _ _ _ _ _ _ h hw.2.1 (by omega)
      refine ⟨by rw [iter, he1]; exact r1, by omega, r3, fun j hj => ?_⟩
      cases j with
      | zero => show e < e'; omega
      | succ j => rw [iter, he1]; exact r4 j (by omega)

/-- How many parts the value at a place has. -/
def arity (v : List Cl) (a : Nat) : Nat := (v.getD a zero).n.toNat
/-- The places of the parts of the value at a place. -/
def places (v : List Cl) (a : Nat) : List Nat := (List.range (arity v a)).map fun j => iter v j (a + 1)

theorem places_in {v : List Cl} (h : valueFault v = 0) (a : Nat) (ha : a < v.length) : (∀ j, j < arity v a → a < iter v j (a + 1) ∧ iter v j (a + 1) < endOf v a) ∧ iter v (arity v a) (a + 1) = endOf v a ∧ endOf v a ≤ v.length ∧ arity v a ≤ 200 := by
  obtain ⟨d, hw, h1, h2, _⟩ := endOf_spec h a ha
  have hlen := (fault_zero h).1
  obtain ⟨f, hf⟩ : ∃ f, v.length = f + 1 := ⟨v.length - 1, by omega⟩
  have hw' := hw
  rw [hf] at hw'
  simp only [walk, Option.map_eq_some_iff] at hw'
  obtain ⟨⟨e1, d1⟩, h3, h4⟩ := hw'
  simp only [Prod.mk.injEq] at h4
  obtain ⟨h4, _⟩ := h4
  have hk := kids_iter v _ f (by omega) _ _ _ _ _ _ _ h3 (by omega) (by omega)
  rw [h4] at hk
  have hn := (fits_getD (fits_of h) a).2
  refine ⟨fun j hj => ⟨?_, hk.2.2.2 j hj⟩, hk.1, h2, by unfold arity; omega⟩
  clear hk h3
  induction j with
  | zero => show a < a + 1; omega
  | succ j ih =>
    rw [iter_next]
    have h5 := ih (by omega)
    have h6 : iter v j (a + 1) < v.length := by
      have hk2 := kids_iter v (v.getD a zero) f (by omega)
      obtain ⟨d', hw2, _⟩ := endOf_spec h a ha
      rw [hf] at hw2
      simp only [walk, Option.map_eq_some_iff] at hw2
      obtain ⟨⟨e2, d2⟩, h7, h8⟩ := hw2
      simp only [Prod.mk.injEq] at h8
      have := (hk2 _ _ _ _ _ _ _ h7 (by omega) (by omega)).2.2.2 j (by unfold arity at hj; omega)
      omega
    obtain ⟨_, _, h7, _⟩ := endOf_spec h (iter v j (a + 1)) h6
    omega

end M
end Go.Proofs.Ytlmibdddfjbbdaa
