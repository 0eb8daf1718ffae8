/-
  The plain mathematics of a value's parts: the places of the elements or members, one behind the other. No word of the program is used here.
-/
import Derived.Test.YtjoghcolfehkcaaEnds
namespace Go.Proofs.Ytjoghcolfehkcaa
open Go.RowKit
namespace M

/-- The place that comes j parts behind p. -/
def iter (v : List Cl) : Nat → Nat → Nat
  | 0, p => p
  | j + 1, p => iter v j (endOf v p)

theorem iter_next (v : List Cl) (j p : Nat) : iter v (j + 1) p = endOf v (iter v j p) := by
  induction j generalizing p with
  | zero => rfl
  | succ j ih => rw [iter, ih (endOf v p), iter]

theorem endOf_of {v : List Cl} {f a e d : Nat} (hf : f ≤ v.length) (h : walk v f a = some (e, d)) : endOf v a = e := by
  have := walk_le v f v.length hf a _ h
  unfold endOf; rw [this]

theorem kids_iter (v : List Cl) (c : Cl) (f : Nat) (hf : f ≤ v.length) (m : Nat) : ∀ k e d last e' d', kids (walk v f) v c m k e d last = some (e', d') → e ≤ v.length → d ≤ f →
    iter v m e = e' ∧ e ≤ e' ∧ e' ≤ v.length ∧ ∀ j, j < m → iter v j e < e' := by
  induction m with
  | zero =>
    intro k e d last e' d' h he _
    simp only [kids, Option.some.injEq, Prod.mk.injEq] at h
    obtain ⟨rfl, _⟩ := h
    exact ⟨rfl, Nat.le_refl _, he, fun j hj => by omega⟩
  | succ m ih =>
    intro k e d last e' d' h he hd
    simp only [kids] at h
    split at h
    · cases h
    rename_i hb
    have hlt : e < v.length := by
      by_cases hx : e < v.length
      · exact hx
      · exact absurd (show bad v c k e last = true by unfold bad; rw [if_neg hx]) hb
    split at h
    · cases h
    · rename_i e1 d1 hr
      have hw := walk_bd v f e hlt _ hr
      simp only at hw
      have he1 := endOf_of hf hr
      obtain ⟨r1, r2, r3, r4⟩ := ih _ _ _ _ _ _ h hw.2.1 (by omega)
      refine ⟨by rw [iter, he1]; exact r1, by omega, r3, fun j hj => ?_⟩
      cases j with
      | zero => show e < e'; omega
      | succ j => rw [iter, he1]; exact r4 j (by omega)

/-- How many parts the value at a place has. -/
def arity (v : List Cl) (a : Nat) : Nat := (v.getD a zero).n.toNat
/-- The places of the parts of the value at a place. -/
def places (v : List Cl) (a : Nat) : List Nat := (List.range (arity v a)).map fun j => iter v j (a + 1)

theorem places_in {v : List Cl} (h : valueFault v = 0) (a : Nat) (ha : a < v.length) : (∀ j, j < arity v a → a < iter v j (a + 1) ∧ iter v j (a + 1) < endOf v a) ∧ iter v (arity v a) (a + 1) = endOf v a ∧ endOf v a ≤ v.length ∧ arity v a ≤ 200 := by
  obtain ⟨d, hw, h1, h2, _⟩ := endOf_spec h a ha
  have hlen := (fault_zero h).1
  obtain ⟨f, hf⟩ : ∃ f, v.length = f + 1 := ⟨v.length - 1, by omega⟩
  have hw' := hw
  rw [hf] at hw'
  simp only [walk, Option.map_eq_some_iff] at hw'
  obtain ⟨⟨e1, d1⟩, h3, h4⟩ := hw'
  simp only [Prod.mk.injEq] at h4
  obtain ⟨h4, _⟩ := h4
  have hk := kids_iter v _ f (by omega) _ _ _ _ _ _ _ h3 (by omega) (by omega)
  rw [h4] at hk
  have hn := (fits_getD (fits_of h) a).2
  refine ⟨fun j hj => ⟨?_, hk.2.2.2 j hj⟩, hk.1, h2, by unfold arity; omega⟩
  clear hk h3
  induction j with
  | zero => show a < a + 1; omega
  | succ j ih =>
    rw [iter_next]
    have h5 := ih (by omega)
    have h6 : iter v j (a + 1) < v.length := by
      have hk2 := kids_iter v (v.getD a zero) f (by omega)
      obtain ⟨d', hw2, _⟩ := endOf_spec h a ha
      rw [hf] at hw2
      simp only [walk, Option.map_eq_some_iff] at hw2
      obtain ⟨⟨e2, d2⟩, h7, h8⟩ := hw2
      simp only [Prod.mk.injEq] at h8
      have := (hk2 _ _ _ _ _ _ _ h7 (by omega) (by omega)).2.2.2 j (by unfold arity at hj; omega)
      omega
    obtain ⟨_, _, h7, _⟩ := endOf_spec h (iter v j (a + 1)) h6
    omega

end M
end Go.Proofs.Ytjoghcolfehkcaa
