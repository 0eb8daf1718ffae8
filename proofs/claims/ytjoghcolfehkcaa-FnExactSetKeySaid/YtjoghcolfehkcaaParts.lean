/-
  The plain mathematics of a part of a value: it is a value without a fault, and its own parts are parts of the whole. No word of the program is used here.
-/
import Derived.Test.YtjoghcolfehkcaaPartT
import Derived.Test.YtjoghcolfehkcaaKids
namespace Go.Proofs.Ytjoghcolfehkcaa
open Go.RowKit
namespace M

/-- P holds the cells of v from a to e, but perhaps for the first key. -/
structure Sub (P v : List Cl) (a e : Nat) : Prop where
  len : P.length = e - a
  le : a ≤ e
  top : e ≤ v.length
  kind : ∀ p, p < P.length → (P.getD p zero).kind = (v.getD (a + p) zero).kind
  n : ∀ p, p < P.length → (P.getD p zero).n = (v.getD (a + p) zero).n
  same : ∀ p, 0 < p → p < P.length → P.getD p zero = v.getD (a + p) zero

theorem kids_sub {P v : List Cl} {a e : Nat} (hs : Sub P v a e) (f : Nat) (ih : ∀ p e1 d1, p < P.length → walk v f (a + p) = some (e1, d1) → e1 ≤ e → walk P f p = some (e1 - a, d1)) (c c' : Cl) (hc : c'.kind = c.kind) (m : Nat) :
    ∀ k p d last e1 d1, 0 < p → d ≤ f → kids (walk v f) v c m k (a + p) d last = some (e1, d1) → e1 ≤ e → kids (walk P f) P c' m k p d last = some (e1 - a, d1) := by
  induction m with
  | zero =>
    intro k p d last e1 d1 hp _ h he
    simp only [kids, Option.some.injEq, Prod.mk.injEq] at h ⊢
    obtain ⟨rfl, rfl⟩ := h
    exact ⟨by omega, rfl⟩
  | succ m ihm =>
    intro k p d last e1 d1 hp hd h he
    simp only [kids] at h ⊢
    split at h
    · cases h
    rename_i hb
    have hlt : a + p < v.length := by
      by_cases hx : a + p < v.length
      · exact hx
      · exact absurd (show bad v c k (a + p) last = true by unfold bad; rw [if_neg hx]) hb
    split at h
    · cases h
    · rename_i e2 d2 hr
      have hw := walk_bd v f (a + p) hlt _ hr
      simp only at hw
      have hmono := kids_bd (walk v f) v c f (walk_bd v f) m (k + 1) e2 (max d d2) _ _ hw.2.1 (by omega) h
      simp only at hmono
      have hpl : p < P.length := by rw [hs.len]; omega
      have hsame := hs.same p hp hpl
      have hbP : bad P c' k p last = false := by
        have hb' : bad v c k (a + p) last = false := by cases hx : bad v c k (a + p) last with | true => exact absurd hx hb | false => rfl
        unfold bad at hb' ⊢
        rw [if_pos hlt] at hb'
        rw [if_pos hpl, hsame, hc]
        exact hb'
      rw [if_neg (by rw [hbP]; simp), ih p e2 d2 hpl hr (by omega)]
      simp only
      rw [hsame]
      have := ihm (k + 1) (e2 - a) (max d d2) (v.getD (a + p) zero).key e1 d1 (by omega) (by omega) (by rw [show a + (e2 - a) = e2 from by omega]; exact h) he
      exact this

theorem walk_sub {P v : List Cl} {a e : Nat} (hs : Sub P v a e) (f : Nat) : ∀ p e1 d1, p < P.length → walk v f (a + p) = some (e1, d1) → e1 ≤ e → walk P f p = some (e1 - a, d1) := by
  induction f with
  | zero => intro p e1 d1 _ h; cases h
  | succ f ih =>
    intro p e1 d1 hp h he
    simp only [walk, Option.map_eq_some_iff] at h ⊢
    obtain ⟨⟨x, y⟩, h1, h2⟩ := h
    simp only [Prod.mk.injEq] at h2
    obtain ⟨rfl, rfl⟩ := h2
    refine ⟨(x - a, y), ?_, rfl⟩
    rw [hs.n p hp]
    have := kids_sub hs f ih (v.getD (a + p) zero) (P.getD p zero) (hs.kind p hp) _ 0 (p + 1) 0 ByteArray.empty x y (by omega) (by omega) (by rw [show a + (p + 1) = a + p + 1 from by omega]; exact h1) he
    exact this

/-- As much fuel as there are cells is enough. -/
theorem kids_less (v : List Cl) (c : Cl) (f g : Nat) (ih : ∀ a e d, walk v f a = some (e, d) → e - a ≤ g → walk v g a = some (e, d)) (m : Nat) :
    ∀ k p d last e1 d1, d ≤ f → p ≤ v.length → kids (walk v f) v c m k p d last = some (e1, d1) → e1 - p ≤ g → kids (walk v g) v c m k p d last = some (e1, d1) := by
  induction m with
  | zero => intro k p d last e1 d1 _ _ h _; exact h
  | succ m ihm =>
    intro k p d last e1 d1 hd hp h hg
    simp only [kids] at h ⊢
    split at h
    · cases h
    rename_i hb
    have hlt : p < v.length := by
      by_cases hx : p < v.length
      · exact hx
      · exact absurd (show bad v c k p last = true by unfold bad; rw [if_neg hx]) hb
    rw [if_neg hb]
    split at h
    · cases h
    · rename_i e2 d2 hr
      have hw := walk_bd v f p hlt _ hr
      simp only at hw
      have hmono := kids_bd (walk v f) v c f (walk_bd v f) m (k + 1) e2 (max d d2) _ _ hw.2.1 (by omega) h
      simp only at hmono
      rw [ih p e2 d2 hr (by omega)]
      exact ihm _ _ _ _ _ _ (by omega) hw.2.1 h (by omega)

theorem walk_less (v : List Cl) (f : Nat) : ∀ g a e d, a < v.length → walk v f a = some (e, d) → e - a ≤ g → walk v g a = some (e, d) := by
  induction f with
  | zero => intro g a e d _ h; cases h
  | succ f ih =>
    intro g a e d ha h hg
    have hb := walk_bd v (f + 1) a ha _ h
    simp only at hb
    cases g with
    | zero => omega
    | succ g =>
      simp only [walk, Option.map_eq_some_iff] at h ⊢
      obtain ⟨⟨x, y⟩, h1, h2⟩ := h
      simp only [Prod.mk.injEq] at h2
      obtain ⟨rfl, rfl⟩ := h2
      refine ⟨(x, y), ?_, rfl⟩
      have hk := kids_bd (walk v f) v _ f (walk_bd v f) _ _ _ _ _ _ (by omega) (by omega) h1
      simp only at hk
      refine kids_less v _ f g ?_ _ _ _ _ _ _ _ (by omega) (by omega) h1 (by omega)
      intro a' e' d' h' hg'
      by_cases ha' : a' < v.length
      · exact ih g a' e' d' ha' h' hg'
      · cases f with
        | zero => cases h'
        | succ f =>
          cases g with
          | zero =>
            simp only [walk, Option.map_eq_some_iff] at h'
            obtain ⟨⟨x', y'⟩, h5, h6⟩ := h'
            rw [show v.getD a' zero = zero from by rw [List.getD_eq_getElem?_getD, List.getElem?_eq_none (by omega)]; rfl] at h5
            simp only [zero, Int.toNat_zero, kids, Option.some.injEq, Prod.mk.injEq] at h5 h6
            omega
          | succ g =>
            simp only [walk, Option.map_eq_some_iff] at h' ⊢
            obtain ⟨⟨x', y'⟩, h5, h6⟩ := h'
            refine ⟨(x', y'), ?_, h6⟩
            rw [show v.getD a' zero = zero from by rw [List.getD_eq_getElem?_getD, List.getElem?_eq_none (by omega)]; rfl] at h5 ⊢
            simp only [zero, Int.toNat_zero, kids] at h5 ⊢
            exact h5

/-- The depth within. -/
theorem kids_depth (v : List Cl) (c : Cl) (f : Nat)
    (hrec : ∀ a e d, a < v.length → walk v f a = some (e, d) → ∀ p, a ≤ p → p < e → ∃ e' d', walk v f p = some (e', d') ∧ d' ≤ d) (m : Nat) :
    ∀ k e d last e' d', kids (walk v f) v c m k e d last = some (e', d') → e ≤ v.length → d ≤ f → d ≤ d' ∧ ∀ p, e ≤ p → p < e' → ∃ e1 d1, walk v f p = some (e1, d1) ∧ d1 ≤ d' := by
  induction m with
  | zero => intro k e d last e' d' h _ _; simp only [kids, Option.some.injEq, Prod.mk.injEq] at h; exact ⟨by omega, fun p h1 h2 => by omega⟩
  | succ m ih =>
    intro k e d last e' d' h he hd
    simp only [kids] at h
    split at h
    · cases h
    rename_i hb
    have hlt : e < v.length := by
      by_cases hx : e < v.length
      · exact hx
      · exact absurd (show bad v c k e last = true by unfold bad; rw [if_neg hx]) hb
    split at h
    · cases h
    · rename_i e1 d1 hr
      have hw := walk_bd v f e hlt _ hr
      simp only at hw
      obtain ⟨q1, q2⟩ := ih _ _ _ _ _ _ h hw.2.1 (by omega)
      refine ⟨by omega, fun p h1 h2 => ?_⟩
      by_cases hp : p < e1
      · obtain ⟨x, y, h3, h4⟩ := hrec e e1 d1 hlt hr p h1 hp
        exact ⟨x, y, h3, by omega⟩
      · exact q2 p (by omega) h2

theorem walk_depth (v : List Cl) (f : Nat) : ∀ a e d, a < v.length → walk v f a = some (e, d) → ∀ p, a ≤ p → p < e → ∃ e' d', walk v f p = some (e', d') ∧ d' ≤ d := by
  induction f with
  | zero => intro a e d _ h; cases h
  | succ f ih =>
    intro a e d ha h p h1 h2
    by_cases hp : p = a
    · subst hp; exact ⟨e, d, h, Nat.le_refl _⟩
    · have h' := h
      simp only [walk, Option.map_eq_some_iff] at h'
      obtain ⟨⟨e1, d1⟩, h3, h4⟩ := h'
      simp only [Prod.mk.injEq] at h4
      obtain ⟨rfl, rfl⟩ := h4
      obtain ⟨q, r, h5, h6⟩ := (kids_depth v _ f ih _ _ _ _ _ _ _ h3 (by omega) (by omega)).2 p (by omega) h2
      exact ⟨q, r, walk_more v f p _ h5, by omega⟩

end M
end Go.Proofs.Ytjoghcolfehkcaa
