/-
  The plain mathematics of a part of a value: it is a value without a fault, and its own parts are parts of the whole. No word of the program is used here.
  A part of a value without a fault has none; its parts are parts of the whole. No word of the program is used here.
  The plain order of values: by kinds, numbers, texts, lists of parts, lists of keys. No word of the program is used here.
-/
import Derived.Test.YtlmibdddfjbbdaaM12
import Derived.Test.YtlmibdddfjbbdaaM14
namespace Go.Proofs.Ytlmibdddfjbbdaa
open Go.RowKit
namespace M

/-- P holds the cells of v from a to e, but perhaps for the first key. -/
structure Sub (P v : List Cl) (a e : Nat) : Prop where
  len : P.length = e - a
  le : a ≤ e
  top : e ≤ v.length
  kind : ∀ p, p < P.length → (P.getD p zero).kind = (v.getD (a + p) zero).kind
  n : ∀ p, p < P.length → (P.getD p zero).n = (v.getD (a + p) zero).n
  same : ∀ p, 0 < p → p < P.length → P.getD p zero = v.getD (a + p) zero

theorem kids_sub {P v : List Cl} {a e : Nat} (hs : Sub P v a e) (f : Nat) (ih : ∀ p e1 d1, p < P.length → walk v f (a + p) = some (e1, d1) → e1 ≤ e → walk P f p = some (e1 - a, d1)) (c c' : Cl) (hc : c'.kind = c.kind) (m : Nat) :
    ∀ k p d last e1 d1, 0 < p → d ≤ f → kids (walk v f) v c m k (a + p) d last = some (e1, d1) → e1 ≤ e → kids (walk P f) P c' m k p d last = some (e1 - a, d1) := by
  induction m with
  | zero =>
    intro k p d last e1 d1 hp _ h he
    simp only [kids, Option.some.injEq, Prod.mk.injEq] at h ⊢
    obtain ⟨rfl, rfl⟩ := h
    exact ⟨by omega, rfl⟩
  | succ m ihm =>
    intro k p d last e1 d1 hp hd h he
    simp only [kids] at h ⊢
    split at h
    · cases h
    rename_i hb
    have hlt : a + p < v.length := by
      by_cases hx : a + p < v.length
      · exact hx
      · exact absurd (show bad v c k (a + p) last = true by unfold bad; rw [if_neg hx]) hb
    split at h
    · cases h
    · rename_i e2 d2 hr
      have hw := walk_bd v f (a + p) hlt _ hr
      simp only at hw
      have hmono := kids_bd (walk v f) v c f (walk_bd v f) m (k + 1) e2 (max d d2) _ _ hw.2.1 (by omega) h
      simp only at hmono
      have hpl : p < P.length := by rw [hs.len]; omega
      have hsame := hs.same p hp hpl
      have hbP : bad P c' k p last = false := by
        have hb' : bad v c k (a + p) last = false := by cases hx : bad v c k (a + p) last with | true => exact absurd hx hb | false => rfl
        unfold bad at hb' ⊢
        rw [if_pos hlt] at hb'
        rw [if_pos hpl, hsame, hc]
        exact hb'
      rw [if_neg (by rw [hbP]; simp), ih p e2 d2 hpl hr (by omega)]
      simp only
      rw [hsame]
      have := ihm (k + 1) (e2 - a) (max d d2) (v.getD (a + p) zero).key e1 d1 (by omega) (by omega) (by rw [show a + (e2 - a) = e2 from by omega]; exact h) he
      exact this

theorem walk_sub {P v : List Cl} {a e : Nat} (hs : Sub P v a e) (f : Nat) : ∀ p e1 d1, p < P.length → walk v f (a + p) = some (e1, d1) → e1 ≤ e → walk P f p = some (e1 - a, d1) := by
  induction f with
  | zero => intro p e1 d1 _ h; cases h
  | succ f ih =>
    intro p e1 d1 hp h he
    simp only [walk, Option.map_eq_some_iff] at h ⊢
    obtain ⟨⟨x, y⟩, h1, h2⟩ := h
    simp only [Prod.mk.injEq] at h2
    obtain ⟨rfl, rfl⟩ := h2
    refine ⟨(x - a, y), ?_, rfl⟩
    rw [hs.n p hp]
    have := kids_sub hs f ih (v.getD (a + p) zero) (P.getD p zero) (hs.kind p hp) _ 0 (p + 1) 0 ByteArray.empty x y (by omega) (by omega) (by rw [show a + (p + 1) = a + p + 1 from by omega]; exact h1) he
    exact this

/-- As much fuel as there are cells is enough. -/
theorem kids_less (v : List Cl) (c : Cl) (f g : Nat) (ih : ∀ a e d, walk v f a = some (e, d) → e - a ≤ g → walk v g a = some (e, d)) (m : Nat) :
    ∀ k p d last e1 d1, d ≤ f → p ≤ v.length → kids (walk v f) v c m k p d last = some (e1, d1) → e1 - p ≤ g → kids (walk v g) v c m k p d last = some (e1, d1) := by
  induction m with
  | zero => intro k p d last e1 d1 _ _ h _; exact h
  | succ m ihm =>
    intro k p d last e1 d1 hd hp h hg
    simp only [kids] at h ⊢
    split at h
    · cases h
    rename_i hb
    have hlt : p < v.length := by
      by_cases hx : p < v.length
      · exact hx
      · exact absurd (show bad v c k p last = true by unfold bad; rw [if_neg hx]) hb
    rw [if_neg hb]
    split at h
    · cases h
    · rename_i e2 d2 hr
      have hw := walk_bd v f p hlt _ hr
      simp only at hw
      have hmono := kids_bd (walk v f) v c f (walk_bd v f) m (k + 1) e2 (max d d2) _ _ hw.2.1 (by omega) h
      simp only at hmono
      rw [ih p e2 d2 hr (by omega)]
      exact ihm _ _ _ _ _ _ (by omega) hw.2.1 h (by omega)

theorem walk_less (v : List Cl) (f : Nat) : ∀ g a e d, a < v.length → walk v f a = some (e, d) → e - a ≤ g → walk v g a = some (e, d) := by
  induction f with
  | zero => intro g a e d _ h; cases h
  | succ f ih =>
    intro g a e d ha h hg
    have hb := walk_bd v (f + 1) a ha _ h
    simp only at hb
    cases g with
    | zero => omega
    | succ g =>
      simp only [walk, Option.map_eq_some_iff] at h ⊢
      obtain ⟨⟨x, y⟩, h1, h2⟩ := h
      simp only [Prod.mk.injEq] at h2
      obtain ⟨rfl, rfl⟩ := h2
      refine ⟨(x, y), ?_, rfl⟩
      have hk := kids_bd (walk v f) v _ f (walk_bd v f) _ _ _ _ _ _ (by omega) (by omega) h1
      simp only at hk
      refine kids_less v _ f g ?_ _ _ _ _ _ _ _ (by omega) (by omega) h1 (by omega)
      intro a' e' d' h' hg'
      by_cases ha' : a' < v.length
      · exact ih g a' e' d' ha' h' hg'
      · cases f with
        | zero => cases h'
        | succ f =>
          cases g with
          | zero =>
            simp only [walk, Option.map_eq_some_iff] at h'
            obtain ⟨⟨x', y'⟩, h5, h6⟩ := h'
            rw [show v.getD a' zero = zero from by rw [List.getD_eq_getElem?_getD, List.getElem?_eq_none (by omega)]; rfl] at h5
            simp only [zero, Int.toNat_zero, kids, Option.some.injEq, Prod.mk.injEq] at h5 h6
            omega
          | succ g =>
            simp only [walk, Option.map_eq_some_iff] at h' ⊢
            obtain ⟨⟨x', y'⟩, h5, h6⟩ := h'
            refine ⟨(x', y'), ?_, h6⟩
            rw [show v.getD a' zero = zero from by rw [List.getD_eq_getElem?_getD, List.getElem?_eq_none (by omega)]; rfl] at h5 ⊢
            simp only [zero, Int.toNat_zero, kids] at h5 ⊢
            exact h5

/-- The depth within. -/
theorem kids_depth (v : List Cl) (c : Cl) (f : Nat)
    (hrec : ∀ a e d, a < v.length → walk v f a = some (e, d) → ∀ p, a ≤ p → p < e → ∃ e' d', walk v f p = some (e', d') ∧ d' ≤ d) (m : Nat) :
    ∀ k e d last e' d', kids (walk v f) v c m k e d last = some (e', d') → e ≤ v.length → d ≤ f → d ≤ d' ∧ ∀ p, e ≤ p → p < e' → ∃ e1 d1, walk v f p = some (e1, d1) ∧ d1 ≤ d' := by
  induction m with
  | zero => intro k e d last e' d' h _ _; simp only [kids, Option.some.injEq, Prod.mk.injEq] at h; exact ⟨by omega, fun p h1 h2 => by omega⟩
  | succ m ih =>
    intro k e d last e' d' h he hd
    simp only [kids] at h
    split at h
    · cases h
    rename_i hb
    have hlt : e < v.length := by
      by_cases hx : e < v.length
      · exact hx
      · exact absurd (show bad v c k e last = true by unfold bad; rw [if_neg hx]) hb
    split at h
    · cases h
    · rename_i e1 d1 hr
      have hw := walk_bd v f e hlt _ hr
      simp only at hw
      obtain ⟨q1, q2⟩ := ih _ _ _ _ _ _ h hw.2.1 (by omega)
      refine ⟨by omega, fun p h1 h2 => ?_⟩
      by_cases hp : p < e1
      · obtain ⟨x, y, h3, h4⟩ := hrec e e1 d1 hlt hr p h1 hp
        exact ⟨x, y, h3, by omega⟩
      · exact q2 p (by omega) h2

theorem walk_depth (v : List Cl) (f : Nat) : ∀ a e d, a < v.length → walk v f a = some (e, d) → ∀ p, a ≤ p → p < e → ∃ e' d', walk v f p = some (e', d') ∧ d' ≤ d := by
  induction f with
  | zero => intro a e d _ h; cases h
  | succ f ih =>
    intro a e d ha h p h1 h2
    by_cases hp : p = a
    · subst hp; exact ⟨e, d, h, Nat.le_refl _⟩
    · have h' := h
      simp only [walk, Option.map_eq_some_iff] at h'
      obtain ⟨⟨e1, d1⟩, h3, h4⟩ := h'
      simp only [Prod.mk.injEq] at h4
      obtain ⟨rfl, rfl⟩ := h4
      obtain ⟨q, r, h5, h6⟩ := (kids_depth v _ f ih _ _ _ _ _ _ _ h3 (by omega) (by omega)).2 p (by omega) h2
      exact ⟨q, r, walk_more v f p _ h5, by omega⟩

end M
end Go.Proofs.Ytlmibdddfjbbdaa

namespace Go.Proofs.Ytlmibdddfjbbdaa
open Go.RowKit

theorem empty_toList : ByteArray.empty.toList = [] := by unfold ByteArray.toList ByteArray.toList.loop; rfl

theorem setKey_getD (l : List M.Cl) (k : ByteArray) (p : Nat) (hp : 0 < p) : (setKey l k).getD p M.zero = l.getD p M.zero := by
  cases l with
  | nil => rfl
  | cons c r => cases p with
    | zero => omega
    | succ p => rfl
theorem setKey_zero (l : List M.Cl) (k : ByteArray) (hl : l ≠ []) : (setKey l k).getD 0 M.zero = { l.getD 0 M.zero with key := k } := by
  cases l with
  | nil => exact absurd rfl hl
  | cons c r => rfl

theorem end_gt {v : List M.Cl} (hv : M.valueFault v = 0) {a : Nat} (ha : a < v.length) : a < M.endOf v a ∧ M.endOf v a ≤ v.length := by
  obtain ⟨d, _, h1, h2, _⟩ := M.endOf_spec hv a ha; exact ⟨h1, h2⟩
theorem part_len {v : List M.Cl} (hv : M.valueFault v = 0) {a : Nat} (ha : a < v.length) : (part v a).length = M.endOf v a - a := by
  unfold part; rw [setKey_length, cut_length _ _ _ (end_gt hv ha).2]
theorem cut_ne {v : List M.Cl} (hv : M.valueFault v = 0) {a : Nat} (ha : a < v.length) : cut v a (M.endOf v a) ≠ [] := by
  intro h
  have := cut_length v a (M.endOf v a) (end_gt hv ha).2
  rw [h] at this
  have := (end_gt hv ha).1
  simp at *; omega
theorem part_getD {v : List M.Cl} {a : Nat} (p : Nat) (hp : 0 < p) (hl : p < M.endOf v a - a) : (part v a).getD p M.zero = v.getD (a + p) M.zero := by
  unfold part; rw [setKey_getD _ _ _ hp, cut_getD _ _ _ _ hl]
theorem part_zero {v : List M.Cl} (hv : M.valueFault v = 0) {a : Nat} (ha : a < v.length) : (part v a).getD 0 M.zero = { v.getD a M.zero with key := ByteArray.empty } := by
  unfold part
  rw [setKey_zero _ _ (cut_ne hv ha), cut_getD _ _ _ _ (by have := (end_gt hv ha).1; omega)]
  rfl

theorem part_sub {v : List M.Cl} (hv : M.valueFault v = 0) {a : Nat} (ha : a < v.length) : M.Sub (part v a) v a (M.endOf v a) := by
  have hg := end_gt hv ha
  have hl := part_len hv ha
  refine ⟨hl, by omega, hg.2, ?_, ?_, ?_⟩
  · intro p hp
    by_cases h0 : p = 0
    · subst h0; rw [part_zero hv ha]; rfl
    · rw [part_getD p (by omega) (by omega)]
  · intro p hp
    by_cases h0 : p = 0
    · subst h0; rw [part_zero hv ha]; rfl
    · rw [part_getD p (by omega) (by omega)]
  · intro p h1 h2
    exact part_getD p h1 (by omega)

theorem code_key {c : M.Cl} (h : M.cellCode c = 0) : M.cellCode { c with key := ByteArray.empty } = 0 := by
  unfold M.cellCode at h ⊢
  split at h
  · cases h
  rename_i h1
  rw [if_neg h1]
  split at h
  · cases h
  rename_i h2
  rw [if_neg h2]
  split at h
  · cases h
  rename_i h3
  rw [if_neg h3]
  split at h
  · rename_i h4
    rw [if_pos ⟨h4.1, show M.textOk ByteArray.empty = true by decide⟩]
  · cases h

theorem first_of_all {l : List M.Cl} (h : ∀ i, i < l.length → M.cellCode (l.getD i M.zero) = 0) : M.firstCode l = 0 := by
  induction l with
  | nil => rfl
  | cons c r ih =>
    have h0 := h 0 (by simp)
    simp only [List.getD_cons_zero] at h0
    rw [M.firstCode, if_pos h0]
    exact ih (fun i hi => by have := h (i + 1) (by simpa using hi); simpa only [List.getD_cons_succ] using this)

theorem code_at {v : List M.Cl} (hv : M.valueFault v = 0) (i : Nat) (hi : i < v.length) : M.cellCode (v.getD i M.zero) = 0 := M.first_zero (M.fault_zero hv).2.2.1 _ (getD_mem v i hi)

theorem part_valid {v : List M.Cl} (hv : M.valueFault v = 0) {a : Nat} (ha : a < v.length) : M.valueFault (part v a) = 0 := by
  have hg := end_gt hv ha
  have hl := part_len hv ha
  obtain ⟨d0, hw0, hd0⟩ := (M.fault_zero hv).2.2.2.2
  have hlen := (M.fault_zero hv).2.1
  obtain ⟨e1, d1, h1, h2⟩ := M.walk_depth v v.length 0 _ _ (by omega) hw0 a (by omega) ha
  have he : M.endOf v a = e1 := M.endOf_of (Nat.le_refl _) h1
  have hs := M.walk_sub (part_sub hv ha) v.length 0 e1 d1 (by omega) h1 (by omega)
  have hw := M.walk_less (part v a) v.length (part v a).length 0 (e1 - a) d1 (by omega) hs (by omega)
  have hfc : M.firstCode (part v a) = 0 := by
    refine first_of_all (fun i hi => ?_)
    by_cases h0 : i = 0
    · subst h0; rw [part_zero hv ha]; exact code_key (code_at hv a ha)
    · rw [part_getD i (by omega) (by omega)]; exact code_at hv (a + i) (by omega)
  unfold M.valueFault
  rw [if_neg (by omega), if_neg (by simp [hfc]), hw]
  simp only
  rw [if_neg, if_neg (by omega)]
  rw [part_zero hv ha]
  intro h
  rcases h with h | h
  · omega
  · exact h empty_toList

/-- The parts of the value at a place. -/
def subs (v : List M.Cl) (a : Nat) : List (List M.Cl) := (M.places v a).map (part v)
/-- Their keys. -/
def keysAt (v : List M.Cl) (a : Nat) : List ByteArray := (M.places v a).map fun p => (v.getD p M.zero).key

end Go.Proofs.Ytlmibdddfjbbdaa

namespace Go.Proofs.Ytlmibdddfjbbdaa
open Go.RowKit

theorem subs_length (v : List M.Cl) (a : Nat) : (subs v a).length = M.arity v a := by simp [subs, M.places]
theorem keysAt_length (v : List M.Cl) (a : Nat) : (keysAt v a).length = M.arity v a := by simp [keysAt, M.places]

end Go.Proofs.Ytlmibdddfjbbdaa
