/-
  The plain mathematics of a part of a value: it is a value without a fault, and its own parts are parts of the whole. No word of the program is used here.
  A part of a value without a fault has none; its parts are parts of the whole. No word of the program is used here.
  The plain order of values: by kinds, numbers, texts, lists of parts, lists of keys. No word of the program is used here.
  The text of a value, as a plain function of its cells. No word of the program is used here.
-/
import Derived.Test.YtikeffckhklhbaaGreatDoorX13
import Derived.Test.YtikeffckhklhbaaGreatDoorX18
import Derived.Test.YtikeffckhklhbaaGreatDoorX19
import Derived.Lib.ItoaLen
import Derived.Lib.ItoaNum
namespace Go.Proofs.YtikeffckhklhbaaGreatDoor
open Go.RowKit
namespace M

/-- P holds the cells of v from a to e, but perhaps for the first key. -/
structure Sub (P v : List Cl) (a e : Nat) : Prop where
  len : P.length = e - a
  le : a ≤ e
  top : e ≤ v.length
  kind : ∀ p, p < P.length → (P.getD p zero).kind = (v.getD (a + p) zero).kind
  n : ∀ p, p < P.length → (P.getD p zero).n = (v.getD (a + p) zero).n
  same : ∀ p, 0 < p → p < P.length → P.getD p zero = v.getD (a + p) zero

theorem kids_sub {P v : List Cl} {a e : Nat} (hs : Sub P v a e) (f : Nat) (ih : ∀ p e1 d1, p < P.length → walk v f (a + p) = some (e1, d1) → e1 ≤ e → walk P f p = some (e1 - a, d1)) (c c' : Cl) (hc : c'.kind = c.kind) (m : Nat) :
    ∀ k p d last e1 d1, 0 < p → d ≤ f → kids (walk v f) v c m k (a + p) d last = some (e1, d1) → e1 ≤ e → kids (walk P f) P c' m k p d last = some (e1 - a, d1) := by
  induction m with
  | zero =>
    intro k p d last e1 d1 hp _ h he
    simp only [kids, Option.some.injEq, Prod.mk.injEq] at h ⊢
    obtain ⟨rfl, rfl⟩ := h
    exact ⟨by omega, rfl⟩
  | succ m ihm =>
    intro k p d last e1 d1 hp hd h he
    simp only [kids] at h ⊢
    split at h
    · cases h
    rename_i hb
    have hlt : a + p < v.length := by
      by_cases hx : a + p < v.length
      · exact hx
      · exact absurd (show bad v c k (a + p) last = true by unfold bad; rw [if_neg hx]) hb
    split at h
    · cases h
    · rename_i e2 d2 hr
      have hw := walk_bd v f (a + p) hlt _ hr
      simp only at hw
      have hmono := kids_bd (walk v f) v c f (walk_bd v f) m (k + 1) e2 (max d d2) _ _ hw.2.1 (by omega) h
      simp only at hmono
      have hpl : p < P.length := by rw [hs.len]; omega
      have hsame := hs.same p hp hpl
      have hbP : bad P c' k p last = false := by
        have hb' : bad v c k (a + p) last = false := by cases hx : bad v c k (a + p) last with | true => exact absurd hx hb | false => rfl
        unfold bad at hb' ⊢
        rw [if_pos hlt] at hb'
        rw [if_pos hpl, hsame, hc]
        exact hb'
      rw [if_neg (by rw [hbP]; simp), ih p e2 d2 hpl hr (by omega)]
      simp only
      rw [hsame]
      have := ihm (k + 1) (e2 - a) (max d d2) (v.getD (a + p) zero).key e1 d1 (by omega) (by omega) (by rw [show a + (e2 - a) = e2 from by omega]; exact h) he
      exact this

theorem walk_sub {P v : List Cl} {a e : Nat} (hs : Sub P v a e) (f : Nat) : ∀ p e1 d1, p < P.length → walk v f (a + p) = some (e1, d1) → e1 ≤ e → walk P f p = some (e1 - a, d1) := by
  induction f with
  | zero => intro p e1 d1 _ h; cases h
  | succ f ih =>
    intro p e1 d1 hp h he
    simp only [walk, Option.map_eq_some_iff] at h ⊢
    obtain ⟨⟨x, y⟩, h1, h2⟩ := h
    simp only [Prod.mk.injEq] at h2
    obtain ⟨rfl, rfl⟩ := h2
    refine ⟨(x - a, y), ?_, rfl⟩
    rw [hs.n p hp]
    have := kids_sub hs f ih (v.getD (a + p) zero) (P.getD p zero) (hs.kind p hp) _ 0 (p + 1) 0 ByteArray.empty x y (by omega) (by omega) (by rw [show a + (p + 1) = a + p + 1 from by omega]; exact h1) he
    exact this

/-- As much fuel as there are cells is enough. -/
theorem kids_less (v : List Cl) (c : Cl) (f g : Nat) (ih : ∀ a e d, walk v f a = some (e, d) → e - a ≤ g → walk v g a = some (e, d)) (m : Nat) :
    ∀ k p d last e1 d1, d ≤ f → p ≤ v.length → kids (walk v f) v c m k p d last = some (e1, d1) → e1 - p ≤ g → kids (walk v g) v c m k p d last = some (e1, d1) := by
  induction m with
  | zero => intro k p d last e1 d1 _ _ h _; exact h
  | succ m ihm =>
    intro k p d last e1 d1 hd hp h hg
    simp only [kids] at h ⊢
    split at h
    · cases h
    rename_i hb
    have hlt : p < v.length := by
      by_cases hx : p < v.length
      · exact hx
      · exact absurd (show bad v c k p last = true by unfold bad; rw [if_neg hx]) hb
    rw [if_neg hb]
    split at h
    · cases h
    · rename_i e2 d2 hr
      have hw := walk_bd v f p hlt _ hr
      simp only at hw
      have hmono := kids_bd (walk v f) v c f (walk_bd v f) m (k + 1) e2 (max d d2) _ _ hw.2.1 (by omega) h
      simp only at hmono
      rw [ih p e2 d2 hr (by omega)]
      exact ihm _ _ _ _ _ _ (by omega) hw.2.1 h (by omega)

theorem walk_less (v : List Cl) (f : Nat) : ∀ g a e d, a < v.length → walk v f a = some (e, d) → e - a ≤ g → walk v g a = some (e, d) := by
  induction f with
  | zero => intro g a e d _ h; cases h
  | succ f ih =>
    intro g a e d ha h hg
    have hb := walk_bd v (f + 1) a ha _ h
    simp only at hb
    cases g with
    | zero => omega
    | succ g =>
      simp only [walk, Option.map_eq_some_iff] at h ⊢
      obtain ⟨⟨x, y⟩, h1, h2⟩ := h
      simp only [Prod.mk.injEq] at h2
      obtain ⟨rfl, rfl⟩ := h2
      refine ⟨(x, y), ?_, rfl⟩
      have hk := kids_bd (walk v f) v _ f (walk_bd v f) _ _ _ _ _ _ (by omega) (by omega) h1
      simp only at hk
      refine kids_less v _ f g ?_ _ _ _ _ _ _ _ (by omega) (by omega) h1 (by omega)
      intro a' e' d' h' hg'
      by_cases ha' : a' < v.length
      · exact ih g a' e' d' ha' h' hg'
      · cases f with
        | zero => cases h'
        | succ f =>
          cases g with
          | zero =>
            simp only [walk, Option.map_eq_some_iff] at h'
            obtain ⟨⟨x', y'⟩, h5, h6⟩ := h'
            rw [show v.getD a' zero = zero from by rw [List.getD_eq_getElem?_getD, List.getElem?_eq_none (by omega)]; rfl] at h5
            simp only [zero, Int.toNat_zero, kids, Option.some.injEq, Prod.mk.injEq] at h5 h6
            omega
          | succ g =>
            simp only [walk, Option.map_eq_some_iff] at h' ⊢
            obtain ⟨⟨x', y'⟩, h5, h6⟩ := h'
            refine ⟨(x', y'), ?_, h6⟩
            rw [show v.getD a' zero = zero from by rw [List.getD_eq_getElem?_getD, List.getElem?_eq_none (by omega)]; rfl] at h5 ⊢
            simp only [zero, Int.toNat_zero, kids] at h5 ⊢
            exact h5

/-- The depth within. -/
theorem kids_depth (v : List Cl) (c : Cl) (f : Nat)
    (hrec : ∀ a e d, a < v.length → walk v f a = some (e, d) → ∀ p, a ≤ p → p < e → ∃ e' d', walk v f p = some (e', d') ∧ d' ≤ d) (m : Nat) :
    ∀ k e d last e' d', kids (walk v f) v c m k e d last = some (e', d') → e ≤ v.length → d ≤ f → d ≤ d' ∧ ∀ p, e ≤ p → p < e' → ∃ e1 d1, walk v f p = some (e1, d1) ∧ d1 ≤ d' := by
  induction m with
  | zero => intro k e d last e' d' h _ _; simp only [kids, Option.some.injEq, Prod.mk.injEq] at h; exact ⟨by omega, fun p h1 h2 => by omega⟩
  | succ m ih =>
    intro k e d last e' d' h he hd
    simp only [kids] at h
    split at h
    · cases h
    rename_i hb
    have hlt : e < v.length := by
      by_cases hx : e < v.length
      · exact hx
      · exact absurd (show bad v c k e last = true by unfold bad; rw [if_neg hx]) hb
    split at h
    · cases h
    · rename_i e1 d1 hr
      have hw := walk_bd v f e hlt _ hr
      simp only at hw
      obtain ⟨q1, q2⟩ := ih _ _ _ _ _ _ h hw.2.1 (by omega)
      refine ⟨by omega, fun p h1 h2 => ?_⟩
      by_cases hp : p < e1
      · obtain ⟨x, y, h3, h4⟩ := hrec e e1 d1 hlt hr p h1 hp
        exact ⟨x, y, h3, by omega⟩
      · exact q2 p (by omega) h2

theorem walk_depth (v : List Cl) (f : Nat) : ∀ a e d, a < v.length → walk v f a = some (e, d) → ∀ p, a ≤ p → p < e → ∃ e' d', walk v f p = some (e', d') ∧ d' ≤ d := by
  induction f with
  | zero => intro a e d _ h; cases h
  | succ f ih =>
    intro a e d ha h p h1 h2
    by_cases hp : p = a
    · subst hp; exact ⟨e, d, h, Nat.le_refl _⟩
    · have h' := h
      simp only [walk, Option.map_eq_some_iff] at h'
      obtain ⟨⟨e1, d1⟩, h3, h4⟩ := h'
      simp only [Prod.mk.injEq] at h4
      obtain ⟨rfl, rfl⟩ := h4
      obtain ⟨q, r, h5, h6⟩ := (kids_depth v _ f ih _ _ _ _ _ _ _ h3 (by omega) (by omega)).2 p (by omega) h2
      exact ⟨q, r, walk_more v f p _ h5, by omega⟩

end M
end Go.Proofs.YtikeffckhklhbaaGreatDoor

namespace Go.Proofs.YtikeffckhklhbaaGreatDoor
open Go.RowKit

theorem empty_toList : ByteArray.empty.toList = [] := by unfold ByteArray.toList ByteArray.toList.loop; rfl

theorem setKey_getD (l : List M.Cl) (k : ByteArray) (p : Nat) (hp : 0 < p) : (setKey l k).getD p M.zero = l.getD p M.zero := by
  cases l with
  | nil => rfl
  | cons c r => cases p with
    | zero => omega
    | succ p => rfl
theorem setKey_zero (l : List M.Cl) (k : ByteArray) (hl : l ≠ []) : (setKey l k).getD 0 M.zero = { l.getD 0 M.zero with key := k } := by
  cases l with
  | nil => exact absurd rfl hl
  | cons c r => rfl

theorem end_gt {v : List M.Cl} (hv : M.valueFault v = 0) {a : Nat} (ha : a < v.length) : a < M.endOf v a ∧ M.endOf v a ≤ v.length := by
  obtain ⟨d, _, h1, h2, _⟩ := M.endOf_spec hv a ha; exact ⟨h1, h2⟩
theorem part_len {v : List M.Cl} (hv : M.valueFault v = 0) {a : Nat} (ha : a < v.length) : (part v a).length = M.endOf v a - a := by
  unfold part; rw [setKey_length, cut_length _ _ _ (end_gt hv ha).2]
theorem cut_ne {v : List M.Cl} (hv : M.valueFault v = 0) {a : Nat} (ha : a < v.length) : cut v a (M.endOf v a) ≠ [] := by
  intro h
  have := cut_length v a (M.endOf v a) (end_gt hv ha).2
  rw [h] at this
  have := (end_gt hv ha).1
  simp at *; omega
theorem part_getD {v : List M.Cl} {a : Nat} (p : Nat) (hp : 0 < p) (hl : p < M.endOf v a - a) : (part v a).getD p M.zero = v.getD (a + p) M.zero := by
  unfold part; rw [setKey_getD _ _ _ hp, cut_getD _ _ _ _ hl]
theorem part_zero {v : List M.Cl} (hv : M.valueFault v = 0) {a : Nat} (ha : a < v.length) : (part v a).getD 0 M.zero = { v.getD a M.zero with key := ByteArray.empty } := by
  unfold part
  rw [setKey_zero _ _ (cut_ne hv ha), cut_getD _ _ _ _ (by have := (end_gt hv ha).1; omega)]
  rfl

theorem part_sub {v : List M.Cl} (hv : M.valueFault v = 0) {a : Nat} (ha : a < v.length) : M.Sub (part v a) v a (M.endOf v a) := by
  have hg := end_gt hv ha
  have hl := part_len hv ha
  refine ⟨hl, by omega, hg.2, ?_, ?_, ?_⟩
  · intro p hp
    by_cases h0 : p = 0
    · subst h0; rw [part_zero hv ha]; rfl
    · rw [part_getD p (by omega) (by omega)]
  · intro p hp
    by_cases h0 : p = 0
    · subst h0; rw [part_zero hv ha]; rfl
    · rw [part_getD p (by omega) (by omega)]
  · intro p h1 h2
    exact part_getD p h1 (by omega)

theorem code_key {c : M.Cl} (h : M.cellCode c = 0) : M.cellCode { c with key := ByteArray.empty } = 0 := by
  unfold M.cellCode at h ⊢
  split at h
  · cases h
  rename_i h1
  rw [if_neg h1]
  split at h
  · cases h
  rename_i h2
  rw [if_neg h2]
  split at h
  · cases h
  rename_i h3
  rw [if_neg h3]
  split at h
  · rename_i h4
    rw [if_pos ⟨h4.1, show M.textOk ByteArray.empty = true by decide⟩]
  · cases h

theorem first_of_all {l : List M.Cl} (h : ∀ i, i < l.length → M.cellCode (l.getD i M.zero) = 0) : M.firstCode l = 0 := by
  induction l with
  | nil => rfl
  | cons c r ih =>
    have h0 := h 0 (by simp)
    simp only [List.getD_cons_zero] at h0
    rw [M.firstCode, if_pos h0]
    exact ih (fun i hi => by have := h (i + 1) (by simpa using hi); simpa only [List.getD_cons_succ] using this)

theorem code_at {v : List M.Cl} (hv : M.valueFault v = 0) (i : Nat) (hi : i < v.length) : M.cellCode (v.getD i M.zero) = 0 := M.first_zero (M.fault_zero hv).2.2.1 _ (getD_mem v i hi)

theorem part_walk {v : List M.Cl} (hv : M.valueFault v = 0) {a : Nat} (ha : a < v.length) (p : Nat) (hp : p < M.endOf v a - a) : ∃ d, M.walk (part v a) (part v a).length p = some (M.endOf v (a + p) - a, d) ∧ M.endOf v (a + p) ≤ M.endOf v a := by
  have hg := end_gt hv ha
  have hl := part_len hv ha
  obtain ⟨d, hw, _, _, _⟩ := M.endOf_spec hv a ha
  obtain ⟨e1, d1, h1, h2⟩ := M.walk_in v v.length a _ d hw ha (a + p) (by omega) (by omega)
  have he : M.endOf v (a + p) = e1 := M.endOf_of (Nat.le_refl _) h1
  have hb := M.walk_bd v v.length (a + p) (by omega) _ h1
  simp only at hb
  have hs := M.walk_sub (part_sub hv ha) v.length p e1 d1 (by omega) h1 h2
  have := M.walk_less (part v a) v.length (part v a).length p (e1 - a) d1 (by omega) hs (by omega)
  rw [he]
  exact ⟨d1, this, h2⟩

theorem part_end {v : List M.Cl} (hv : M.valueFault v = 0) {a : Nat} (ha : a < v.length) (p : Nat) (hp : p < M.endOf v a - a) : M.endOf (part v a) p = M.endOf v (a + p) - a ∧ M.endOf v (a + p) ≤ M.endOf v a := by
  obtain ⟨d, h1, h2⟩ := part_walk hv ha p hp
  exact ⟨M.endOf_of (Nat.le_refl _) h1, h2⟩

theorem part_valid {v : List M.Cl} (hv : M.valueFault v = 0) {a : Nat} (ha : a < v.length) : M.valueFault (part v a) = 0 := by
  have hg := end_gt hv ha
  have hl := part_len hv ha
  obtain ⟨d0, hw0, hd0⟩ := (M.fault_zero hv).2.2.2.2
  have hlen := (M.fault_zero hv).2.1
  obtain ⟨e1, d1, h1, h2⟩ := M.walk_depth v v.length 0 _ _ (by omega) hw0 a (by omega) ha
  have he : M.endOf v a = e1 := M.endOf_of (Nat.le_refl _) h1
  have hs := M.walk_sub (part_sub hv ha) v.length 0 e1 d1 (by omega) h1 (by omega)
  have hw := M.walk_less (part v a) v.length (part v a).length 0 (e1 - a) d1 (by omega) hs (by omega)
  have hfc : M.firstCode (part v a) = 0 := by
    refine first_of_all (fun i hi => ?_)
    by_cases h0 : i = 0
    · subst h0; rw [part_zero hv ha]; exact code_key (code_at hv a ha)
    · rw [part_getD i (by omega) (by omega)]; exact code_at hv (a + i) (by omega)
  unfold M.valueFault
  rw [if_neg (by omega), if_neg (by simp [hfc]), hw]
  simp only
  rw [if_neg, if_neg (by omega)]
  rw [part_zero hv ha]
  intro h
  rcases h with h | h
  · omega
  · exact h empty_toList

theorem cells_ext {l l' : List M.Cl} (hl : l.length = l'.length) (h : ∀ i, i < l.length → l.getD i M.zero = l'.getD i M.zero) : l = l' := by
  refine List.ext_getElem hl (fun i h1 h2 => ?_)
  have := h i h1
  rw [List.getD_eq_getElem?_getD, List.getD_eq_getElem?_getD, List.getElem?_eq_getElem h1, List.getElem?_eq_getElem h2] at this
  simpa using this

theorem part_part {v : List M.Cl} (hv : M.valueFault v = 0) {a : Nat} (ha : a < v.length) (p : Nat) (hp : 0 < p) (hl : p < M.endOf v a - a) : part (part v a) p = part v (a + p) := by
  have hg := end_gt hv ha
  have hP := part_valid hv ha
  have hlen := part_len hv ha
  have he := part_end hv ha p hl
  have hg2 := end_gt hv (a := a + p) (by omega)
  have hgP := end_gt hP (a := p) (by omega)
  have l1 := part_len hP (a := p) (by omega)
  have l2 := part_len hv (a := a + p) (by omega)
  refine cells_ext (by omega) (fun i hi => ?_)
  by_cases h0 : i = 0
  · subst h0
    rw [part_zero hP (by omega), part_zero hv (by omega), part_getD p hp hl]
  · rw [part_getD (v := part v a) i (by omega) (by omega), part_getD (v := v) i (by omega) (by omega), part_getD (p + i) (by omega) (by omega), Nat.add_assoc]

theorem part_arity {v : List M.Cl} (hv : M.valueFault v = 0) {a : Nat} (ha : a < v.length) : M.arity (part v a) 0 = M.arity v a := by
  unfold M.arity; rw [part_zero hv ha]

theorem part_iter {v : List M.Cl} (hv : M.valueFault v = 0) {a : Nat} (ha : a < v.length) (j : Nat) (hj : j ≤ M.arity v a) : M.iter (part v a) j 1 + a = M.iter v j (a + 1) := by
  induction j with
  | zero => show 1 + a = a + 1; omega
  | succ j ih =>
    have h := ih (by omega)
    have hin := (M.places_in hv a ha).1 j (by omega)
    rw [M.iter_next, M.iter_next]
    have he := part_end hv ha (M.iter (part v a) j 1) (by omega)
    rw [he.1, show a + M.iter (part v a) j 1 = M.iter v j (a + 1) from by omega]
    have := end_gt hv (a := M.iter v j (a + 1)) (by have := (end_gt hv ha).2; omega)
    omega

/-- The parts of the value at a place. -/
def subs (v : List M.Cl) (a : Nat) : List (List M.Cl) := (M.places v a).map (part v)
/-- Their keys. -/
def keysAt (v : List M.Cl) (a : Nat) : List ByteArray := (M.places v a).map fun p => (v.getD p M.zero).key

theorem subs_part {v : List M.Cl} (hv : M.valueFault v = 0) {a : Nat} (ha : a < v.length) : subs (part v a) 0 = subs v a ∧ keysAt (part v a) 0 = keysAt v a := by
  have har := part_arity hv ha
  have hin := M.places_in hv a ha
  have hg := end_gt hv ha
  unfold subs keysAt M.places
  simp only [List.map_map]
  rw [har]
  constructor
  · refine List.map_congr_left (fun j hj => ?_)
    simp only [List.mem_range] at hj
    simp only [Function.comp, Nat.zero_add]
    have h1 := part_iter hv ha j (by omega)
    have h2 := hin.1 j hj
    rw [part_part hv ha _ (by omega) (by omega)]
    congr 1; omega
  · refine List.map_congr_left (fun j hj => ?_)
    simp only [List.mem_range] at hj
    simp only [Function.comp, Nat.zero_add]
    have h1 := part_iter hv ha j (by omega)
    have h2 := hin.1 j hj
    rw [part_getD _ (by omega) (by omega)]
    congr 2; omega

end Go.Proofs.YtikeffckhklhbaaGreatDoor

namespace Go.Proofs.YtikeffckhklhbaaGreatDoor
open Go.RowKit

def lex {α : Type} (cmp : α → α → Int) : List α → List α → Int
  | [], [] => 0
  | [], _ :: _ => -1
  | _ :: _, [] => 1
  | x :: xs, y :: ys => if cmp x y ≠ 0 then cmp x y else lex cmp xs ys

theorem lex_hit {α : Type} (cmp : α → α → Int) (d : α) (A B : List α) (i : Nat) (h : ∀ j, j < i → cmp (A.getD j d) (B.getD j d) = 0) (hA : i < A.length) (hB : i < B.length) (hne : cmp (A.getD i d) (B.getD i d) ≠ 0) :
    lex cmp A B = cmp (A.getD i d) (B.getD i d) := by
  induction A generalizing B i with
  | nil => simp at hA
  | cons x xs ih =>
    cases B with
    | nil => simp at hB
    | cons y ys =>
      cases i with
      | zero => simp only [List.getD_cons_zero] at hne ⊢; rw [lex, if_pos hne]
      | succ i =>
        have h0 := h 0 (by omega)
        simp only [List.getD_cons_zero] at h0
        rw [lex, if_neg (by simp [h0])]
        simp only [List.getD_cons_succ] at hne ⊢
        exact ih ys i (fun j hj => by have := h (j + 1) (by omega); simpa only [List.getD_cons_succ] using this) (by simpa using hA) (by simpa using hB) hne

def lenSign (a b : Nat) : Int := if a < b then -1 else if b < a then 1 else 0
theorem lex_end {α : Type} (cmp : α → α → Int) (d : α) (A B : List α) (i : Nat) (h : ∀ j, j < i → cmp (A.getD j d) (B.getD j d) = 0) (hi : A.length ≤ i ∨ B.length ≤ i) :
    lex cmp A B = lenSign A.length B.length := by
  induction A generalizing B i with
  | nil => cases B with
    | nil => rfl
    | cons y ys => simp [lex, lenSign]
  | cons x xs ih =>
    cases B with
    | nil => simp [lex, lenSign]
    | cons y ys =>
      cases i with
      | zero => simp at hi
      | succ i =>
        have h0 := h 0 (by omega)
        simp only [List.getD_cons_zero] at h0
        rw [lex, if_neg (by simp [h0]), ih ys i (fun j hj => by have := h (j + 1) (by omega); simpa only [List.getD_cons_succ] using this) (by simpa using hi)]
        unfold lenSign
        simp

def sgn (a b : Int) : Int := if a < b then -1 else if b < a then 1 else 0
/-- Two texts, byte by byte. -/
def cmpK (a b : ByteArray) : Int := if Op.bytesLess a.toList b.toList = true then -1 else if (a.toList == b.toList) = true then 0 else 1

def cmpL : Nat → List M.Cl → List M.Cl → Int
  | 0, _, _ => 0
  | f + 1, P, Q =>
    if (P.getD 0 M.zero).kind ≠ (Q.getD 0 M.zero).kind then (if (P.getD 0 M.zero).kind < (Q.getD 0 M.zero).kind then -1 else 1)
    else if (P.getD 0 M.zero).kind = 3 then sgn (P.getD 0 M.zero).num (Q.getD 0 M.zero).num
    else if (P.getD 0 M.zero).kind = 4 then cmpK (P.getD 0 M.zero).text (Q.getD 0 M.zero).text
    else if (P.getD 0 M.zero).kind = 5 then lex (cmpL f) (subs P 0) (subs Q 0)
    else if (P.getD 0 M.zero).kind = 6 then (if lex cmpK (keysAt P 0) (keysAt Q 0) ≠ 0 then lex cmpK (keysAt P 0) (keysAt Q 0) else lex (cmpL f) (subs P 0) (subs Q 0))
    else 0

theorem bytesLess_irrefl (l : List UInt8) : Op.bytesLess l l = false := by
  induction l with
  | nil => rfl
  | cons a r ih => simp [Op.bytesLess, ih]

theorem subs_length (v : List M.Cl) (a : Nat) : (subs v a).length = M.arity v a := by simp [subs, M.places]
theorem keysAt_length (v : List M.Cl) (a : Nat) : (keysAt v a).length = M.arity v a := by simp [keysAt, M.places]

end Go.Proofs.YtikeffckhklhbaaGreatDoor

namespace Go.Proofs.YtikeffckhklhbaaGreatDoor
open Go.RowKit
set_option linter.unusedVariables false
namespace J
/-- What stands ahead of the k-th part: a comma, and a member's key. -/
def ahead (obj : Bool) (ks : List ByteArray) (k : Nat) : List UInt8 := (if k = 0 then [] else [44]) ++ (if obj = true then quote (ks.getD k ByteArray.empty) ++ [58] else [])
/-- The texts of the first k parts. -/
def partsK (g : List M.Cl → List UInt8) (obj : Bool) (ks : List ByteArray) (ps : List (List M.Cl)) : Nat → List UInt8
  | 0 => []
  | k + 1 => partsK g obj ks ps k ++ (ahead obj ks k ++ g (ps.getD k []))
/-- The text of a value, by fuel. -/
def encL : Nat → List M.Cl → List UInt8
  | 0, _ => []
  | f + 1, v =>
    if (v.getD 0 M.zero).kind = 0 then [110, 117, 108, 108]
    else if (v.getD 0 M.zero).kind = 1 then [102, 97, 108, 115, 101]
    else if (v.getD 0 M.zero).kind = 2 then [116, 114, 117, 101]
    else if (v.getD 0 M.zero).kind = 3 then Lib.itoa (v.getD 0 M.zero).num
    else if (v.getD 0 M.zero).kind = 4 then quote (v.getD 0 M.zero).text
    else if (v.getD 0 M.zero).kind = 5 then [91] ++ partsK (encL f) false (keysAt v 0) (subs v 0) (M.arity v 0) ++ [93]
    else [123] ++ partsK (encL f) true (keysAt v 0) (subs v 0) (M.arity v 0) ++ [125]
theorem encL_part (f : Nat) {v : List M.Cl} (hv : M.valueFault v = 0) {a : Nat} (ha : a < v.length) : encL (f + 1) (part v a) =
    if (v.getD a M.zero).kind = 0 then [110, 117, 108, 108]
    else if (v.getD a M.zero).kind = 1 then [102, 97, 108, 115, 101]
    else if (v.getD a M.zero).kind = 2 then [116, 114, 117, 101]
    else if (v.getD a M.zero).kind = 3 then Lib.itoa (v.getD a M.zero).num
    else if (v.getD a M.zero).kind = 4 then quote (v.getD a M.zero).text
    else if (v.getD a M.zero).kind = 5 then [91] ++ partsK (encL f) false (keysAt v a) (subs v a) (M.arity v a) ++ [93]
    else [123] ++ partsK (encL f) true (keysAt v a) (subs v a) (M.arity v a) ++ [125] := by
  rw [encL, part_zero hv ha, (subs_part hv ha).1, (subs_part hv ha).2, part_arity hv ha]
theorem places_getD (v : List M.Cl) (a k : Nat) (hk : k < M.arity v a) : (M.places v a)[k]? = some (M.iter v k (a + 1)) := by
  simp [M.places, hk]
theorem subs_getD (v : List M.Cl) (a k : Nat) (hk : k < M.arity v a) : (subs v a).getD k [] = part v (M.iter v k (a + 1)) := by
  rw [List.getD_eq_getElem?_getD, subs, List.getElem?_map, places_getD v a k hk]; rfl
theorem keysAt_getD (v : List M.Cl) (a k : Nat) (hk : k < M.arity v a) : (keysAt v a).getD k ByteArray.empty = (v.getD (M.iter v k (a + 1)) M.zero).key := by
  rw [List.getD_eq_getElem?_getD, keysAt, List.getElem?_map, places_getD v a k hk]; rfl
theorem encL_whole (f : Nat) {v : List M.Cl} (hv : M.valueFault v = 0) (hl : 0 < v.length) : encL (f + 1) (part v 0) = encL (f + 1) v := by
  rw [encL_part f hv hl, encL]
theorem code_text {c : M.Cl} (h : M.cellCode c = 0) : c.text.size ≤ 60 ∧ c.key.size ≤ 60 ∧ -1000000000000000 ≤ c.num ∧ c.num ≤ 1000000000000000 ∧ 0 ≤ c.kind ∧ c.kind ≤ 6 := by
  unfold M.cellCode at h
  split at h
  · cases h
  split at h
  · cases h
  split at h
  · cases h
  split at h
  · rename_i h1 h2 h3 h4
    obtain ⟨t1, t2⟩ := h4
    unfold M.textOk at t1 t2
    simp only [Bool.and_eq_true, decide_eq_true_eq] at t1 t2
    exact ⟨t1.1, t2.1, by omega, by omega, by omega, by omega⟩
  · cases h
theorem ahead_length (obj : Bool) (ks : List ByteArray) (k : Nat) (hk : (ks.getD k ByteArray.empty).size ≤ 60) : (ahead obj ks k).length ≤ 130 := by
  have h := quote_length (ks.getD k ByteArray.empty)
  unfold ahead
  generalize ks.getD k ByteArray.empty = q at *
  rw [List.length_append]
  split <;> split <;> simp only [List.length_append, List.length_cons, List.length_nil] <;> omega
/-- The texts of the first parts, if each part has at most 400 bytes a cell. -/
theorem parts_length (f : Nat) (ih : ∀ (v : List M.Cl), M.valueFault v = 0 → ∀ a, a < v.length → (part v a).length ≤ f → (encL f (part v a)).length + 140 ≤ 400 * (M.endOf v a - a)) {v : List M.Cl} (hv : M.valueFault v = 0) {a : Nat} (ha : a < v.length) (hl : (part v a).length ≤ f + 1) (obj : Bool) (k : Nat) :
    k ≤ M.arity v a → (partsK (encL f) obj (keysAt v a) (subs v a) k).length ≤ 400 * (M.iter v k (a + 1) - (a + 1)) ∧ a + 1 + k ≤ M.iter v k (a + 1) := by
  have hg := end_gt hv ha
  have hpl := part_len hv ha
  obtain ⟨hin, hend, hle, har⟩ := M.places_in hv a ha
  induction k with
  | zero => intro _; exact ⟨by simp [partsK], by simp [M.iter]⟩
  | succ k ihk =>
    intro hk
    obtain ⟨h1, h2⟩ := ihk (by omega)
    have hp := hin k (by omega)
    have hpv : M.iter v k (a + 1) < v.length := by omega
    have hgp := end_gt hv hpv
    have hnx := M.iter_next v k (a + 1)
    have hlp := part_len hv hpv
    have hi : M.endOf v (M.iter v k (a + 1)) ≤ M.endOf v a := by
      rw [← hnx]
      by_cases e : k + 1 = M.arity v a
      · rw [e, hend]; exact Nat.le_refl _
      · exact Nat.le_of_lt (hin (k + 1) (by omega)).2
    have hr := ih v hv (M.iter v k (a + 1)) hpv (by omega)
    have hky : ((keysAt v a).getD k ByteArray.empty).size ≤ 60 := by rw [keysAt_getD v a k (by omega)]; exact (code_text (code_at hv _ hpv)).2.1
    have ha' := ahead_length obj (keysAt v a) k hky
    rw [partsK, List.length_append, List.length_append, subs_getD v a k (by omega), hnx]
    exact ⟨by omega, by omega⟩
/-- At most 400 bytes a cell. -/
theorem encL_length (f : Nat) : ∀ (v : List M.Cl), M.valueFault v = 0 → ∀ a, a < v.length → (part v a).length ≤ f → (encL f (part v a)).length + 140 ≤ 400 * (M.endOf v a - a) := by
  induction f with
  | zero => intro v hv a ha h0; have := part_len hv ha; have := (end_gt hv ha).1; omega
  | succ f ih =>
    intro v hv a ha hl
    have hg := end_gt hv ha
    obtain ⟨hin, hend, hle, har⟩ := M.places_in hv a ha
    have hcode := code_text (code_at hv a ha)
    have hq := quote_length (v.getD a M.zero).text
    have hi := Lib.itoa_length_le (v.getD a M.zero).num (by omega) (by omega)
    have h5 := parts_length f ih hv ha hl false _ (Nat.le_refl _)
    have h6 := parts_length f ih hv ha hl true _ (Nat.le_refl _)
    rw [encL_part f hv ha]
    rw [hend] at h5 h6
    repeat' split
    all_goals (try simp only [List.length_append, List.length_cons, List.length_nil])
    all_goals omega
theorem parts_bd (f : Nat) {v : List M.Cl} (hv : M.valueFault v = 0) {a : Nat} (ha : a < v.length) (hl : (part v a).length ≤ f + 1) (obj : Bool) (k : Nat) (hk : k ≤ M.arity v a) : (partsK (encL f) obj (keysAt v a) (subs v a) k).length ≤ 80000 := by
  have h := parts_length f (encL_length f) hv ha hl obj k hk
  obtain ⟨hin, hend, hle, har⟩ := M.places_in hv a ha
  have h200 := (M.fault_zero hv).2.1
  have : M.iter v k (a + 1) ≤ M.endOf v a := by
    by_cases e : k = M.arity v a
    · rw [e, hend]; exact Nat.le_refl _
    · exact Nat.le_of_lt (hin k (by omega)).2
  omega
theorem enc_bd (f : Nat) {v : List M.Cl} (hv : M.valueFault v = 0) {a : Nat} (ha : a < v.length) (hl : (part v a).length ≤ f) : (encL f (part v a)).length ≤ 80000 := by
  have h := encL_length f v hv a ha hl
  have := (end_gt hv ha).2
  have h200 := (M.fault_zero hv).2.1
  omega
end J

end Go.Proofs.YtikeffckhklhbaaGreatDoor
