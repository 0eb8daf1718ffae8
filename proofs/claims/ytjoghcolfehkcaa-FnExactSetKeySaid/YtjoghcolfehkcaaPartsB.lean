/-
  A part of a value without a fault has none; its parts are parts of the whole. No word of the program is used here.
-/
import Derived.Test.YtjoghcolfehkcaaParts
namespace Go.Proofs.Ytjoghcolfehkcaa
open Go.RowKit

theorem empty_toList : ByteArray.empty.toList = [] := by unfold ByteArray.toList ByteArray.toList.loop; rfl

theorem setKey_getD (l : List M.Cl) (k : ByteArray) (p : Nat) (hp : 0 < p) : (setKey l k).getD p M.zero = l.getD p M.zero := by
  cases l with
  | nil => rfl
  | cons c r => cases p with
    | zero => omega
    | succ p => rfl
theorem setKey_zero (l : List M.Cl) (k : ByteArray) (hl : l ≠ []) : (setKey l k).getD 0 M.zero = { l.getD 0 M.zero with key := k } := by
  cases l with
  | nil => exact absurd rfl hl
  | cons c r => rfl

theorem end_gt {v : List M.Cl} (hv : M.valueFault v = 0) {a : Nat} (ha : a < v.length) : a < M.endOf v a ∧ M.endOf v a ≤ v.length := by
  obtain ⟨d, _, h1, h2, _⟩ := M.endOf_spec hv a ha; exact ⟨h1, h2⟩
theorem part_len {v : List M.Cl} (hv : M.valueFault v = 0) {a : Nat} (ha : a < v.length) : (part v a).length = M.endOf v a - a := by
  unfold part; rw [setKey_length, cut_length _ _ _ (end_gt hv ha).2]
theorem cut_ne {v : List M.Cl} (hv : M.valueFault v = 0) {a : Nat} (ha : a < v.length) : cut v a (M.endOf v a) ≠ [] := by
  intro h
  have := cut_length v a (M.endOf v a) (end_gt hv ha).2
  rw [h] at this
  have := (end_gt hv ha).1
  simp at *; omega
theorem part_getD {v : List M.Cl} {a : Nat} (p : Nat) (hp : 0 < p) (hl : p < M.endOf v a - a) : (part v a).getD p M.zero = v.getD (a + p) M.zero := by
  unfold part; rw [setKey_getD _ _ _ hp, cut_getD _ _ _ _ hl]
theorem part_zero {v : List M.Cl} (hv : M.valueFault v = 0) {a : Nat} (ha : a < v.length) : (part v a).getD 0 M.zero = { v.getD a M.zero with key := ByteArray.empty } := by
  unfold part
  rw [setKey_zero _ _ (cut_ne hv ha), cut_getD _ _ _ _ (by have := (end_gt hv ha).1; omega)]
  rfl

theorem part_sub {v : List M.Cl} (hv : M.valueFault v = 0) {a : Nat} (ha : a < v.length) : M.Sub (part v a) v a (M.endOf v a) := by
  have hg := end_gt hv ha
  have hl := part_len hv ha
  refine ⟨hl, by omega, hg.2, ?_, ?_, ?_⟩
  · intro p hp
    by_cases h0 : p = 0
    · subst h0; rw [part_zero hv ha]; rfl
    · rw [part_getD p (by omega) (by omega)]
  · intro p hp
    by_cases h0 : p = 0
    · subst h0; rw [part_zero hv ha]; rfl
    · rw [part_getD p (by omega) (by omega)]
  · intro p h1 h2
    exact part_getD p h1 (by omega)

theorem code_key {c : M.Cl} (h : M.cellCode c = 0) : M.cellCode { c with key := ByteArray.empty } = 0 := by
  unfold M.cellCode at h ⊢
  split at h
  · cases h
  rename_i h1
  rw [if_neg h1]
  split at h
  · cases h
  rename_i h2
  rw [if_neg h2]
  split at h
  · cases h
  rename_i h3
  rw [if_neg h3]
  split at h
  · rename_i h4
    rw [if_pos ⟨h4.1, show M.textOk ByteArray.empty = true by decide⟩]
  · cases h

theorem first_of_all {l : List M.Cl} (h : ∀ i, i < l.length → M.cellCode (l.getD i M.zero) = 0) : M.firstCode l = 0 := by
  induction l with
  | nil => rfl
  | cons c r ih =>
    have h0 := h 0 (by simp)
    simp only [List.getD_cons_zero] at h0
    rw [M.firstCode, if_pos h0]
    exact ih (fun i hi => by have := h (i + 1) (by simpa using hi); simpa only [List.getD_cons_succ] using this)

theorem code_at {v : List M.Cl} (hv : M.valueFault v = 0) (i : Nat) (hi : i < v.length) : M.cellCode (v.getD i M.zero) = 0 := M.first_zero (M.fault_zero hv).2.2.1 _ (getD_mem v i hi)

theorem part_walk {v : List M.Cl} (hv : M.valueFault v = 0) {a : Nat} (ha : a < v.length) (p : Nat) (hp : p < M.endOf v a - a) : ∃ d, M.walk (part v a) (part v a).length p = some (M.endOf v (a + p) - a, d) ∧ M.endOf v (a + p) ≤ M.endOf v a := by
  have hg := end_gt hv ha
  have hl := part_len hv ha
  obtain ⟨d, hw, _, _, _⟩ := M.endOf_spec hv a ha
  obtain ⟨e1, d1, h1, h2⟩ := M.walk_in v v.length a _ d hw ha (a + p) (by omega) (by omega)
  have he : M.endOf v (a + p) = e1 := M.endOf_of (Nat.le_refl _) h1
  have hb := M.walk_bd v v.length (a + p) (by omega) _ h1
  simp only at hb
  have hs := M.walk_sub (part_sub hv ha) v.length p e1 d1 (by omega) h1 h2
  have := M.walk_less (part v a) v.length (part v a).length p (e1 - a) d1 (by omega) hs (by omega)
  rw [he]
  exact ⟨d1, this, h2⟩

theorem part_end {v : List M.Cl} (hv : M.valueFault v = 0) {a : Nat} (ha : a < v.length) (p : Nat) (hp : p < M.endOf v a - a) : M.endOf (part v a) p = M.endOf v (a + p) - a ∧ M.endOf v (a + p) ≤ M.endOf v a := by
  obtain ⟨d, h1, h2⟩ := part_walk hv ha p hp
  exact ⟨M.endOf_of (Nat.le_refl _) h1, h2⟩

theorem part_valid {v : List M.Cl} (hv : M.valueFault v = 0) {a : Nat} (ha : a < v.length) : M.valueFault (part v a) = 0 := by
  have hg := end_gt hv ha
  have hl := part_len hv ha
  obtain ⟨d0, hw0, hd0⟩ := (M.fault_zero hv).2.2.2.2
  have hlen := (M.fault_zero hv).2.1
  obtain ⟨e1, d1, h1, h2⟩ := M.walk_depth v v.length 0 _ _ (by omega) hw0 a (by omega) ha
  have he : M.endOf v a = e1 := M.endOf_of (Nat.le_refl _) h1
  have hs := M.walk_sub (part_sub hv ha) v.length 0 e1 d1 (by omega) h1 (by omega)
  have hw := M.walk_less (part v a) v.length (part v a).length 0 (e1 - a) d1 (by omega) hs (by omega)
  have hfc : M.firstCode (part v a) = 0 := by
    refine first_of_all (fun i hi => ?_)
    by_cases h0 : i = 0
    · subst h0; rw [part_zero hv ha]; exact code_key (code_at hv a ha)
    · rw [part_getD i (by omega) (by omega)]; exact code_at hv (a + i) (by omega)
  unfold M.valueFault
  rw [if_neg (by omega), if_neg (by simp [hfc]), hw]
  simp only
  rw [if_neg, if_neg (by omega)]
  rw [part_zero hv ha]
  intro h
  rcases h with h | h
  · omega
  · exact h empty_toList

theorem cells_ext {l l' : List M.Cl} (hl : l.length = l'.length) (h : ∀ i, i < l.length → l.getD i M.zero = l'.getD i M.zero) : l = l' := by
  refine List.ext_getElem hl (fun i h1 h2 => ?_)
  have := h i h1
  rw [List.getD_eq_getElem?_getD, List.getD_eq_getElem?_getD, List.getElem?_eq_getElem h1, List.getElem?_eq_getElem h2] at this
  simpa using this

theorem part_part {v : List M.Cl} (hv : M.valueFault v = 0) {a : Nat} (ha : a < v.length) (p : Nat) (hp : 0 < p) (hl : p < M.endOf v a - a) : part (part v a) p = part v (a + p) := by
  have hg := end_gt hv ha
  have hP := part_valid hv ha
  have hlen := part_len hv ha
  have he := part_end hv ha p hl
  have hg2 := end_gt hv (a := a + p) (by omega)
  have hgP := end_gt hP (a := p) (by omega)
  have l1 := part_len hP (a := p) (by omega)
  have l2 := part_len hv (a := a + p) (by omega)
  refine cells_ext (by omega) (fun i hi => ?_)
  by_cases h0 : i = 0
  · subst h0
    rw [part_zero hP (by omega), part_zero hv (by omega), part_getD p hp hl]
  · rw [part_getD (v := part v a) i (by omega) (by omega), part_getD (v := v) i (by omega) (by omega), part_getD (p + i) (by omega) (by omega), Nat.add_assoc]

theorem part_arity {v : List M.Cl} (hv : M.valueFault v = 0) {a : Nat} (ha : a < v.length) : M.arity (part v a) 0 = M.arity v a := by
  unfold M.arity; rw [part_zero hv ha]

theorem part_iter {v : List M.Cl} (hv : M.valueFault v = 0) {a : Nat} (ha : a < v.length) (j : Nat) (hj : j ≤ M.arity v a) : M.iter (part v a) j 1 + a = M.iter v j (a + 1) := by
  induction j with
  | zero => show 1 + a = a + 1; omega
  | succ j ih =>
    have h := ih (by omega)
    have hin := (M.places_in hv a ha).1 j (by omega)
    rw [M.iter_next, M.iter_next]
    have he := part_end hv ha (M.iter (part v a) j 1) (by omega)
    rw [he.1, show a + M.iter (part v a) j 1 = M.iter v j (a + 1) from by omega]
    have := end_gt hv (a := M.iter v j (a + 1)) (by have := (end_gt hv ha).2; omega)
    omega

/-- The parts of the value at a place. -/
def subs (v : List M.Cl) (a : Nat) : List (List M.Cl) := (M.places v a).map (part v)
/-- Their keys. -/
def keysAt (v : List M.Cl) (a : Nat) : List ByteArray := (M.places v a).map fun p => (v.getD p M.zero).key

theorem subs_part {v : List M.Cl} (hv : M.valueFault v = 0) {a : Nat} (ha : a < v.length) : subs (part v a) 0 = subs v a ∧ keysAt (part v a) 0 = keysAt v a := by
  have har := part_arity hv ha
  have hin := M.places_in hv a ha
  have hg := end_gt hv ha
  unfold subs keysAt M.places
  simp only [List.map_map]
  rw [har]
  constructor
  · refine List.map_congr_left (fun j hj => ?_)
    simp only [List.mem_range] at hj
    simp only [Function.comp, Nat.zero_add]
    have h1 := part_iter hv ha j (by omega)
    have h2 := hin.1 j hj
    rw [part_part hv ha _ (by omega) (by omega)]
    congr 1; omega
  · refine List.map_congr_left (fun j hj => ?_)
    simp only [List.mem_range] at hj
    simp only [Function.comp, Nat.zero_add]
    have h1 := part_iter hv ha j (by omega)
    have h2 := hin.1 j hj
    rw [part_getD _ (by omega) (by omega)]
    congr 2; omega

end Go.Proofs.Ytjoghcolfehkcaa
