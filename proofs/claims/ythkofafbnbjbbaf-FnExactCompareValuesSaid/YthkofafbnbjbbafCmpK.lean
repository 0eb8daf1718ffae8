/-
  impl.compareAt returns the plain order of the parts at two places.
-/
import Derived.Test.YthkofafbnbjbbafCmpJ
namespace Go.Proofs.Ythkofafbnbjbbaf
open Go.RowKit
set_option linter.unusedVariables false

/-- What is promised of impl.compareAt for parts of at most f cells. -/
def CatSays (v u : List M.Cl) (b off cap b' off' cap' : Nat) (f : Nat) : Prop := ∀ (i j : Nat) (w : World), i < v.length → j < u.length → (part v i).length ≤ f → Row w b off v → b < w.heap.size → Row w b' off' u → b' < w.heap.size →
  Calls Try.prog 49 #[.slice (some ⟨b, off, none⟩) v.length cap, .int .i64 i, .slice (some ⟨b', off', none⟩) u.length cap', .int .i64 j] w fun e w' => e = .returned (.int .i64 (cmpL f (part v i) (part u j))) ∧ Below w.heap.size w w'

section
variable {v u : List M.Cl} {i j : Nat}
theorem cmpL_part (f : Nat) (hv : M.valueFault v = 0) (hu : M.valueFault u = 0) (hi : i < v.length) (hj : j < u.length) : cmpL (f + 1) (part v i) (part u j) =
    if (v.getD i M.zero).kind ≠ (u.getD j M.zero).kind then (if (v.getD i M.zero).kind < (u.getD j M.zero).kind then -1 else 1)
    else if (v.getD i M.zero).kind = 3 then sgn (v.getD i M.zero).num (u.getD j M.zero).num
    else if (v.getD i M.zero).kind = 4 then cmpK (v.getD i M.zero).text (u.getD j M.zero).text
    else if (v.getD i M.zero).kind = 5 then lex (cmpL f) (subs v i) (subs u j)
    else if (v.getD i M.zero).kind = 6 then (if lex cmpK (keysAt v i) (keysAt u j) ≠ 0 then lex cmpK (keysAt v i) (keysAt u j) else lex (cmpL f) (subs v i) (subs u j))
    else 0 := by
  rw [cmpL, part_zero hv hi, part_zero hu hj, (subs_part hv hi).1, (subs_part hv hi).2, (subs_part hu hj).1, (subs_part hu hj).2]

theorem no_parts (hv : M.valueFault v = 0) (hi : i < v.length) (h5 : (v.getD i M.zero).kind ≠ 5) (h6 : (v.getD i M.zero).kind ≠ 6) : subs v i = [] := by
  have hc := (code_fields (code_at hv i hi)).2.2 h5 h6
  have : (subs v i).length = 0 := by rw [subs_length]; unfold M.arity; rw [hc]; rfl
  exact List.length_eq_zero_iff.1 this

theorem cat_early (f : Nat) (hv : M.valueFault v = 0) (hu : M.valueFault u = 0) (hi : i < v.length) (hj : j < u.length) (h : orCells (v.getD i M.zero) (u.getD j M.zero) ≠ 0) : cmpL (f + 1) (part v i) (part u j) = orCells (v.getD i M.zero) (u.getD j M.zero) := by
  rw [cmpL_part f hv hu hi hj]
  have cx := code_fields (code_at hv i hi)
  have cy := code_fields (code_at hu j hj)
  generalize v.getD i M.zero = x at *
  generalize u.getD j M.zero = y at *
  by_cases hk : x.kind = y.kind
  · rw [if_neg (fun g => g hk)]
    have ho := orCells_same hk
    by_cases k3 : x.kind = 3
    · rw [if_pos k3]
      have ht : cmpK x.text y.text = 0 := cmpK_nil (cx.2.1 (by omega)) (cy.2.1 (by omega))
      rw [ht] at ho
      by_cases hs : sgn x.num y.num = 0
      · rw [if_neg (fun g => g hs)] at ho; exact absurd ho h
      · rw [if_pos hs] at ho; exact ho.symm
    · have hn : sgn x.num y.num = 0 := by rw [cx.1 k3, cy.1 (by omega)]; rfl
      rw [hn, if_neg (fun g => g rfl)] at ho
      rw [if_neg k3]
      by_cases k4 : x.kind = 4
      · rw [if_pos k4, ho]
      · have ht : cmpK x.text y.text = 0 := cmpK_nil (cx.2.1 k4) (cy.2.1 (by omega))
        rw [ht] at ho
        exact absurd ho h
  · rw [if_pos hk]
    exact (orCells_kind hk).2.symm

theorem cat_rest (f : Nat) (hv : M.valueFault v = 0) (hu : M.valueFault u = 0) (hi : i < v.length) (hj : j < u.length) (h : orCells (v.getD i M.zero) (u.getD j M.zero) = 0) :
    cmpL (f + 1) (part v i) (part u j) = if (v.getD i M.zero).kind = 6 ∧ lex cmpK (keysAt v i) (keysAt u j) ≠ 0 then lex cmpK (keysAt v i) (keysAt u j) else lex (cmpL f) (subs v i) (subs u j) := by
  rw [cmpL_part f hv hu hi hj]
  have n1 := no_parts hv hi
  have n2 := no_parts hu hj
  generalize v.getD i M.zero = x at *
  generalize u.getD j M.zero = y at *
  by_cases hk : x.kind = y.kind
  · rw [if_neg (fun g => g hk)]
    have ho := orCells_same hk
    rw [h] at ho
    by_cases k6 : x.kind = 6
    · rw [if_neg (by omega), if_neg (by omega), if_neg (by omega), if_pos k6]
      by_cases hl : lex cmpK (keysAt v i) (keysAt u j) ≠ 0
      · rw [if_pos hl, if_pos ⟨k6, hl⟩]
      · rw [if_neg hl, if_neg (fun g => hl g.2)]
    · rw [if_neg k6]
      rw [if_neg (show ¬ (x.kind = 6 ∧ lex cmpK (keysAt v i) (keysAt u j) ≠ 0) from fun g => k6 g.1)]
      by_cases k5 : x.kind = 5
      · rw [if_neg (by omega), if_neg (by omega), if_pos k5]
      · rw [if_neg k5, n1 k5 k6, n2 (by omega) (by omega)]
        have hs : sgn x.num y.num = 0 := by
          by_cases hs : sgn x.num y.num = 0
          · exact hs
          · rw [if_pos hs] at ho; exact ho.symm
        rw [if_neg (fun g => g hs)] at ho
        by_cases k3 : x.kind = 3
        · rw [if_pos k3, hs]; rfl
        · rw [if_neg k3]
          by_cases k4 : x.kind = 4
          · rw [if_pos k4, ← ho]; rfl
          · rw [if_neg k4]; rfl
  · exact absurd h (orCells_kind hk).1
end

theorem ResI.form {w : World} {B : Nat} {s : Value} {l : List Int} (h : ResI w B s l) : ∃ a c, s = .slice a l.length c := by
  obtain ⟨_, ⟨rfl, rfl⟩ | ⟨b, cap, rfl, _⟩⟩ := h
  · exact ⟨_, _, rfl⟩
  · exact ⟨_, _, rfl⟩
theorem ResI.some {w : World} {B : Nat} {s : Value} {l : List Int} (h : ResI w B s l) (hl : 0 < l.length) : ∃ g c, s = .slice (some ⟨g, 0, none⟩) l.length c ∧ l.length ≤ c ∧ OwnI w g l := by
  obtain ⟨_, ⟨_, rfl⟩ | ⟨b, cap, h1, _, h3, h4⟩⟩ := h
  · simp at hl
  · exact ⟨b, cap, h1, h3, h4⟩

/-- impl.compareKeys, whatever the two lists are. -/
theorem compareKeys_any (v u : List M.Cl) (b off cap b' off' cap' i j : Nat) (s s' : Value) (B B' : Nat) (w : World) (hv : M.valueFault v = 0) (hu : M.valueFault u = 0) (hi : i < v.length) (hj : j < u.length) (hr : Row w b off v) (hb : b < w.heap.size) (hcap : v.length ≤ cap) (hr' : Row w b' off' u) (hb' : b' < w.heap.size) (hcap' : u.length ≤ cap')
    (h : ResI w B s (firstPl v i (M.arity v i))) (h' : ResI w B' s' (firstPl u j (M.arity u j))) :
    Calls Try.prog 67 #[.slice (some ⟨b, off, none⟩) v.length cap, s, .slice (some ⟨b', off', none⟩) u.length cap', s'] w fun e w' => e = .returned (.int .i64 (lex cmpK (keysAt v i) (keysAt u j))) ∧ Below w.heap.size w w' := by
  have p1 := M.places_in hv i hi
  have p2 := M.places_in hu j hj
  by_cases hz : M.arity v i = 0 ∨ M.arity u j = 0
  · obtain ⟨a, c, rfl⟩ := h.form
    obtain ⟨a', c', rfl⟩ := h'.form
    rw [firstPl_length, firstPl_length]
    have fin := lex_end cmpK ByteArray.empty (keysAt v i) (keysAt u j) 0 (fun l hl => absurd hl (by omega)) (by rw [keysAt_length, keysAt_length]; omega)
    rw [keysAt_length, keysAt_length] at fin
    rw [fin]
    exact compareKeys_none _ _ a a' c c' _ _ w hz p1.2.2.2 p2.2.2.2
  · obtain ⟨g, c, rfl, hc, ho⟩ := h.some (by rw [firstPl_length]; omega)
    obtain ⟨g', c', rfl, hc', ho'⟩ := h'.some (by rw [firstPl_length]; omega)
    rw [firstPl_length] at hc hc'
    rw [firstPl_length, firstPl_length]
    exact compareKeys_some v u b off cap b' off' cap' i j g g' c c' _ _ w hr hb hcap hr' hb' hcap' rfl rfl ho ho' hc hc' (by omega) (by omega) p1.2.2.2 p2.2.2.2 (M.fault_zero hv).2.1 (M.fault_zero hu).2.1 (fun k hk => by have := p1.1 k hk; have := p1.2.2.1; omega) (fun k hk => by have := p2.1 k hk; have := p2.2.2.1; omega)

end Go.Proofs.Ythkofafbnbjbbaf
