/-
  Plainly: names that are sorted and compacted are a rising list of the same names.
-/
import Derived.Test.YtokcefcjkjhnbaaVarM
import Derived.Lib.SlicesCompact
import Derived.Lib.OwnBridge
namespace Go.Proofs.Ytokcefcjkjhnbaa
open Go.RowKit
set_option linter.unusedVariables false
set_option linter.unusedSimpArgs false

namespace Tr
theorem bl_eq : ∀ (x y : List UInt8), Op.bytesLess x y = decide (x < y)
  | [], [] => by simp [Op.bytesLess]
  | _ :: _, [] => by simp [Op.bytesLess]
  | [], _ :: _ => by simp [Op.bytesLess]
  | a :: x, b :: y => by
    rw [Op.bytesLess, bl_eq x y]
    simp only [List.cons_lt_cons_iff]
    by_cases h1 : a < b <;> by_cases h2 : a = b <;> by_cases h3 : x < y <;> simp [h1, h2, h3]
theorem upTo_mem (d : Array (List UInt8)) (m : Nat) (x : List UInt8) : x ∈ Lib.compactUpTo d m ↔ ∃ j, j < m ∧ d[j]! = x := by
  induction m with
  | zero => simp [Lib.compactUpTo]
  | succ m ih =>
    rw [Lib.compactUpTo_succ, List.mem_append, ih]
    constructor
    · rintro (⟨j, hj, e⟩ | h)
      · exact ⟨j, by omega, e⟩
      · split at h
        · exact ⟨m, by omega, (List.mem_singleton.1 h).symm⟩
        · cases h
    · rintro ⟨j, hj, e⟩
      by_cases hjm : j = m
      · subst hjm
        cases hk : Lib.keeps d j with
        | true => right; simp [e]
        | false =>
          left
          unfold Lib.keeps at hk
          have hk' := of_decide_eq_false hk
          have h0 : 0 < j := by
            rcases Nat.eq_zero_or_pos j with h | h
            · exact absurd (Or.inl h) hk'
            · exact h
          have h1 : d[j]! = d[j - 1]! := Decidable.byContradiction fun h => hk' (Or.inr h)
          exact ⟨j - 1, by omega, by rw [← h1]; exact e⟩
      · exact .inl ⟨j, by omega, e⟩
theorem compact_mem (zs : List (List UInt8)) (x : List UInt8) : x ∈ Lib.compact zs ↔ x ∈ zs := by
  unfold Lib.compact
  rw [upTo_mem]
  constructor
  · rintro ⟨j, hj, e⟩
    subst e
    simp [getElem!_pos, hj]
  · intro h
    obtain ⟨j, hj, e⟩ := List.getElem_of_mem h
    exact ⟨j, hj, by simp [getElem!_pos, hj, e]⟩
theorem upTo_up (zs : List (List UInt8)) (h : zs.Pairwise (· ≤ ·)) (m : Nat) (hm : m ≤ zs.length) : (Lib.compactUpTo zs.toArray m).Pairwise (· < ·) ∧ ∀ y ∈ Lib.compactUpTo zs.toArray m, y ≤ zs.toArray[m - 1]! := by
  have hget : ∀ j, j < zs.length → zs.toArray[j]! = zs.getD j [] := fun j hj => by simp [getElem!_pos, hj, List.getD_eq_getElem?_getD]
  have hle : ∀ i j, i ≤ j → j < zs.length → zs.toArray[i]! ≤ zs.toArray[j]! := fun i j hij hj => by
    rcases Nat.lt_or_eq_of_le hij with h' | h'
    · have := List.pairwise_iff_getElem.1 h i j (by omega) hj h'
      simpa [getElem!_pos, hj, show i < zs.length by omega] using this
    · subst h'; exact List.le_refl _
  induction m with
  | zero => simp [Lib.compactUpTo]
  | succ m ih =>
    obtain ⟨ih1, ih2⟩ := ih (by omega)
    rw [Lib.compactUpTo_succ]
    have hup : ∀ y ∈ Lib.compactUpTo zs.toArray m, y ≤ zs.toArray[m + 1 - 1]! := fun y hy => List.le_trans (ih2 y hy) (hle _ _ (by omega) (by omega))
    cases hk : Lib.keeps zs.toArray m with
    | false =>
      rw [if_neg (by decide), List.append_nil]
      exact ⟨ih1, hup⟩
    | true =>
      simp only [if_true]
      refine ⟨List.pairwise_append.2 ⟨ih1, List.pairwise_singleton _ _, fun a ha b hb => ?_⟩, fun y hy => ?_⟩
      · rw [List.mem_singleton] at hb
        subst hb
        have h1 := ih2 a ha
        rcases Nat.eq_zero_or_pos m with h0 | h0
        · subst h0; simp [Lib.compactUpTo] at ha
        · unfold Lib.keeps at hk
          have hk' := of_decide_eq_true hk
          have hne : zs.toArray[m]! ≠ zs.toArray[m - 1]! := by
            rcases hk' with h | h
            · omega
            · exact h
          have h2 := hle (m - 1) m (by omega) (by omega)
          have h3 : zs.toArray[m - 1]! < zs.toArray[m]! := by
            rcases bl_tri zs.toArray[m - 1]! zs.toArray[m]! with h | h | h
            · rw [bl_eq] at h; exact of_decide_eq_true h
            · exact absurd h.symm hne
            · rw [bl_eq] at h; exact absurd (of_decide_eq_true h) (List.not_lt.2 h2)
          exact List.lt_of_le_of_lt h1 h3
      · rcases List.mem_append.1 hy with hy | hy
        · exact hup y hy
        · rw [List.mem_singleton] at hy; subst hy; exact List.le_refl _
def bytesOf (s : ByteArray) : List UInt8 := s.data.toList
def textOf (x : List UInt8) : ByteArray := ⟨x.toArray⟩
theorem textOf_bytes (s : ByteArray) : textOf (bytesOf s) = s := by
  obtain ⟨⟨x⟩⟩ := s
  rfl
/-- What a sort and a compaction of names leave. -/
def once (L : List ByteArray) : List (List UInt8) := Lib.compact ((L.map (·.data.toList)).mergeSort fun x y => decide (x ≤ y))
theorem once_mem (L : List ByteArray) (x : ByteArray) : x ∈ (once L).map textOf ↔ x ∈ L := by
  unfold once
  constructor
  · intro h
    obtain ⟨y, hy, rfl⟩ := List.mem_map.1 h
    rw [compact_mem] at hy
    have := (List.mergeSort_perm _ _).subset hy
    obtain ⟨z, hz, rfl⟩ := List.mem_map.1 this
    have e : textOf z.data.toList = z := textOf_bytes z
    rw [e]; exact hz
  · intro h
    refine List.mem_map.2 ⟨x.data.toList, ?_, textOf_bytes x⟩
    rw [compact_mem]
    exact (List.mergeSort_perm _ _).symm.subset (List.mem_map.2 ⟨x, h, rfl⟩)
theorem once_up (L : List ByteArray) : Rising ((once L).map textOf) := by
  unfold Rising once
  have tr : ∀ a b c : List UInt8, decide (a ≤ b) = true → decide (b ≤ c) = true → decide (a ≤ c) = true := fun a b c h1 h2 => by simp only [decide_eq_true_eq] at *; exact List.le_trans h1 h2
  have to : ∀ a b : List UInt8, (decide (a ≤ b) || decide (b ≤ a)) = true := fun a b => by simp only [Bool.or_eq_true, decide_eq_true_eq]; exact List.le_total a b
  have hs := List.pairwise_mergeSort tr to (L.map (·.data.toList))
  have hs2 : ((L.map (·.data.toList)).mergeSort fun x y => decide (x ≤ y)).Pairwise (· ≤ ·) := hs.imp fun h => of_decide_eq_true h
  have := (upTo_up _ hs2 _ (Nat.le_refl _)).1
  refine List.pairwise_map.2 (this.imp fun {a b} h => ?_)
  unfold less textOf
  rw [ByteArray.toList_eq, ByteArray.toList_eq, bl_eq]
  exact decide_eq_true h
theorem once_nil : once [] = [] := by simp [once, Lib.compact, Lib.compactUpTo]
theorem once_strings (L : List ByteArray) : (once L).map encStr = ((once L).map textOf).map Value.string := by
  rw [List.map_map]
  rfl
/-- The names of the first k nodes that bind one, as they stand. -/
def bnd (l : List Nd) : Nat → List ByteArray
  | 0 => []
  | k + 1 => if binder (l.getD k Nd.zero) = true then bnd l k ++ [(l.getD k Nd.zero).text] else bnd l k
theorem bnd_le (l : List Nd) (k : Nat) : (bnd l k).length ≤ k := by
  induction k with
  | zero => exact Nat.le_refl _
  | succ k ih =>
    rw [bnd]
    split
    · rw [List.length_append, List.length_cons, List.length_nil]; omega
    · omega
theorem bnd_mem (l : List Nd) (k : Nat) (x : ByteArray) : x ∈ bnd l k ↔ ∃ i, i < k ∧ binder (l.getD i Nd.zero) = true ∧ (l.getD i Nd.zero).text = x := by
  induction k with
  | zero => simp [bnd]
  | succ k ih =>
    have hstep : (∃ i, i < k + 1 ∧ binder (l.getD i Nd.zero) = true ∧ (l.getD i Nd.zero).text = x) ↔ x ∈ bnd l k ∨ (binder (l.getD k Nd.zero) = true ∧ (l.getD k Nd.zero).text = x) := by
      rw [ih]
      constructor
      · rintro ⟨i, hi, h1, h2⟩
        by_cases e : i = k
        · subst e; exact .inr ⟨h1, h2⟩
        · exact .inl ⟨i, by omega, h1, h2⟩
      · rintro (⟨i, hi, h1, h2⟩ | ⟨h1, h2⟩)
        · exact ⟨i, by omega, h1, h2⟩
        · exact ⟨k, by omega, h1, h2⟩
    rw [hstep, bnd]
    split
    · rename_i h
      rw [List.mem_append, List.mem_singleton]
      constructor
      · rintro (e | e)
        · exact .inl e
        · exact .inr ⟨h, e.symm⟩
      · rintro (e | ⟨_, e⟩)
        · exact .inl e
        · exact .inr e.symm
    · rename_i h
      constructor
      · intro e; exact .inl e
      · rintro (e | ⟨h1, _⟩)
        · exact e
        · exact absurd h1 h
theorem once_vars (l : List Nd) : (once (bnd l l.length)).map textOf = varsK l l.length :=
  vars_one (once_up _) fun x => by rw [once_mem, bnd_mem]
theorem once_length (l : List Nd) : (once (bnd l l.length)).length = (varsK l l.length).length := by rw [← once_vars, List.length_map]
end Tr
end Go.Proofs.Ytokcefcjkjhnbaa
