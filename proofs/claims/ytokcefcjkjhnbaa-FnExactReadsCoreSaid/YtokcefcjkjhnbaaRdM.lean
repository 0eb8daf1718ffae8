/-
  The names that a tree binds, plainly: put in one by one in their order; there is one such list alone.
  Plainly: names that are sorted and compacted are a rising list of the same names.
  The keys that a core reads, plainly: as the names that a tree binds.
-/
import Derived.Test.YtokcefcjkjhnbaaTreP
import Derived.Test.YtokcefcjkjhnbaaCorB
import Derived.Test.YtokcefcjkjhnbaaKids
import Derived.Lib.SlicesCompact
import Derived.Lib.OwnBridge
namespace Go.Proofs.Ytokcefcjkjhnbaa
open Go.RowKit
set_option linter.unusedVariables false
set_option linter.unusedSimpArgs false

namespace Tr
theorem bl_irr : ∀ x : List UInt8, Op.bytesLess x x = false
  | [] => by simp [Op.bytesLess]
  | a :: x => by simp [Op.bytesLess, bl_irr x]
theorem bl_trans : ∀ x y z : List UInt8, Op.bytesLess x y = true → Op.bytesLess y z = true → Op.bytesLess x z = true
  | [], [], z, h, _ => by simp [Op.bytesLess] at h
  | [], b :: y, [], _, h => by simp [Op.bytesLess] at h
  | [], b :: y, c :: z, _, _ => by simp [Op.bytesLess]
  | a :: x, [], z, h, _ => by simp [Op.bytesLess] at h
  | a :: x, b :: y, [], _, h => by simp [Op.bytesLess] at h
  | a :: x, b :: y, c :: z, h1, h2 => by
    simp only [Op.bytesLess, Bool.or_eq_true, Bool.and_eq_true, decide_eq_true_eq, beq_iff_eq] at h1 h2 ⊢
    rcases h1 with h1 | ⟨rfl, h1⟩
    · rcases h2 with h2 | ⟨rfl, h2⟩
      · exact .inl (UInt8.lt_trans h1 h2)
      · exact .inl h1
    · rcases h2 with h2 | ⟨rfl, h2⟩
      · exact .inl h2
      · exact .inr ⟨rfl, bl_trans x y z h1 h2⟩
theorem bl_tri : ∀ x y : List UInt8, Op.bytesLess x y = true ∨ x = y ∨ Op.bytesLess y x = true
  | [], [] => .inr (.inl rfl)
  | [], b :: y => .inl (by simp [Op.bytesLess])
  | a :: x, [] => .inr (.inr (by simp [Op.bytesLess]))
  | a :: x, b :: y => by
    simp only [Op.bytesLess, Bool.or_eq_true, Bool.and_eq_true, decide_eq_true_eq, beq_iff_eq]
    have hl : a.toNat < b.toNat ∨ a.toNat = b.toNat ∨ b.toNat < a.toNat := by omega
    rcases hl with h | h | h
    · exact .inl (.inl h)
    · have : a = b := UInt8.toNat_inj.1 h
      subst this
      rcases bl_tri x y with h | h | h
      · exact .inl (.inr ⟨rfl, h⟩)
      · exact .inr (.inl (by rw [h]))
      · exact .inr (.inr (.inr ⟨rfl, h⟩))
    · exact .inr (.inr (.inl h))
def less (a b : ByteArray) : Bool := Op.bytesLess a.toList b.toList
theorem less_irr (a : ByteArray) : less a a = false := bl_irr _
theorem less_trans {a b c : ByteArray} (h1 : less a b = true) (h2 : less b c = true) : less a c = true := bl_trans _ _ _ h1 h2
theorem bytes_ext {a b : ByteArray} (h : a.toList = b.toList) : a = b := by
  rw [ByteArray.toList_eq, ByteArray.toList_eq] at h
  obtain ⟨⟨x⟩⟩ := a
  obtain ⟨⟨y⟩⟩ := b
  simp only at h
  subst h
  rfl
theorem less_tri (a b : ByteArray) : less a b = true ∨ a = b ∨ less b a = true := by
  rcases bl_tri a.toList b.toList with h | h | h
  · exact .inl h
  · exact .inr (.inl (bytes_ext h))
  · exact .inr (.inr h)
theorem less_asymm {a b : ByteArray} (h : less a b = true) : less b a = false := by
  cases hb : less b a with
  | false => rfl
  | true => have := less_trans h hb; rw [less_irr] at this; exact absurd this (by decide)
/-- How many names at the front stand ahead of t. -/
def ahead (t : ByteArray) : List ByteArray → Nat
  | [] => 0
  | s :: r => if less s t = true then ahead t r + 1 else 0
theorem ahead_le (t : ByteArray) (L : List ByteArray) : ahead t L ≤ L.length := by
  induction L with
  | nil => exact Nat.le_refl _
  | cons s r ih => rw [ahead]; split <;> simp <;> omega
theorem ahead_lt (t : ByteArray) (L : List ByteArray) (j : Nat) (h : j < ahead t L) : less (L.getD j ByteArray.empty) t = true := by
  induction L generalizing j with
  | nil => simp [ahead] at h
  | cons s r ih =>
    rw [ahead] at h
    split at h
    · rename_i hs
      cases j with
      | zero => simpa using hs
      | succ j => simpa using ih j (by omega)
    · omega
/-- The first that does not stand ahead is where it stops. -/
theorem ahead_stop (t : ByteArray) (L : List ByteArray) (k : Nat) (hk : k ≤ L.length) (h : ∀ j, j < k → less (L.getD j ByteArray.empty) t = true) (hs : k = L.length ∨ less (L.getD k ByteArray.empty) t = false) : ahead t L = k := by
  induction L generalizing k with
  | nil => simp at hk; subst hk; rfl
  | cons s r ih =>
    rw [ahead]
    cases k with
    | zero =>
      rcases hs with hs | hs
      · simp at hs
      · rw [if_neg]; simp only [List.getD_cons_zero] at hs; rw [hs]; decide
    | succ k =>
      have h0 := h 0 (by omega)
      simp only [List.getD_cons_zero] at h0
      rw [if_pos h0, ih k (by simpa using hk) (fun j hj => by have := h (j + 1) (by omega); simpa only [List.getD_cons_succ] using this) (by rcases hs with hs | hs; exact .inl (by simpa using hs); exact .inr (by simpa only [List.getD_cons_succ] using hs))]
def insV (L : List ByteArray) (t : ByteArray) : List ByteArray := (L.take (ahead t L) ++ [t]) ++ L.drop (ahead t L)
theorem insV_cons (s : ByteArray) (r : List ByteArray) (t : ByteArray) : insV (s :: r) t = if less s t = true then s :: insV r t else t :: s :: r := by
  unfold insV
  rw [ahead]
  split <;> simp
theorem insV_mem (L : List ByteArray) (t x : ByteArray) : x ∈ insV L t ↔ x = t ∨ x ∈ L := by
  induction L with
  | nil => simp [insV, ahead]
  | cons s r ih =>
    rw [insV_cons]
    split
    · rw [List.mem_cons, ih, List.mem_cons]
      constructor
      · rintro (h | h | h)
        · exact .inr (.inl h)
        · exact .inl h
        · exact .inr (.inr h)
      · rintro (h | h | h)
        · exact .inr (.inl h)
        · exact .inl h
        · exact .inr (.inr h)
    · simp
theorem insV_length (L : List ByteArray) (t : ByteArray) : (insV L t).length = L.length + 1 := by
  have := ahead_le t L
  unfold insV
  simp only [List.length_append, List.length_take, List.length_drop, List.length_cons, List.length_nil]
  omega
/-- Each stands ahead of all that follow. -/
def Rising (L : List ByteArray) : Prop := L.Pairwise fun a b => less a b = true
theorem insV_up {L : List ByteArray} {t : ByteArray} (h : Rising L) (ht : oneOf L t = false) : Rising (insV L t) := by
  induction L with
  | nil => simp [insV, ahead, Rising]
  | cons s r ih =>
    unfold Rising at h
    rw [List.pairwise_cons] at h
    unfold oneOf at ht
    rw [List.any_cons, Bool.or_eq_false_iff] at ht
    rw [insV_cons]
    split
    · rename_i hs
      unfold Rising
      rw [List.pairwise_cons]
      refine ⟨fun x hx => ?_, ih h.2 ht.2⟩
      rcases (insV_mem r t x).1 hx with rfl | hx
      · exact hs
      · exact h.1 x hx
    · rename_i hs
      have hst : less t s = true := by
        rcases less_tri s t with h1 | h1 | h1
        · exact absurd h1 hs
        · subst h1; simp at ht
        · exact h1
      unfold Rising
      rw [List.pairwise_cons, List.pairwise_cons]
      refine ⟨fun x hx => ?_, h.1, h.2⟩
      rcases List.mem_cons.1 hx with rfl | hx
      · exact hst
      · exact less_trans hst (h.1 x hx)
/-- Rising lists of the same names are the same. -/
theorem rising_one {L M : List ByteArray} (hL : Rising L) (hM : Rising M) (h : ∀ x, x ∈ L ↔ x ∈ M) : L = M := by
  induction L generalizing M with
  | nil =>
    cases M with
    | nil => rfl
    | cons y s => exact absurd ((h y).2 List.mem_cons_self) (by simp)
  | cons x r ih =>
    cases M with
    | nil => exact absurd ((h x).1 List.mem_cons_self) (by simp)
    | cons y s =>
      unfold Rising at hL hM
      rw [List.pairwise_cons] at hL hM
      have exy : x = y := by
        rcases List.mem_cons.1 ((h x).1 List.mem_cons_self) with e | e
        · exact e
        · rcases List.mem_cons.1 ((h y).2 List.mem_cons_self) with e2 | e2
          · exact e2.symm
          · have h1 := hM.1 x e
            have h2 := hL.1 y e2
            rw [less_asymm h1] at h2
            exact absurd h2 (by decide)
      subst exy
      congr 1
      refine ih hL.2 hM.2 fun z => ?_
      constructor
      · intro hz
        rcases List.mem_cons.1 ((h z).1 (List.mem_cons_of_mem _ hz)) with e | e
        · subst e; have := hL.1 z hz; rw [less_irr] at this; exact absurd this (by decide)
        · exact e
      · intro hz
        rcases List.mem_cons.1 ((h z).2 (List.mem_cons_of_mem _ hz)) with e | e
        · subst e; have := hM.1 z hz; rw [less_irr] at this; exact absurd this (by decide)
        · exact e
theorem oneOf_mem (L : List ByteArray) (t : ByteArray) : oneOf L t = true ↔ t ∈ L := by
  unfold oneOf
  rw [List.any_eq_true]
  constructor
  · rintro ⟨x, hx, e⟩
    have : x = t := bytes_ext (by simpa using e)
    subst this; exact hx
  · intro h; exact ⟨t, h, by simp⟩
/-- Does a node bind a name? -/
def binder (n : Nd) : Bool := n.op == 19 || n.op == 20
def varsK (l : List Nd) : Nat → List ByteArray
  | 0 => []
  | k + 1 => if binder (l.getD k Nd.zero) = true ∧ oneOf (varsK l k) (l.getD k Nd.zero).text = false then insV (varsK l k) (l.getD k Nd.zero).text else varsK l k
theorem varsK_up (l : List Nd) (k : Nat) : Rising (varsK l k) := by
  induction k with
  | zero => exact List.Pairwise.nil
  | succ k ih =>
    rw [varsK]
    split
    · rename_i h; exact insV_up ih h.2
    · exact ih
theorem varsK_le (l : List Nd) (k : Nat) : (varsK l k).length ≤ k := by
  induction k with
  | zero => exact Nat.le_refl _
  | succ k ih =>
    rw [varsK]
    split
    · rw [insV_length]; omega
    · omega
theorem varsK_mem (l : List Nd) (k : Nat) (x : ByteArray) : x ∈ varsK l k ↔ ∃ i, i < k ∧ binder (l.getD i Nd.zero) = true ∧ (l.getD i Nd.zero).text = x := by
  induction k with
  | zero => simp [varsK]
  | succ k ih =>
    have hstep : (∃ i, i < k + 1 ∧ binder (l.getD i Nd.zero) = true ∧ (l.getD i Nd.zero).text = x) ↔ (binder (l.getD k Nd.zero) = true ∧ (l.getD k Nd.zero).text = x) ∨ x ∈ varsK l k := by
      rw [ih]
      constructor
      · rintro ⟨i, hi, h1, h2⟩
        by_cases e : i = k
        · subst e; exact .inl ⟨h1, h2⟩
        · exact .inr ⟨i, by omega, h1, h2⟩
      · rintro (⟨h1, h2⟩ | ⟨i, hi, h1, h2⟩)
        · exact ⟨k, by omega, h1, h2⟩
        · exact ⟨i, by omega, h1, h2⟩
    rw [hstep, varsK]
    split
    · rename_i h
      rw [insV_mem]
      constructor
      · rintro (e | e)
        · exact .inl ⟨h.1, e.symm⟩
        · exact .inr e
      · rintro (⟨_, e⟩ | e)
        · exact .inl e.symm
        · exact .inr e
    · rename_i h
      constructor
      · intro e; exact .inr e
      · rintro (⟨h1, e⟩ | e)
        · subst e
          cases ho : oneOf (varsK l k) (l.getD k Nd.zero).text with
          | true => exact (oneOf_mem _ _).1 ho
          | false => exact absurd ⟨h1, ho⟩ h
        · exact e
/-- A rising list of the names that are bound is the model's. -/
theorem vars_one {l : List Nd} {L : List ByteArray} (h : Rising L) (hm : ∀ x, x ∈ L ↔ ∃ i, i < l.length ∧ binder (l.getD i Nd.zero) = true ∧ (l.getD i Nd.zero).text = x) : L = varsK l l.length :=
  rising_one h (varsK_up l _) fun x => by rw [hm, varsK_mem]
def varsOut (l : List Nd) : Int × List ByteArray := if fault l ≠ 0 then (fault l, []) else (0, varsK l l.length)
end Tr
end Go.Proofs.Ytokcefcjkjhnbaa

namespace Go.Proofs.Ytokcefcjkjhnbaa
open Go.RowKit
set_option linter.unusedVariables false
set_option linter.unusedSimpArgs false

namespace Tr
theorem bl_eq : ∀ (x y : List UInt8), Op.bytesLess x y = decide (x < y)
  | [], [] => by simp [Op.bytesLess]
  | _ :: _, [] => by simp [Op.bytesLess]
  | [], _ :: _ => by simp [Op.bytesLess]
  | a :: x, b :: y => by
    rw [Op.bytesLess, bl_eq x y]
    simp only [List.cons_lt_cons_iff]
    by_cases h1 : a < b <;> by_cases h2 : a = b <;> by_cases h3 : x < y <;> simp [h1, h2, h3]
theorem upTo_mem (d : Array (List UInt8)) (m : Nat) (x : List UInt8) : x ∈ Lib.compactUpTo d m ↔ ∃ j, j < m ∧ d[j]! = x := by
  induction m with
  | zero => simp [Lib.compactUpTo]
  | succ m ih =>
    rw [Lib.compactUpTo_succ, List.mem_append, ih]
    constructor
    · rintro (⟨j, hj, e⟩ | h)
      · exact ⟨j, by omega, e⟩
      · split at h
        · exact ⟨m, by omega, (List.mem_singleton.1 h).symm⟩
        · cases h
    · rintro ⟨j, hj, e⟩
      by_cases hjm : j = m
      · subst hjm
        cases hk : Lib.keeps d j with
        | true => right; simp [e]
        | false =>
          left
          unfold Lib.keeps at hk
          have hk' := of_decide_eq_false hk
          have h0 : 0 < j := by
            rcases Nat.eq_zero_or_pos j with h | h
            · exact absurd (Or.inl h) hk'
            · exact h
          have h1 : d[j]! = d[j - 1]! := Decidable.byContradiction fun h => hk' (Or.inr h)
          exact ⟨j - 1, by omega, by rw [← h1]; exact e⟩
      · exact .inl ⟨j, by omega, e⟩
theorem compact_mem (zs : List (List UInt8)) (x : List UInt8) : x ∈ Lib.compact zs ↔ x ∈ zs := by
  unfold Lib.compact
  rw [upTo_mem]
  constructor
  · rintro ⟨j, hj, e⟩
    subst e
    simp [getElem!_pos, hj]
  · intro h
    obtain ⟨j, hj, e⟩ := List.getElem_of_mem h
    exact ⟨j, hj, by simp [getElem!_pos, hj, e]⟩
theorem upTo_up (zs : List (List UInt8)) (h : zs.Pairwise (· ≤ ·)) (m : Nat) (hm : m ≤ zs.length) : (Lib.compactUpTo zs.toArray m).Pairwise (· < ·) ∧ ∀ y ∈ Lib.compactUpTo zs.toArray m, y ≤ zs.toArray[m - 1]! := by
  have hget : ∀ j, j < zs.length → zs.toArray[j]! = zs.getD j [] := fun j hj => by simp [getElem!_pos, hj, List.getD_eq_getElem?_getD]
  have hle : ∀ i j, i ≤ j → j < zs.length → zs.toArray[i]! ≤ zs.toArray[j]! := fun i j hij hj => by
    rcases Nat.lt_or_eq_of_le hij with h' | h'
    · have := List.pairwise_iff_getElem.1 h i j (by omega) hj h'
      simpa [getElem!_pos, hj, show i < zs.length by omega] using this
    · subst h'; exact List.le_refl _
  induction m with
  | zero => simp [Lib.compactUpTo]
  | succ m ih =>
    obtain ⟨ih1, ih2⟩ := ih (by omega)
    rw [Lib.compactUpTo_succ]
    have hup : ∀ y ∈ Lib.compactUpTo zs.toArray m, y ≤ zs.toArray[m + 1 - 1]! := fun y hy => List.le_trans (ih2 y hy) (hle _ _ (by omega) (by omega))
    cases hk : Lib.keeps zs.toArray m with
    | false =>
      rw [if_neg (by decide), List.append_nil]
      exact ⟨ih1, hup⟩
    | true =>
      simp only [if_true]
      refine ⟨List.pairwise_append.2 ⟨ih1, List.pairwise_singleton _ _, fun a ha b hb => ?_⟩, fun y hy => ?_⟩
      · rw [List.mem_singleton] at hb
        subst hb
        have h1 := ih2 a ha
        rcases Nat.eq_zero_or_pos m with h0 | h0
        · subst h0; simp [Lib.compactUpTo] at ha
        · unfold Lib.keeps at hk
          have hk' := of_decide_eq_true hk
          have hne : zs.toArray[m]! ≠ zs.toArray[m - 1]! := by
            rcases hk' with h | h
            · omega
            · exact h
          have h2 := hle (m - 1) m (by omega) (by omega)
          have h3 : zs.toArray[m - 1]! < zs.toArray[m]! := by
            rcases bl_tri zs.toArray[m - 1]! zs.toArray[m]! with h | h | h
            · rw [bl_eq] at h; exact of_decide_eq_true h
            · exact absurd h.symm hne
            · rw [bl_eq] at h; exact absurd (of_decide_eq_true h) (List.not_lt.2 h2)
          exact List.lt_of_le_of_lt h1 h3
      · rcases List.mem_append.1 hy with hy | hy
        · exact hup y hy
        · rw [List.mem_singleton] at hy; subst hy; exact List.le_refl _
def bytesOf (s : ByteArray) : List UInt8 := s.data.toList
def textOf (x : List UInt8) : ByteArray := ⟨x.toArray⟩
theorem textOf_bytes (s : ByteArray) : textOf (bytesOf s) = s := by
  obtain ⟨⟨x⟩⟩ := s
  rfl
/-- What a sort and a compaction of names leave. -/
def once (L : List ByteArray) : List (List UInt8) := Lib.compact ((L.map (·.data.toList)).mergeSort fun x y => decide (x ≤ y))
theorem once_mem (L : List ByteArray) (x : ByteArray) : x ∈ (once L).map textOf ↔ x ∈ L := by
  unfold once
  constructor
  · intro h
    obtain ⟨y, hy, rfl⟩ := List.mem_map.1 h
    rw [compact_mem] at hy
    have := (List.mergeSort_perm _ _).subset hy
    obtain ⟨z, hz, rfl⟩ := List.mem_map.1 this
    have e : textOf z.data.toList = z := textOf_bytes z
    rw [e]; exact hz
  · intro h
    refine List.mem_map.2 ⟨x.data.toList, ?_, textOf_bytes x⟩
    rw [compact_mem]
    exact (List.mergeSort_perm _ _).symm.subset (List.mem_map.2 ⟨x, h, rfl⟩)
theorem once_up (L : List ByteArray) : Rising ((once L).map textOf) := by
  unfold Rising once
  have tr : ∀ a b c : List UInt8, decide (a ≤ b) = true → decide (b ≤ c) = true → decide (a ≤ c) = true := fun a b c h1 h2 => by simp only [decide_eq_true_eq] at *; exact List.le_trans h1 h2
  have to : ∀ a b : List UInt8, (decide (a ≤ b) || decide (b ≤ a)) = true := fun a b => by simp only [Bool.or_eq_true, decide_eq_true_eq]; exact List.le_total a b
  have hs := List.pairwise_mergeSort tr to (L.map (·.data.toList))
  have hs2 : ((L.map (·.data.toList)).mergeSort fun x y => decide (x ≤ y)).Pairwise (· ≤ ·) := hs.imp fun h => of_decide_eq_true h
  have := (upTo_up _ hs2 _ (Nat.le_refl _)).1
  refine List.pairwise_map.2 (this.imp fun {a b} h => ?_)
  unfold less textOf
  rw [ByteArray.toList_eq, ByteArray.toList_eq, bl_eq]
  exact decide_eq_true h
theorem once_nil : once [] = [] := by simp [once, Lib.compact, Lib.compactUpTo]
theorem once_strings (L : List ByteArray) : (once L).map encStr = ((once L).map textOf).map Value.string := by
  rw [List.map_map]
  rfl
/-- The names of the first k nodes that bind one, as they stand. -/
def bnd (l : List Nd) : Nat → List ByteArray
  | 0 => []
  | k + 1 => if binder (l.getD k Nd.zero) = true then bnd l k ++ [(l.getD k Nd.zero).text] else bnd l k
theorem bnd_le (l : List Nd) (k : Nat) : (bnd l k).length ≤ k := by
  induction k with
  | zero => exact Nat.le_refl _
  | succ k ih =>
    rw [bnd]
    split
    · rw [List.length_append, List.length_cons, List.length_nil]; omega
    · omega
theorem bnd_mem (l : List Nd) (k : Nat) (x : ByteArray) : x ∈ bnd l k ↔ ∃ i, i < k ∧ binder (l.getD i Nd.zero) = true ∧ (l.getD i Nd.zero).text = x := by
  induction k with
  | zero => simp [bnd]
  | succ k ih =>
    have hstep : (∃ i, i < k + 1 ∧ binder (l.getD i Nd.zero) = true ∧ (l.getD i Nd.zero).text = x) ↔ x ∈ bnd l k ∨ (binder (l.getD k Nd.zero) = true ∧ (l.getD k Nd.zero).text = x) := by
      rw [ih]
      constructor
      · rintro ⟨i, hi, h1, h2⟩
        by_cases e : i = k
        · subst e; exact .inr ⟨h1, h2⟩
        · exact .inl ⟨i, by omega, h1, h2⟩
      · rintro (⟨i, hi, h1, h2⟩ | ⟨h1, h2⟩)
        · exact ⟨i, by omega, h1, h2⟩
        · exact ⟨k, by omega, h1, h2⟩
    rw [hstep, bnd]
    split
    · rename_i h
      rw [List.mem_append, List.mem_singleton]
      constructor
      · rintro (e | e)
        · exact .inl e
        · exact .inr ⟨h, e.symm⟩
      · rintro (e | ⟨_, e⟩)
        · exact .inl e
        · exact .inr e.symm
    · rename_i h
      constructor
      · intro e; exact .inl e
      · rintro (e | ⟨h1, _⟩)
        · exact e
        · exact absurd h1 h
theorem once_vars (l : List Nd) : (once (bnd l l.length)).map textOf = varsK l l.length :=
  vars_one (once_up _) fun x => by rw [once_mem, bnd_mem]
theorem once_length (l : List Nd) : (once (bnd l l.length)).length = (varsK l l.length).length := by rw [← once_vars, List.length_map]
end Tr
end Go.Proofs.Ytokcefcjkjhnbaa

namespace Go.Proofs.Ytokcefcjkjhnbaa
open Go.RowKit
set_option linter.unusedVariables false
set_option linter.unusedSimpArgs false

namespace Co
/-- What a node names second. -/
def snd2 (l : List Co) (i : Nat) : Co := l.getD (l.getD i zero).b.toNat zero
/-- Is a node a string? -/
def isText (n : Co) : Bool := n.op == 2 && (n.val.getD 0 M.zero).kind == 4
def rdr (l : List Co) (i : Nat) : Bool := (l.getD i zero).op == 7 && isText (snd2 l i)
def rdT (l : List Co) (i : Nat) : ByteArray := ((snd2 l i).val.getD 0 M.zero).text
/-- A tree whose nodes bind what the core's read. -/
def rt (l : List Co) : List Nd := (List.range l.length).map fun i => ⟨if rdr l i = true then 20 else 1, 0, 0, 0, 0, rdT l i⟩
theorem rt_len (l : List Co) : (rt l).length = l.length := by simp [rt]
theorem rt_getD (l : List Co) (i : Nat) (hi : i < l.length) : (rt l).getD i Nd.zero = ⟨if rdr l i = true then 20 else 1, 0, 0, 0, 0, rdT l i⟩ := by
  unfold rt
  rw [List.getD_eq_getElem?_getD, List.getElem?_map, List.getElem?_range hi]
  rfl
theorem rt_binder (l : List Co) (i : Nat) (hi : i < l.length) : Tr.binder ((rt l).getD i Nd.zero) = rdr l i := by
  rw [rt_getD l i hi]
  unfold Tr.binder
  cases rdr l i <;> rfl
theorem rt_text (l : List Co) (i : Nat) (hi : i < l.length) : ((rt l).getD i Nd.zero).text = rdT l i := by rw [rt_getD l i hi]
def readsOut (l : List Co) : Int × List ByteArray := if fault l ≠ 0 then (fault l, []) else (0, Tr.varsK (rt l) l.length)
theorem rd_bnd (l : List Co) (k : Nat) (hk : k < l.length) : Tr.bnd (rt l) (k + 1) = if rdr l k = true then Tr.bnd (rt l) k ++ [rdT l k] else Tr.bnd (rt l) k := by
  rw [Tr.bnd, rt_binder l k hk, rt_text l k hk]
theorem rd_vars (l : List Co) (k : Nat) (hk : k < l.length) : Tr.varsK (rt l) (k + 1) = if rdr l k = true ∧ oneOf (Tr.varsK (rt l) k) (rdT l k) = false then Tr.insV (Tr.varsK (rt l) k) (rdT l k) else Tr.varsK (rt l) k := by
  rw [Tr.varsK, rt_binder l k hk, rt_text l k hk]
theorem rd_once (l : List Co) : (Tr.once (Tr.bnd (rt l) l.length)).map Tr.textOf = Tr.varsK (rt l) l.length := by
  have := Tr.once_vars (rt l)
  rw [rt_len] at this
  exact this
/-- What an index names second stands ahead of it. -/
theorem snd_lt {l : List Co} (h : nf l l.length = 0) {i : Nat} (hi : i < l.length) (ho : (l.getD i zero).op = 7) : ∃ j : Nat, (l.getD i zero).b = (j : Int) ∧ j < i := by
  have hF := fine_of h i (by rw [tree_length]; exact hi)
  rw [tree_links l hi, ho] at hF
  have := hF (l.getD i zero).b (by show _ ∈ List.take 2 _; simp)
  exact ⟨(l.getD i zero).b.toNat, by omega, by omega⟩
theorem text_len {l : List Co} (h : nf l l.length = 0) {i : Nat} (hi : i < l.length) (ho : (l.getD i zero).op = 2) : 0 < (l.getD i zero).val.length := by
  have hv := (node_parts (nf_all h i hi)).2.2.1
  have h2 : hasVal (l.getD i zero).op = true := by rw [ho]; rfl
  unfold valF at hv
  rw [if_pos h2] at hv
  split at hv
  · rename_i h3; exact absurd hv h3
  · rename_i h3
    exact (M.fault_zero (by simpa using h3)).1
end Co
end Go.Proofs.Ytokcefcjkjhnbaa
