/-
  The names that a tree binds, plainly: put in one by one in their order; there is one such list alone.
-/
import Derived.Test.YtokcefcjkjhnbaaTreP
namespace Go.Proofs.Ytokcefcjkjhnbaa
open Go.RowKit
set_option linter.unusedVariables false
set_option linter.unusedSimpArgs false

namespace Tr
theorem bl_irr : ∀ x : List UInt8, Op.bytesLess x x = false
  | [] => by simp [Op.bytesLess]
  | a :: x => by simp [Op.bytesLess, bl_irr x]
theorem bl_trans : ∀ x y z : List UInt8, Op.bytesLess x y = true → Op.bytesLess y z = true → Op.bytesLess x z = true
  | [], [], z, h, _ => by simp [Op.bytesLess] at h
  | [], b :: y, [], _, h => by simp [Op.bytesLess] at h
  | [], b :: y, c :: z, _, _ => by simp [Op.bytesLess]
  | a :: x, [], z, h, _ => by simp [Op.bytesLess] at h
  | a :: x, b :: y, [], _, h => by simp [Op.bytesLess] at h
  | a :: x, b :: y, c :: z, h1, h2 => by
    simp only [Op.bytesLess, Bool.or_eq_true, Bool.and_eq_true, decide_eq_true_eq, beq_iff_eq] at h1 h2 ⊢
    rcases h1 with h1 | ⟨rfl, h1⟩
    · rcases h2 with h2 | ⟨rfl, h2⟩
      · exact .inl (UInt8.lt_trans h1 h2)
      · exact .inl h1
    · rcases h2 with h2 | ⟨rfl, h2⟩
      · exact .inl h2
      · exact .inr ⟨rfl, bl_trans x y z h1 h2⟩
theorem bl_tri : ∀ x y : List UInt8, Op.bytesLess x y = true ∨ x = y ∨ Op.bytesLess y x = true
  | [], [] => .inr (.inl rfl)
  | [], b :: y => .inl (by simp [Op.bytesLess])
  | a :: x, [] => .inr (.inr (by simp [Op.bytesLess]))
  | a :: x, b :: y => by
    simp only [Op.bytesLess, Bool.or_eq_true, Bool.and_eq_true, decide_eq_true_eq, beq_iff_eq]
    have hl : a.toNat < b.toNat ∨ a.toNat = b.toNat ∨ b.toNat < a.toNat := by omega
    rcases hl with h | h | h
    · exact .inl (.inl h)
    · have : a = b := UInt8.toNat_inj.1 h
      subst this
      rcases bl_tri x y with h | h | h
      · exact .inl (.inr ⟨rfl, h⟩)
      · exact .inr (.inl (by rw [h]))
      · exact .inr (.inr (.inr ⟨rfl, h⟩))
    · exact .inr (.inr (.inl h))
def less (a b : ByteArray) : Bool := Op.bytesLess a.toList b.toList
theorem less_irr (a : ByteArray) : less a a = false := bl_irr _
theorem less_trans {a b c : ByteArray} (h1 : less a b = true) (h2 : less b c = true) : less a c = true := bl_trans _ _ _ h1 h2
theorem bytes_ext {a b : ByteArray} (h : a.toList = b.toList) : a = b := by
  rw [ByteArray.toList_eq, ByteArray.toList_eq] at h
  obtain ⟨⟨x⟩⟩ := a
  obtain ⟨⟨y⟩⟩ := b
  simp only at h
  subst h
  rfl
theorem less_tri (a b : ByteArray) : less a b = true ∨ a = b ∨ less b a = true := by
  rcases bl_tri a.toList b.toList with h | h | h
  · exact .inl h
  · exact .inr (.inl (bytes_ext h))
  · exact .inr (.inr h)
theorem less_asymm {a b : ByteArray} (h : less a b = true) : less b a = false := by
  cases hb : less b a with
  | false => rfl
  | true => have := less_trans h hb; rw [less_irr] at this; exact absurd this (by decide)
/-- How many names at the front stand ahead of t. -/
def ahead (t : ByteArray) : List ByteArray → Nat
  | [] => 0
  | s :: r => if less s t = true then ahead t r + 1 else 0
theorem ahead_le (t : ByteArray) (L : List ByteArray) : ahead t L ≤ L.length := by
  induction L with
  | nil => exact Nat.le_refl _
  | cons s r ih => rw [ahead]; split <;> simp <;> omega
theorem ahead_lt (t : ByteArray) (L : List ByteArray) (j : Nat) (h : j < ahead t L) : less (L.getD j ByteArray.empty) t = true := by
  induction L generalizing j with
  | nil => simp [ahead] at h
  | cons s r ih =>
    rw [ahead] at h
    split at h
    · rename_i hs
      cases j with
      | zero => simpa using hs
      | succ j => simpa using ih j (by omega)
    · omega
/-- The first that does not stand ahead is where it stops. -/
theorem ahead_stop (t : ByteArray) (L : List ByteArray) (k : Nat) (hk : k ≤ L.length) (h : ∀ j, j < k → less (L.getD j ByteArray.empty) t = true) (hs : k = L.length ∨ less (L.getD k ByteArray.empty) t = false) : ahead t L = k := by
  induction L generalizing k with
  | nil => simp at hk; subst hk; rfl
  | cons s r ih =>
    rw [ahead]
    cases k with
    | zero =>
      rcases hs with hs | hs
      · simp at hs
      · rw [if_neg]; simp only [List.getD_cons_zero] at hs; rw [hs]; decide
    | succ k =>
      have h0 := h 0 (by omega)
      simp only [List.getD_cons_zero] at h0
      rw [if_pos h0, ih k (by simpa using hk) (fun j hj => by have := h (j + 1) (by omega); simpa only [List.getD_cons_succ] using this) (by rcases hs with hs | hs; exact .inl (by simpa using hs); exact .inr (by simpa only [List.getD_cons_succ] using hs))]
def insV (L : List ByteArray) (t : ByteArray) : List ByteArray := (L.take (ahead t L) ++ [t]) ++ L.drop (ahead t L)
theorem insV_cons (s : ByteArray) (r : List ByteArray) (t : ByteArray) : insV (s :: r) t = if less s t = true then s :: insV r t else t :: s :: r := by
  unfold insV
  rw [ahead]
  split <;> simp
theorem insV_mem (L : List ByteArray) (t x : ByteArray) : x ∈ insV L t ↔ x = t ∨ x ∈ L := by
  induction L with
  | nil => simp [insV, ahead]
  | cons s r ih =>
    rw [insV_cons]
    split
    · rw [List.mem_cons, ih, List.mem_cons]
      constructor
      · rintro (h | h | h)
        · exact .inr (.inl h)
        · exact .inl h
        · exact .inr (.inr h)
      · rintro (h | h | h)
        · exact .inr (.inl h)
        · exact .inl h
        · exact .inr (.inr h)
    · simp
theorem insV_length (L : List ByteArray) (t : ByteArray) : (insV L t).length = L.length + 1 := by
  have := ahead_le t L
  unfold insV
  simp only [List.length_append, List.length_take, List.length_drop, List.length_cons, List.length_nil]
  omega
/-- Each stands ahead of all that follow. -/
def Rising (L : List ByteArray) : Prop := L.Pairwise fun a b => less a b = true
theorem insV_up {L : List ByteArray} {t : ByteArray} (h : Rising L) (ht : oneOf L t = false) : Rising (insV L t) := by
  induction L with
  | nil => simp [insV, ahead, Rising]
  | cons s r ih =>
    unfold Rising at h
    rw [List.pairwise_cons] at h
    unfold oneOf at ht
    rw [List.any_cons, Bool.or_eq_false_iff] at ht
    rw [insV_cons]
    split
    · rename_i hs
      unfold Rising
      rw [List.pairwise_cons]
      refine ⟨fun x hx => ?_, ih h.2 ht.2⟩
      rcases (insV_mem r t x).1 hx with rfl | hx
      · exact hs
      · exact h.1 x hx
    · rename_i hs
      have hst : less t s = true := by
        rcases less_tri s t with h1 | h1 | h1
        · exact absurd h1 hs
        · subst h1; simp at ht
        · exact h1
      unfold Rising
      rw [List.pairwise_cons, List.pairwise_cons]
      refine ⟨fun x hx => ?_, h.1, h.2⟩
      rcases List.mem_cons.1 hx with rfl | hx
      · exact hst
      · exact less_trans hst (h.1 x hx)
/-- Rising lists of the same names are the same. -/
theorem rising_one {L M : List ByteArray} (hL : Rising L) (hM : Rising M) (h : ∀ x, x ∈ L ↔ x ∈ M) : L = M := by
  induction L generalizing M with
  | nil =>
    cases M with
    | nil => rfl
    | cons y s => exact absurd ((h y).2 List.mem_cons_self) (by simp)
  | cons x r ih =>
    cases M with
    | nil => exact absurd ((h x).1 List.mem_cons_self) (by simp)
    | cons y s =>
      unfold Rising at hL hM
      rw [List.pairwise_cons] at hL hM
      have exy : x = y := by
        rcases List.mem_cons.1 ((h x).1 List.mem_cons_self) with e | e
        · exact e
        · rcases List.mem_cons.1 ((h y).2 List.mem_cons_self) with e2 | e2
          · exact e2.symm
          · have h1 := hM.1 x e
            have h2 := hL.1 y e2
            rw [less_asymm h1] at h2
            exact absurd h2 (by decide)
      subst exy
      congr 1
      refine ih hL.2 hM.2 fun z => ?_
      constructor
      · intro hz
        rcases List.mem_cons.1 ((h z).1 (List.mem_cons_of_mem _ hz)) with e | e
        · subst e; have := hL.1 z hz; rw [less_irr] at this; exact absurd this (by decide)
        · exact e
      · intro hz
        rcases List.mem_cons.1 ((h z).2 (List.mem_cons_of_mem _ hz)) with e | e
        · subst e; have := hM.1 z hz; rw [less_irr] at this; exact absurd this (by decide)
        · exact e
theorem oneOf_mem (L : List ByteArray) (t : ByteArray) : oneOf L t = true ↔ t ∈ L := by
  unfold oneOf
  rw [List.any_eq_true]
  constructor
  · rintro ⟨x, hx, e⟩
    have : x = t := bytes_ext (by simpa using e)
    subst this; exact hx
  · intro h; exact ⟨t, h, by simp⟩
/-- Does a node bind a name? -/
def binder (n : Nd) : Bool := n.op == 19 || n.op == 20
def varsK (l : List Nd) : Nat → List ByteArray
  | 0 => []
  | k + 1 => if binder (l.getD k Nd.zero) = true ∧ oneOf (varsK l k) (l.getD k Nd.zero).text = false then insV (varsK l k) (l.getD k Nd.zero).text else varsK l k
theorem varsK_up (l : List Nd) (k : Nat) : Rising (varsK l k) := by
  induction k with
  | zero => exact List.Pairwise.nil
  | succ k ih =>
    rw [varsK]
    split
    · rename_i h; exact insV_up ih h.2
    · exact ih
theorem varsK_le (l : List Nd) (k : Nat) : (varsK l k).length ≤ k := by
  induction k with
  | zero => exact Nat.le_refl _
  | succ k ih =>
    rw [varsK]
    split
    · rw [insV_length]; omega
    · omega
theorem varsK_mem (l : List Nd) (k : Nat) (x : ByteArray) : x ∈ varsK l k ↔ ∃ i, i < k ∧ binder (l.getD i Nd.zero) = true ∧ (l.getD i Nd.zero).text = x := by
  induction k with
  | zero => simp [varsK]
  | succ k ih =>
    have hstep : (∃ i, i < k + 1 ∧ binder (l.getD i Nd.zero) = true ∧ (l.getD i Nd.zero).text = x) ↔ (binder (l.getD k Nd.zero) = true ∧ (l.getD k Nd.zero).text = x) ∨ x ∈ varsK l k := by
      rw [ih]
      constructor
      · rintro ⟨i, hi, h1, h2⟩
        by_cases e : i = k
        · subst e; exact .inl ⟨h1, h2⟩
        · exact .inr ⟨i, by omega, h1, h2⟩
      · rintro (⟨h1, h2⟩ | ⟨i, hi, h1, h2⟩)
        · exact ⟨k, by omega, h1, h2⟩
        · exact ⟨i, by omega, h1, h2⟩
    rw [hstep, varsK]
    split
    · rename_i h
      rw [insV_mem]
      constructor
      · rintro (e | e)
        · exact .inl ⟨h.1, e.symm⟩
        · exact .inr e
      · rintro (⟨_, e⟩ | e)
        · exact .inl e.symm
        · exact .inr e
    · rename_i h
      constructor
      · intro e; exact .inr e
      · rintro (⟨h1, e⟩ | e)
        · subst e
          cases ho : oneOf (varsK l k) (l.getD k Nd.zero).text with
          | true => exact (oneOf_mem _ _).1 ho
          | false => exact absurd ⟨h1, ho⟩ h
        · exact e
/-- A rising list of the names that are bound is the model's. -/
theorem vars_one {l : List Nd} {L : List ByteArray} (h : Rising L) (hm : ∀ x, x ∈ L ↔ ∃ i, i < l.length ∧ binder (l.getD i Nd.zero) = true ∧ (l.getD i Nd.zero).text = x) : L = varsK l l.length :=
  rising_one h (varsK_up l _) fun x => by rw [hm, varsK_mem]
def varsOut (l : List Nd) : Int × List ByteArray := if fault l ≠ 0 then (fault l, []) else (0, varsK l l.length)
end Tr
end Go.Proofs.Ytokcefcjkjhnbaa
