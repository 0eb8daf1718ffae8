/-
  How many cells the members of an object have, where they stand at places that are apart. No word of the program is used here.
  Reading a value, plainly: by fuel and depth; where it ends, and that it has no more cells than it took bytes. No word of the program is used here.
-/
import Derived.Test.YtikeffckhklhbaaGreatDoorX02
import Derived.Test.YtikeffckhklhbaaGreatDoorX03
import Derived.Test.YtikeffckhklhbaaGreatDoorX04
import Derived.Test.YtikeffckhklhbaaGreatDoorX16
namespace Go.Proofs.YtikeffckhklhbaaGreatDoor
open Go.RowKit
set_option linter.unusedVariables false
namespace J
/-- Of places that are apart the lengths are no more than all of them. -/
theorem sum_le_tot (ps : List (List M.Cl)) (n : Nat) : ∀ L : List Nat, L.Nodup → (∀ x ∈ L, x < n) → n ≤ ps.length → ((L.map fun p => (ps.getD p []).length).sum) ≤ tot ps n := by
  induction n with
  | zero =>
    intro L _ h _
    cases L with
    | nil => exact Nat.zero_le _
    | cons a r => exact absurd (h a (by simp)) (by omega)
  | succ n ih =>
    intro L hnd hlt hn
    rw [tot_succ ps n (by omega)]
    by_cases hm : n ∈ L
    · have h1 := ih (L.erase n) (hnd.erase n) (fun x hx => by
        have h2 := hlt x (List.mem_of_mem_erase hx)
        have h3 : x ≠ n := fun e => by subst e; exact (List.Nodup.not_mem_erase hnd) hx
        omega) (by omega)
      have h2 : ((L.map fun p => (ps.getD p []).length).sum) = (ps.getD n []).length + (((L.erase n).map fun p => (ps.getD p []).length).sum) := by
        have hp := List.perm_cons_erase hm
        have := (hp.map fun p => (ps.getD p []).length).sum_nat
        rw [this, List.map_cons, List.sum_cons]
      omega
    · have h1 := ih L hnd (fun x hx => by
        have h2 := hlt x hx
        have h3 : x ≠ n := fun e => by subst e; exact hm hx
        omega) (by omega)
      omega
theorem tot_all (ps : List (List M.Cl)) : tot ps ps.length = (ps.map List.length).sum := by unfold tot; rw [List.take_length]
theorem tot_snoc (ps : List (List M.Cl)) (v : List M.Cl) : tot (ps ++ [v]) (ps ++ [v]).length = tot ps ps.length + v.length := by rw [tot_all, tot_all]; simp
theorem stand_nodup (ks : List ByteArray) (k : Nat) : (St.stand ks k).Nodup := (St.stand_pw ks k).imp fun {a b} h e => by subst e; exact St.R.ne h rfl
end J
theorem tot_part (ps : List (List M.Cl)) (k : Nat) (hk : k < ps.length) : tot ps k + (ps.getD k []).length ≤ tot ps ps.length := by
  rw [← tot_succ ps k hk]; exact tot_le ps ps.length (k + 1) hk (Nat.le_refl _)
theorem objK_le (ks : List ByteArray) (ps : List (List M.Cl)) (L : List Nat) (hnd : L.Nodup) (hlt : ∀ x ∈ L, x < ps.length) (k : Nat) : (objK ks ps L k).length ≤ 1 + tot ps ps.length := by
  have h1 : (objK ks ps L k).length = 1 + (memK ks ps L k).length := by unfold objK; simp; omega
  have h2 : (memK ks ps L k).length = (((L.take k).map fun p => (ps.getD p []).length).sum) := by
    unfold memK
    rw [List.length_flatten, List.map_map]
    congr 1
    apply List.map_congr_left
    intro p _
    exact setKey_length _ _
  have h3 := J.sum_le_tot ps ps.length (L.take k) (hnd.sublist (List.take_sublist k L)) (fun x hx => hlt x (List.mem_of_mem_take hx)) (Nat.le_refl _)
  omega

end Go.Proofs.YtikeffckhklhbaaGreatDoor

namespace Go.Proofs.YtikeffckhklhbaaGreatDoor
open Go.RowKit
set_option linter.unusedVariables false
set_option linter.unusedSimpArgs false

namespace J
/-- A code and its place, or what was read and where it ends. -/
abbrev Rv := (Int × Nat) ⊕ (List M.Cl × Nat)
def kindCl (k : Int) : M.Cl := ⟨k, 0, ByteArray.empty, ByteArray.empty, 0⟩
/-- A number behind which no part of a fraction stands. -/
def numR (s : ByteArray) (k : Nat) : (Int × Nat) ⊕ (Int × Nat) :=
  match wholeR s k with
  | .inl e => .inl e
  | .inr (v, m) => if peek s m = 46 ∨ peek s m = 101 ∨ peek s m = 69 then .inl (3, m) else .inr (v, m)
def wordV (s : ByteArray) (k : Nat) (ws : List UInt8) (kind : Int) : Rv := match wordR s k ws with | .inl m => .inl (5, m) | .inr m => .inr ([kindCl kind], m)
def strV (s : ByteArray) (k : Nat) : Rv := match quotR s k with | .inl p => .inl p | .inr (l, e) => .inr ([⟨4, 0, ⟨l.toArray⟩, ByteArray.empty, 0⟩], e)
def numV (s : ByteArray) (k : Nat) : Rv := match numR s k with | .inl p => .inl p | .inr (v, m) => .inr ([⟨3, v, ByteArray.empty, ByteArray.empty, 0⟩], m)
/-- A key and its colon. -/
def keyR (s : ByteArray) (k : Nat) : (Int × Nat) ⊕ (ByteArray × Nat) :=
  match quotR s k with
  | .inl p => .inl p
  | .inr (l, e) => if peek s (skip s e) = 58 then .inr (⟨l.toArray⟩, skip s e + 1) else .inl (5, skip s e)
def lastB (obj : Bool) : Int := if obj then 125 else 93
def madeV (obj : Bool) (ks : List ByteArray) (ps : List (List M.Cl)) : List M.Cl := if obj then objV ks ps else arrV ps
/-- What stands ahead of an element's value: a member's key; where the value begins. -/
def headR (s : ByteArray) (obj : Bool) (i : Nat) : (Int × Nat) ⊕ (List ByteArray × Nat) := if obj then (match keyR s i with | .inl p => .inl p | .inr (key, j) => .inr ([key], skip s j)) else .inr ([], i)
/-- The elements from one on that begins at i. -/
def elemsR (rec : Nat → Rv) (s : ByteArray) (obj : Bool) : Nat → Nat → List ByteArray → List (List M.Cl) → Rv
  | 0, i, _, _ => .inl (5, i)
  | g + 1, i, ks, ps =>
    match headR s obj i with
    | .inl p => .inl p
    | .inr (key, j) =>
      match rec j with
      | .inl p => .inl p
      | .inr (v, e) =>
        if peek s (skip s e) = lastB obj then .inr (madeV obj (ks ++ key) (ps ++ [v]), skip s e + 1)
        else if peek s (skip s e) = 44 then elemsR rec s obj g (skip s (skip s e + 1)) (ks ++ key) (ps ++ [v])
        else .inl (5, skip s e)
def manyR (rec : Nat → Rv) (s : ByteArray) (obj : Bool) (i : Nat) : Rv := if peek s i = lastB obj then .inr (madeV obj [] [], i + 1) else elemsR rec s obj (s.size + 1) i [] []
/-- A value at a place; d: in how many others it is. -/
def oneR : Nat → Nat → ByteArray → Nat → Rv
  | 0, _, _, k => .inl (7, k)
  | f + 1, d, s, k =>
    if s.size ≤ k then .inl (5, s.size)
    else if 20 ≤ d then .inl (7, k)
    else if peek s k = 110 then wordV s k [110, 117, 108, 108] 0
    else if peek s k = 102 then wordV s k [102, 97, 108, 115, 101] 1
    else if peek s k = 116 then wordV s k [116, 114, 117, 101] 2
    else if peek s k = 91 then manyR (oneR f (d + 1) s) s false (skip s (k + 1))
    else if peek s k = 123 then manyR (oneR f (d + 1) s) s true (skip s (k + 1))
    else if peek s k = 34 then strV s k
    else numV s k
/-- What DecodeValue answers: code, place, cells. -/
def decOut (s : ByteArray) : Int × Int × List M.Cl :=
  if 4000 < s.size then (2, 0, [])
  else match oneR 21 0 s (skip s 0) with
    | .inl (c, p) => (c, p, [])
    | .inr (v, e) => if skip s e < s.size then (5, skip s e, []) else if 200 < v.length then (2, 0, []) else (0, 0, v)
/-- What was read lies behind its beginning and within the text; no more cells than bytes. -/
def Fit (s : ByteArray) (k : Nat) (r : Rv) : Prop := match r with | .inl (c, m) => c ≠ 0 ∧ m ≤ s.size | .inr (v, e) => k < e ∧ e ≤ s.size ∧ 0 < v.length ∧ v.length ≤ e - k
theorem wordR_fit (s : ByteArray) (ws : List UInt8) (hz : ∀ c ∈ ws, 0 < (c.toNat : Int)) : ∀ k, k ≤ s.size → match wordR s k ws with | .inl m => m ≤ s.size | .inr m => m = k + ws.length ∧ m ≤ s.size := by
  induction ws with
  | nil => intro k hk; exact ⟨rfl, hk⟩
  | cons c r ih =>
    intro k hk
    by_cases h : peek s k = (c.toNat : Int)
    · rw [wordR_yes h]
      have hlt := peek_lt s k (c.toNat : Int) (hz c (by simp)) h
      have h1 := ih (fun x hx => hz x (by simp [hx])) (k + 1) (by omega)
      cases hw : wordR s (k + 1) r with
      | inl m => rw [hw] at h1; exact h1
      | inr m => rw [hw] at h1; exact ⟨by rw [h1.1]; simp; omega, h1.2⟩
    · rw [wordR_not h]; exact hk
theorem wordV_fit (s : ByteArray) (k : Nat) (hk : k ≤ s.size) (c : UInt8) (r : List UInt8) (kind : Int) (hz : ∀ x ∈ c :: r, 0 < (x.toNat : Int)) : Fit s k (wordV s k (c :: r) kind) := by
  have h := wordR_fit s (c :: r) hz k hk
  unfold wordV
  cases hw : wordR s k (c :: r) with
  | inl m => rw [hw] at h; exact ⟨by decide, h⟩
  | inr m =>
    rw [hw] at h
    obtain ⟨h1, h2⟩ := h
    rw [List.length_cons] at h1
    exact ⟨by omega, h2, by simp, by simp; omega⟩
theorem qF_fit (s : ByteArray) (f : Nat) : ∀ i acc, i ≤ s.size → match qF s f i acc with | .inl (c, m) => c ≠ 0 ∧ m ≤ s.size | .inr (l, e) => i < e ∧ e ≤ s.size := by
  induction f with
  | zero => intro i acc hi; exact ⟨by decide, hi⟩
  | succ f ih =>
    intro i acc hi
    rw [qF]
    by_cases h : peek s i = 34
    · rw [if_pos h]
      have := peek_lt s i 34 (by decide) h
      exact ⟨by omega, by omega⟩
    · rw [if_neg h]
      cases hs : sbR s i with
      | inl p =>
        obtain ⟨c, e⟩ := p
        have h1 := sbR_no hi hs
        exact ⟨by rw [h1.1]; decide, h1.2.2⟩
      | inr p =>
        obtain ⟨c, e⟩ := p
        have h1 := sbR_ok hi hs
        have h2 := ih e (acc ++ [UInt8.ofNat c.toNat]) h1.2.2.2
        simp only
        cases hq : qF s f e (acc ++ [UInt8.ofNat c.toNat]) with
        | inl p => rw [hq] at h2; exact h2
        | inr p => rw [hq] at h2; exact ⟨by have := h2.1; have := h1.2.2.1; omega, h2.2⟩
theorem quotR_fit (s : ByteArray) (k : Nat) (hk : k ≤ s.size) : match quotR s k with | .inl (c, m) => c ≠ 0 ∧ m ≤ s.size | .inr (l, e) => k + 1 < e ∧ e ≤ s.size ∧ l.length ≤ 60 := by
  by_cases hp : peek s k = 34
  · have hlt := peek_lt s k 34 (by decide) hp
    have h := qF_fit s (s.size + 1) (k + 1) [] (by omega)
    cases hq : qF s (s.size + 1) (k + 1) [] with
    | inl p => rw [quotR_bad hp hq]; rw [hq] at h; exact h
    | inr p =>
      obtain ⟨l, e⟩ := p
      rw [hq] at h
      by_cases hb : 60 < l.length
      · rw [quotR_big hp hq hb]; exact ⟨by decide, hk⟩
      · rw [quotR_ok hp hq hb]; exact ⟨h.1, h.2, by omega⟩
  · rw [quotR_no hp]; exact ⟨by decide, hk⟩
theorem strV_fit (s : ByteArray) (k : Nat) (hk : k ≤ s.size) : Fit s k (strV s k) := by
  have h := quotR_fit s k hk
  unfold strV
  cases hq : quotR s k with
  | inl p => rw [hq] at h; exact h
  | inr p => rw [hq] at h; exact ⟨by have := h.1; omega, h.2.1, by simp, by have := h.1; simp; omega⟩
theorem num_fit (s : ByteArray) (k : Nat) (hk : k ≤ s.size) : (∃ m : Nat, num s k = (-1, (m : Int)) ∧ m ≤ s.size) ∨ ∃ m : Nat, num s k = ((m : Int), 0) ∧ k < m ∧ m ≤ s.size := by
  have h1 := sign_le s k hk
  have h2 : k ≤ sign s k := by unfold sign; split <;> omega
  unfold num
  by_cases hp : sign s k < s.size
  · rw [dif_pos hp]
    by_cases hd : dig s[sign s k] = false
    · rw [if_pos hd]; exact .inl ⟨_, rfl, h1⟩
    · rw [if_neg hd]
      by_cases h0 : s[sign s k].toNat = 48
      · rw [if_pos h0]; exact .inr ⟨sign s k + 1, by simp, by omega, by omega⟩
      · rw [if_neg h0]
        have h3 := run_go dig s (sign s k) hp (by simpa using hd)
        have h4 := run_ge dig s (sign s k + 1)
        exact .inr ⟨_, rfl, by omega, run_le dig s (sign s k) h1⟩
  · rw [dif_neg hp]; exact .inl ⟨_, rfl, h1⟩
theorem numV_fit (s : ByteArray) (k : Nat) (hk : k ≤ s.size) : Fit s k (numV s k) := by
  unfold numV numR
  rcases num_fit s k hk with ⟨m, h, hm⟩ | ⟨m, h, hm1, hm2⟩
  · rw [wholeR_no h]; exact ⟨by decide, hm⟩
  · rw [wholeR_yes h]
    by_cases hc : (numOut (s.extract k m)).1 ≠ 0
    · rw [if_pos hc]; exact ⟨by decide, hk⟩
    · rw [if_neg hc]
      simp only
      by_cases hf : peek s m = 46 ∨ peek s m = 101 ∨ peek s m = 69
      · rw [if_pos hf]; exact ⟨by decide, hm2⟩
      · rw [if_neg hf]; exact ⟨hm1, hm2, by simp, by simp; omega⟩
theorem keyR_fit (s : ByteArray) (k : Nat) (hk : k ≤ s.size) : match keyR s k with | .inl (c, m) => c ≠ 0 ∧ m ≤ s.size | .inr (key, j) => k < j ∧ j ≤ s.size ∧ key.size ≤ 60 := by
  have h := quotR_fit s k hk
  unfold keyR
  cases hq : quotR s k with
  | inl p => rw [hq] at h; exact h
  | inr p =>
    obtain ⟨l, e⟩ := p
    rw [hq] at h
    have h1 := skip_le s e h.2.1
    have h2 := skip_ge s e
    simp only
    by_cases hc : peek s (skip s e) = 58
    · rw [if_pos hc]
      have h3 := peek_lt s (skip s e) 58 (by decide) hc
      exact ⟨by have := h.1; omega, by omega, by show l.toArray.size ≤ 60; simpa using h.2.2⟩
    · rw [if_neg hc]; exact ⟨by decide, h1⟩
theorem headR_fit (s : ByteArray) (obj : Bool) (i : Nat) (hi : i ≤ s.size) : match headR s obj i with | .inl (c, m) => c ≠ 0 ∧ m ≤ s.size | .inr (key, j) => i ≤ j ∧ j ≤ s.size ∧ (∀ x ∈ key, x.size ≤ 60) ∧ key.length = (if obj then 1 else 0) := by
  unfold headR
  cases obj with
  | false => exact ⟨Nat.le_refl _, hi, fun x hx => by simp at hx, rfl⟩
  | true =>
    have h := keyR_fit s i hi
    simp only [if_true]
    cases hq : keyR s i with
    | inl p => rw [hq] at h; exact h
    | inr p =>
      obtain ⟨key, j⟩ := p
      rw [hq] at h
      have h1 := skip_le s j h.2.1
      have h2 := skip_ge s j
      exact ⟨by have := h.1; omega, h1, fun x hx => by simp only [List.mem_singleton] at hx; subst hx; exact h.2.2, rfl⟩
theorem memK_len (ks : List ByteArray) (ps : List (List M.Cl)) (L : List Nat) : (memK ks ps L L.length).length = ((L.map fun p => (ps.getD p []).length).sum) := by
  unfold memK
  rw [List.take_length, List.length_flatten, List.map_map]
  congr 1
  apply List.map_congr_left
  intro p _
  exact setKey_length _ _
theorem made_len (obj : Bool) (ks : List ByteArray) (ps : List (List M.Cl)) (h : obj = true → ks.length = ps.length) : 0 < (madeV obj ks ps).length ∧ (madeV obj ks ps).length ≤ 1 + tot ps ps.length := by
  unfold madeV
  cases obj with
  | false =>
    simp only [Bool.false_eq_true, if_false]
    have : (arrV ps).length = tot ps ps.length + 1 := arrK_length ps ps.length
    omega
  | true =>
    simp only [if_true]
    have h1 : (objV ks ps).length = 1 + (memK ks ps (St.stand ks ks.length) (St.stand ks ks.length).length).length := by unfold objV objK; simp; omega
    have h2 := memK_len ks ps (St.stand ks ks.length)
    have h3 := sum_le_tot ps ks.length (St.stand ks ks.length) (stand_nodup ks ks.length) (fun x hx => St.stand_lt ks ks.length x hx) (by rw [h rfl]; exact Nat.le_refl _)
    rw [h rfl] at h3 h2 h1
    omega
theorem lastB_pos (obj : Bool) : 0 < lastB obj := by cases obj <;> decide
theorem elemsR_fit (rec : Nat → Rv) (s : ByteArray) (obj : Bool) (k : Nat) (hrec : ∀ j, j ≤ s.size → Fit s j (rec j)) (g : Nat) : ∀ i ks ps, i ≤ s.size → k < i → 1 + tot ps ps.length ≤ i - k → (obj = true → ks.length = ps.length) → Fit s k (elemsR rec s obj g i ks ps) := by
  induction g with
  | zero => intro i ks ps hi _ _ _; exact ⟨by decide, hi⟩
  | succ g ih =>
    intro i ks ps hi hk hc hks
    rw [elemsR]
    have h1 := headR_fit s obj i hi
    cases hh : headR s obj i with
    | inl p => rw [hh] at h1; exact h1
    | inr p =>
      obtain ⟨key, j⟩ := p
      rw [hh] at h1
      obtain ⟨a1, a2, a3, a4⟩ := h1
      have h2 := hrec j a2
      simp only
      cases hr : rec j with
      | inl p => rw [hr] at h2; exact h2
      | inr p =>
        obtain ⟨v, e⟩ := p
        rw [hr] at h2
        obtain ⟨b1, b2, b3, b4⟩ := h2
        have m1 := skip_le s e b2
        have m2 := skip_ge s e
        have hks' : obj = true → (ks ++ key).length = (ps ++ [v]).length := fun ho => by
          rw [List.length_append, List.length_append, hks ho, a4, if_pos ho]; rfl
        have hts := tot_snoc ps v
        simp only
        by_cases hl : peek s (skip s e) = lastB obj
        · rw [if_pos hl]
          have m3 := peek_lt s (skip s e) (lastB obj) (lastB_pos obj) hl
          have h3 := made_len obj (ks ++ key) (ps ++ [v]) hks'
          exact ⟨by omega, by omega, h3.1, by have := h3.2; omega⟩
        · rw [if_neg hl]
          by_cases hcm : peek s (skip s e) = 44
          · rw [if_pos hcm]
            have m3 := peek_lt s (skip s e) 44 (by decide) hcm
            have n1 := skip_le s (skip s e + 1) (by omega)
            have n2 := skip_ge s (skip s e + 1)
            exact ih _ _ _ n1 (by omega) (by omega) hks'
          · rw [if_neg hcm]; exact ⟨by decide, m1⟩
theorem manyR_fit (rec : Nat → Rv) (s : ByteArray) (obj : Bool) (k : Nat) (hk : k < s.size) (hrec : ∀ j, j ≤ s.size → Fit s j (rec j)) : Fit s k (manyR rec s obj (skip s (k + 1))) := by
  have n1 := skip_le s (k + 1) (by omega)
  have n2 := skip_ge s (k + 1)
  unfold manyR
  by_cases hl : peek s (skip s (k + 1)) = lastB obj
  · rw [if_pos hl]
    have m3 := peek_lt s (skip s (k + 1)) (lastB obj) (lastB_pos obj) hl
    have h3 := made_len obj [] [] (fun _ => rfl)
    have h4 : tot ([] : List (List M.Cl)) ([] : List (List M.Cl)).length = 0 := rfl
    exact ⟨by omega, by omega, h3.1, by have := h3.2; omega⟩
  · rw [if_neg hl]
    have h4 : tot ([] : List (List M.Cl)) ([] : List (List M.Cl)).length = 0 := rfl
    exact elemsR_fit rec s obj k hrec _ _ _ _ n1 (by omega) (by omega) (fun _ => rfl)
theorem oneR_fit (s : ByteArray) (f : Nat) : ∀ d k, k ≤ s.size → Fit s k (oneR f d s k) := by
  induction f with
  | zero => intro d k hk; exact ⟨by decide, hk⟩
  | succ f ih =>
    intro d k hk
    rw [oneR]
    by_cases h0 : s.size ≤ k
    · rw [if_pos h0]; exact ⟨by decide, Nat.le_refl _⟩
    rw [if_neg h0]
    by_cases h1 : 20 ≤ d
    · rw [if_pos h1]; exact ⟨by decide, hk⟩
    rw [if_neg h1]
    split
    · exact wordV_fit s k hk _ _ _ (by decide)
    split
    · exact wordV_fit s k hk _ _ _ (by decide)
    split
    · exact wordV_fit s k hk _ _ _ (by decide)
    split
    · exact manyR_fit _ s false k (by omega) (fun j hj => ih (d + 1) j hj)
    split
    · exact manyR_fit _ s true k (by omega) (fun j hj => ih (d + 1) j hj)
    split
    · exact strV_fit s k hk
    · exact numV_fit s k hk
end J
end Go.Proofs.YtikeffckhklhbaaGreatDoor
