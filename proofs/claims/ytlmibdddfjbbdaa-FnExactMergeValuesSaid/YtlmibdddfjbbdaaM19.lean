/-
  The plain mathematics of the stable sort of places: what swaps, shifts, rotations and merges do to a row of numbers. No word of the program is used here.
  The plain mathematics of the stable sort, its phases: blocks of twenty by insertion, and merges of blocks that grow twofold.
  The members of an object: which places stand, in the order of keys; told once as places put in one by one, and once as a sorted row of places of which the last of each key is kept. No word of the program is used here.
-/
import Derived.WalkKit
namespace Go.Proofs.Ytlmibdddfjbbdaa
namespace St
set_option linter.unusedVariables false

def sw (f : Nat → Nat) (i j : Nat) : Nat → Nat := fun k => if k = i then f j else if k = j then f i else f k
/-- The places a.. and b.. change what they hold, n of each. -/
def swR (f : Nat → Nat) (a b n : Nat) : Nat → Nat := fun k => if a ≤ k ∧ k < a + n then f (k + (b - a)) else if b ≤ k ∧ k < b + n then f (k - (b - a)) else f k
/-- What lies from m to b comes ahead of what lies from a to m. -/
def rot (f : Nat → Nat) (a m b : Nat) : Nat → Nat := fun k => if a ≤ k ∧ k < a + (b - m) then f (k + (m - a)) else if a + (b - m) ≤ k ∧ k < b then f (k - (b - m)) else f k
/-- What lies at a goes up to the place ahead of i. -/
def up (f : Nat → Nat) (a i : Nat) : Nat → Nat := fun k => if a ≤ k ∧ k + 1 < i then f (k + 1) else if a ≤ k ∧ k + 1 = i then f a else f k
/-- What lies at m goes down to the place i. -/
def dn (f : Nat → Nat) (i m : Nat) : Nat → Nat := fun k => if k = i then f m else if i < k ∧ k ≤ m then f (k - 1) else f k

theorem swR_zero (f : Nat → Nat) (a b : Nat) : swR f a b 0 = f := by
  funext k; unfold swR; rw [if_neg (by omega), if_neg (by omega)]
theorem swR_succ (f : Nat → Nat) (a b n : Nat) (h : a + n < b) : sw (swR f a b n) (a + n) (b + n) = swR f a b (n + 1) := by
  funext k
  unfold sw swR
  by_cases h1 : k = a + n
  · subst h1
    rw [if_pos rfl, if_neg (by omega), if_neg (by omega), if_pos (by omega)]
    congr 1; omega
  · rw [if_neg h1]
    by_cases h2 : k = b + n
    · subst h2
      rw [if_pos rfl, if_neg (by omega), if_neg (by omega), if_neg (by omega), if_pos (by omega)]
      congr 1; omega
    · rw [if_neg h2]
      by_cases h3 : a ≤ k ∧ k < a + n
      · rw [if_pos h3, if_pos (by omega)]
      · rw [if_neg h3, if_neg (show ¬(a ≤ k ∧ k < a + (n + 1)) by omega)]
        by_cases h4 : b ≤ k ∧ k < b + n
        · rw [if_pos h4, if_pos (show b ≤ k ∧ k < b + (n + 1) by omega)]
        · rw [if_neg h4, if_neg (show ¬(b ≤ k ∧ k < b + (n + 1)) by omega)]

theorem rot_none_left (f : Nat → Nat) (m b : Nat) (h : m ≤ b) : rot f m m b = f := by
  funext k; unfold rot
  by_cases h1 : m ≤ k ∧ k < m + (b - m)
  · rw [if_pos h1]; congr 1; omega
  · rw [if_neg h1, if_neg (by omega)]
theorem rot_none_right (f : Nat → Nat) (a m : Nat) : rot f a m m = f := by
  funext k; unfold rot
  rw [if_neg (by omega)]
  by_cases h1 : a + (m - m) ≤ k ∧ k < m
  · rw [if_pos h1]; congr 1; omega
  · rw [if_neg h1]

theorem rot_big (f : Nat → Nat) (m i j : Nat) (hi : i ≤ m) (h : j < i) (hj : 0 < j) : rot (swR f (m - i) m j) (m - (i - j)) m (m + j) = rot f (m - i) m (m + j) := by
  funext k
  unfold rot swR
  by_cases h1 : k < m - i
  · rw [if_neg (by omega), if_neg (by omega), if_neg (by omega), if_neg (by omega), if_neg (by omega), if_neg (by omega)]
  by_cases h2 : m + j ≤ k
  · rw [if_neg (by omega), if_neg (by omega), if_neg (by omega), if_neg (by omega), if_neg (by omega), if_neg (by omega)]
  by_cases h3 : k < m - i + j
  · rw [if_neg (by omega), if_neg (by omega), if_pos (by omega), if_pos (by omega)]
  rw [if_neg (show ¬(m - i ≤ k ∧ k < m - i + (m + j - m)) by omega), if_pos (show m - i + (m + j - m) ≤ k ∧ k < m + j by omega)]
  by_cases h4 : k < m - (i - j) + j
  · rw [if_pos (by omega)]
    rw [if_neg (by omega), if_pos (by omega)]
    congr 1; omega
  · rw [if_neg (by omega), if_pos (by omega), if_neg (by omega), if_neg (by omega)]

theorem rot_small (f : Nat → Nat) (m i j : Nat) (hi : i ≤ m) (h : i < j) (hj : 0 < i) : rot (swR f (m - i) (m + j - i) i) (m - i) m (m + (j - i)) = rot f (m - i) m (m + j) := by
  funext k
  unfold rot swR
  by_cases h1 : k < m - i
  · rw [if_neg (by omega), if_neg (by omega), if_neg (by omega), if_neg (by omega), if_neg (by omega), if_neg (by omega)]
  by_cases h2 : m + j ≤ k
  · rw [if_neg (by omega), if_neg (by omega), if_neg (by omega), if_neg (by omega), if_neg (by omega), if_neg (by omega)]
  by_cases h3 : k < m - i + (j - i)
  · rw [if_pos (by omega), if_pos (show m - i ≤ k ∧ k < m - i + (m + j - m) by omega)]
    rw [if_neg (by omega), if_neg (by omega)]
  by_cases h4 : k < m + (j - i)
  · rw [if_neg (by omega), if_pos (by omega), if_pos (by omega), if_pos (by omega)]
    congr 1; omega
  rw [if_neg (by omega), if_neg (by omega), if_neg (by omega), if_pos (by omega), if_neg (by omega), if_pos (by omega)]
  congr 1; omega

theorem rot_same (f : Nat → Nat) (m i : Nat) (hi : i ≤ m) : swR f (m - i) m i = rot f (m - i) m (m + i) := by
  funext k
  unfold rot swR
  by_cases h1 : m - i ≤ k ∧ k < m - i + i
  · rw [if_pos h1, if_pos (by omega)]
  rw [if_neg h1, if_neg (show ¬(m - i ≤ k ∧ k < m - i + (m + i - m)) by omega)]
  by_cases h2 : m ≤ k ∧ k < m + i
  · rw [if_pos h2, if_pos (show m - i + (m + i - m) ≤ k ∧ k < m + i by omega)]; congr 1; omega
  · rw [if_neg h2, if_neg (show ¬(m - i + (m + i - m) ≤ k ∧ k < m + i) by omega)]

theorem up_one (f : Nat → Nat) (a : Nat) : up f a (a + 1) = f := by
  funext k; unfold up
  rw [if_neg (by omega)]
  by_cases h : a ≤ k ∧ k + 1 = a + 1
  · rw [if_pos h]; congr 1; omega
  · rw [if_neg h]
theorem up_succ (f : Nat → Nat) (a k : Nat) (h : a ≤ k) : sw (up f a (k + 1)) k (k + 1) = up f a (k + 2) := by
  funext q
  unfold sw up
  by_cases h1 : q = k
  · subst h1; rw [if_pos rfl, if_neg (by omega), if_neg (by omega), if_pos (by omega)]
  rw [if_neg h1]
  by_cases h2 : q = k + 1
  · subst h2; rw [if_pos rfl, if_neg (by omega), if_pos (by omega), if_neg (by omega), if_pos (by omega)]
  rw [if_neg h2]
  by_cases h3 : a ≤ q ∧ q + 1 < k + 1
  · rw [if_pos h3, if_pos (by omega)]
  · rw [if_neg h3, if_neg (by omega), if_neg (by omega), if_neg (by omega)]
theorem dn_zero (f : Nat → Nat) (m : Nat) : dn f m m = f := by
  funext k; unfold dn
  by_cases h : k = m
  · rw [if_pos h, h]
  · rw [if_neg h, if_neg (by omega)]
theorem dn_succ (f : Nat → Nat) (i m : Nat) (h : i < m) : sw (dn f (i + 1) m) (i + 1) i = dn f i m := by
  funext q
  unfold sw dn
  by_cases h1 : q = i + 1
  · subst h1; rw [if_pos rfl, if_neg (by omega), if_neg (by omega), if_neg (by omega), if_pos (by omega)]; congr 1
  rw [if_neg h1]
  by_cases h2 : q = i
  · subst h2; rw [if_pos rfl, if_pos rfl, if_pos rfl]
  rw [if_neg h2, if_neg h1, if_neg h2]
  by_cases h3 : i + 1 < q ∧ q ≤ m
  · rw [if_pos h3, if_pos (by omega)]
  · rw [if_neg h3, if_neg (by omega)]

/-- From a to b the same numbers, in whatever order; elsewhere as it was. -/
def Per (a b : Nat) (f g : Nat → Nat) : Prop :=
  (∀ k, ¬ (a ≤ k ∧ k < b) → g k = f k) ∧ (∀ k, a ≤ k → k < b → ∃ j, a ≤ j ∧ j < b ∧ g k = f j) ∧ (∀ j, a ≤ j → j < b → ∃ k, a ≤ k ∧ k < b ∧ g k = f j)

theorem Per.refl (a b : Nat) (f : Nat → Nat) : Per a b f f := ⟨fun _ _ => rfl, fun k h1 h2 => ⟨k, h1, h2, rfl⟩, fun k h1 h2 => ⟨k, h1, h2, rfl⟩⟩
theorem Per.trans {a b : Nat} {f g h : Nat → Nat} (p : Per a b f g) (q : Per a b g h) : Per a b f h := by
  refine ⟨fun k hk => (q.1 k hk).trans (p.1 k hk), fun k h1 h2 => ?_, fun j h1 h2 => ?_⟩
  · obtain ⟨j, j1, j2, e⟩ := q.2.1 k h1 h2
    obtain ⟨i, i1, i2, e'⟩ := p.2.1 j j1 j2
    exact ⟨i, i1, i2, e.trans e'⟩
  · obtain ⟨k, k1, k2, e⟩ := p.2.2 j h1 h2
    obtain ⟨i, i1, i2, e'⟩ := q.2.2 k k1 k2
    exact ⟨i, i1, i2, e'.trans e⟩
theorem Per.mono {a b a' b' : Nat} {f g : Nat → Nat} (p : Per a b f g) (ha : a' ≤ a) (hb : b ≤ b') : Per a' b' f g := by
  refine ⟨fun k hk => p.1 k (by omega), fun k h1 h2 => ?_, fun k h1 h2 => ?_⟩
  · by_cases h : a ≤ k ∧ k < b
    · obtain ⟨j, j1, j2, e⟩ := p.2.1 k h.1 h.2
      exact ⟨j, by omega, by omega, e⟩
    · exact ⟨k, h1, h2, p.1 k h⟩
  · by_cases h : a ≤ k ∧ k < b
    · obtain ⟨j, j1, j2, e⟩ := p.2.2 k h.1 h.2
      exact ⟨j, by omega, by omega, e⟩
    · exact ⟨k, h1, h2, p.1 k h⟩
theorem Per.up {a i : Nat} (f : Nat → Nat) (h : a < i) : Per a i f (up f a i) := by
  refine ⟨fun k hk => ?_, fun k h1 h2 => ?_, fun k h1 h2 => ?_⟩
  · unfold St.up; rw [if_neg (by omega), if_neg (by omega)]
  · unfold St.up
    by_cases e1 : k + 1 < i
    · exact ⟨k + 1, by omega, e1, by rw [if_pos ⟨h1, e1⟩]⟩
    · exact ⟨a, Nat.le_refl _, h, by rw [if_neg (by omega), if_pos (by omega)]⟩
  · unfold St.up
    by_cases e1 : k = a
    · exact ⟨i - 1, by omega, by omega, by rw [if_neg (by omega), if_pos (by omega), e1]⟩
    · exact ⟨k - 1, by omega, by omega, by rw [if_pos (by omega)]; congr 1; omega⟩
theorem Per.dn {i m : Nat} (f : Nat → Nat) (h : i ≤ m) : Per i (m + 1) f (dn f i m) := by
  refine ⟨fun k hk => ?_, fun k h1 h2 => ?_, fun k h1 h2 => ?_⟩
  · unfold St.dn; rw [if_neg (by omega), if_neg (by omega)]
  · unfold St.dn
    by_cases e1 : k = i
    · exact ⟨m, h, by omega, by rw [if_pos e1]⟩
    · exact ⟨k - 1, by omega, by omega, by rw [if_neg e1, if_pos (by omega)]⟩
  · unfold St.dn
    by_cases e1 : k = m
    · exact ⟨i, by omega, by omega, by rw [if_pos rfl, e1]⟩
    · exact ⟨k + 1, by omega, by omega, by rw [if_neg (by omega), if_pos (by omega)]; congr 1⟩
theorem Per.rot {a m b : Nat} (f : Nat → Nat) (h1 : a ≤ m) (h2 : m ≤ b) : Per a b f (rot f a m b) := by
  refine ⟨fun k hk => ?_, fun k h1 h2 => ?_, fun k h1 h2 => ?_⟩
  · unfold St.rot; rw [if_neg (by omega), if_neg (by omega)]
  · unfold St.rot
    by_cases e1 : k < a + (b - m)
    · exact ⟨k + (m - a), by omega, by omega, by rw [if_pos ⟨h1, e1⟩]⟩
    · exact ⟨k - (b - m), by omega, by omega, by rw [if_neg (by omega), if_pos (by omega)]⟩
  · unfold St.rot
    by_cases e1 : k < m
    · exact ⟨k + (b - m), by omega, by omega, by rw [if_neg (by omega), if_pos (by omega)]; congr 1; omega⟩
    · exact ⟨k - (m - a), by omega, by omega, by rw [if_pos (by omega)]; congr 1; omega⟩

/-- An order of places: lt is strict; the test tells it of two places of which one came first. -/
structure Ord (lt : Nat → Nat → Prop) (t : Nat → Nat → Bool) : Prop where
  trans : ∀ {x y z}, lt x y → lt y z → lt x z
  left : ∀ {x y z}, lt x y → t y z = true → t x z = true
  right : ∀ {x y z}, t z x = true → lt x y → t z y = true
  yes : ∀ {x y}, t x y = true → lt x y
  no : ∀ {x y}, t y x = false → x < y → lt x y

def Srt (lt : Nat → Nat → Prop) (a b : Nat) (f : Nat → Nat) : Prop := ∀ i j, a ≤ i → i < j → j < b → lt (f i) (f j)
def Lo (a m b : Nat) (f : Nat → Nat) : Prop := ∀ i j, a ≤ i → i < m → m ≤ j → j < b → f i < f j
/-- The numbers from a to b are numbers from a to b. -/
def In (a b : Nat) (f : Nat → Nat) : Prop := ∀ k, a ≤ k → k < b → a ≤ f k ∧ f k < b

theorem In.per {a b : Nat} {f g : Nat → Nat} (h : In a b f) (p : Per a b f g) : In a b g := fun k h1 h2 => by
  obtain ⟨j, j1, j2, e⟩ := p.2.1 k h1 h2
  rw [e]; exact h j j1 j2
theorem In.join {a m b : Nat} {f : Nat → Nat} (h1 : In a m f) (h2 : In m b f) (ha : a ≤ m) (hb : m ≤ b) : In a b f ∧ Lo a m b f := by
  refine ⟨fun k k1 k2 => ?_, fun i j i1 i2 j1 j2 => ?_⟩
  · by_cases h : k < m
    · have := h1 k k1 h; omega
    · have := h2 k (by omega) k2; omega
  · have := h1 i i1 i2; have := h2 j j1 j2; omega

variable {lt : Nat → Nat → Prop} {t : Nat → Nat → Bool}

theorem Srt.part {a b a' b' : Nat} {f : Nat → Nat} (h : Srt lt a b f) (h1 : a ≤ a') (h2 : b' ≤ b) : Srt lt a' b' f := fun i j i1 i2 i3 => h i j (by omega) i2 (by omega)
theorem Srt.same {a b : Nat} {f g : Nat → Nat} (h : Srt lt a b f) (e : ∀ k, a ≤ k → k < b → g k = f k) : Srt lt a b g := fun i j i1 i2 i3 => by rw [e i i1 (by omega), e j (by omega) i3]; exact h i j i1 i2 i3
theorem Srt.one {a b : Nat} (f : Nat → Nat) (h : b ≤ a + 1) : Srt lt a b f := fun i j i1 i2 i3 => by omega
/-- Two halves, each in order, the one ahead of the other. -/
theorem Srt.join {a m b : Nat} {f g : Nat → Nat} (h1 : Srt lt a m g) (h2 : Srt lt m b g) (p : ∀ k, a ≤ k → k < m → ∃ j, a ≤ j ∧ j < m ∧ g k = f j) (q : ∀ k, m ≤ k → k < b → ∃ j, m ≤ j ∧ j < b ∧ g k = f j) (x : ∀ i j, a ≤ i → i < m → m ≤ j → j < b → lt (f i) (f j)) : Srt lt a b g := fun i j i1 i2 i3 => by
  by_cases c1 : j < m
  · exact h1 i j i1 i2 c1
  by_cases c2 : i < m
  · obtain ⟨i', a1, a2, e1⟩ := p i i1 c2
    obtain ⟨j', b1, b2, e2⟩ := q j (by omega) i3
    rw [e1, e2]; exact x i' j' a1 a2 b1 b2
  · exact h2 i j (by omega) i2 i3

/-- One on the left goes up. -/
theorem up_sorted (O : Ord lt t) {a b i : Nat} {f : Nat → Nat} (hs : Srt lt (a + 1) b f) (hlo : Lo a (a + 1) b f) (hi1 : a + 1 ≤ i) (hib : i ≤ b) (hl : ∀ h, a + 1 ≤ h → h < i → t (f h) (f a) = true) (hr : ∀ h, i ≤ h → h < b → t (f h) (f a) = false) : Srt lt a b (up f a i) := by
  intro p q h1 h2 h3
  unfold up
  by_cases c1 : p + 1 < i
  · rw [if_pos ⟨h1, c1⟩]
    by_cases c2 : q + 1 < i
    · rw [if_pos (by omega)]; exact hs _ _ (by omega) (by omega) (by omega)
    by_cases c3 : q + 1 = i
    · rw [if_neg (by omega), if_pos (by omega)]; exact O.yes (hl _ (by omega) c1)
    · rw [if_neg (by omega), if_neg (by omega)]; exact hs _ _ (by omega) (by omega) h3
  rw [if_neg (show ¬(a ≤ p ∧ p + 1 < i) by omega)]
  rw [if_neg (show ¬(a ≤ q ∧ q + 1 < i) by omega), if_neg (show ¬(a ≤ q ∧ q + 1 = i) by omega)]
  by_cases c4 : p + 1 = i
  · rw [if_pos (by omega)]
    exact O.no (hr q (by omega) h3) (hlo a q (by omega) (by omega) (by omega) h3)
  · rw [if_neg (by omega)]; exact hs _ _ (by omega) h2 h3
/-- One on the right goes down. -/
theorem dn_sorted (O : Ord lt t) {a m i : Nat} {f : Nat → Nat} (hs : Srt lt a m f) (hlo : Lo a m (m + 1) f) (hia : a ≤ i) (him : i ≤ m) (hl : ∀ h, a ≤ h → h < i → t (f m) (f h) = false) (hr : ∀ h, i ≤ h → h < m → t (f m) (f h) = true) : Srt lt a (m + 1) (dn f i m) := by
  intro p q h1 h2 h3
  unfold dn
  by_cases c1 : p = i
  · rw [if_pos c1, if_neg (by omega), if_pos (by omega)]
    exact O.yes (hr _ (by omega) (by omega))
  rw [if_neg c1]
  by_cases c2 : i < p
  · rw [if_pos (by omega), if_neg (by omega), if_pos (by omega)]
    exact hs _ _ (by omega) (by omega) (by omega)
  rw [if_neg (by omega)]
  by_cases c3 : q = i
  · rw [if_pos c3]; exact O.no (hl _ h1 (by omega)) (hlo _ _ h1 (by omega) (by omega) (by omega))
  rw [if_neg c3]
  by_cases c4 : i < q
  · rw [if_pos (by omega)]; exact hs _ _ h1 (by omega) (by omega)
  · rw [if_neg (by omega)]; exact hs _ _ h1 h2 (by omega)

/-- The middle of a merge: what the search has found, and what the turn then leaves. -/
theorem mid_turn (O : Ord lt t) {a m b mid s e : Nat} {f : Nat → Nat} (hl : Srt lt a m f) (hr : Srt lt m b f) (hlo : Lo a m b f) (hmid : a ≤ mid ∧ mid ≤ b) (hs1 : a ≤ s) (hs2 : s ≤ m) (hs3 : s ≤ mid) (he : e + s = mid + m) (he1 : m ≤ e) (he2 : e ≤ b)
    (hno : a < s → e < b → t (f e) (f (s - 1)) = false) (hyes : s < m → m < e → t (f (e - 1)) (f s) = true) :
    Srt lt a s (rot f s m e) ∧ Srt lt s mid (rot f s m e) ∧ Lo a s mid (rot f s m e) ∧ Srt lt mid e (rot f s m e) ∧ Srt lt e b (rot f s m e) ∧ Lo mid e b (rot f s m e) ∧ ∀ i j, a ≤ i → i < mid → mid ≤ j → j < b → lt (rot f s m e i) (rot f s m e j) := by
  have A : ∀ k, k < s → rot f s m e k = f k := fun k hk => by unfold rot; rw [if_neg (by omega), if_neg (by omega)]
  have B : ∀ k, s ≤ k → k < mid → rot f s m e k = f (k + (m - s)) := fun k h1 h2 => by unfold rot; rw [if_pos (by omega)]
  have C : ∀ k, mid ≤ k → k < e → rot f s m e k = f (k - (e - m)) := fun k h1 h2 => by unfold rot; rw [if_neg (by omega), if_pos (by omega)]
  have D : ∀ k, e ≤ k → rot f s m e k = f k := fun k hk => by unfold rot; rw [if_neg (by omega), if_neg (by omega)]
  have hem : mid ≤ e := by omega
  refine ⟨fun i j h1 h2 h3 => ?_, fun i j h1 h2 h3 => ?_, fun i j h1 h2 h3 h4 => ?_, fun i j h1 h2 h3 => ?_, fun i j h1 h2 h3 => ?_, fun i j h1 h2 h3 h4 => ?_, fun i j h1 h2 h3 h4 => ?_⟩
  · rw [A i (by omega), A j h3]; exact hl i j h1 h2 (by omega)
  · rw [B i h1 (by omega), B j (by omega) h3]; exact hr _ _ (by omega) (by omega) (by omega)
  · rw [A i h2, B j h3 h4]; exact hlo _ _ h1 (by omega) (by omega) (by omega)
  · rw [C i h1 (by omega), C j (by omega) h3]; exact hl _ _ (by omega) (by omega) (by omega)
  · rw [D i h1, D j (by omega)]; exact hr _ _ (by omega) h2 h3
  · rw [C i h1 h2, D j h3]; exact hlo _ _ (by omega) (by omega) (by omega) h4
  · by_cases c1 : i < s
    · rw [A i c1]
      by_cases c2 : j < e
      · rw [C j h3 c2]; exact hl _ _ h1 (by omega) (by omega)
      · rw [D j (by omega)]
        have h5 : lt (f (s - 1)) (f e) := O.no (hno (by omega) (by omega)) (hlo _ _ (by omega) (by omega) (by omega) (by omega))
        have h6 : lt (f i) (f e) := by
          by_cases c3 : i = s - 1
          · rw [c3]; exact h5
          · exact O.trans (hl i (s - 1) h1 (by omega) (by omega)) h5
        by_cases c4 : j = e
        · rw [c4]; exact h6
        · exact O.trans h6 (hr e j (by omega) (by omega) h4)
    · rw [B i (by omega) h2]
      by_cases c2 : j < e
      · rw [C j h3 c2]
        have h5 : lt (f (e - 1)) (f s) := O.yes (hyes (by omega) (by omega))
        have h6 : lt (f (i + (m - s))) (f s) := by
          by_cases c3 : i + (m - s) = e - 1
          · rw [c3]; exact h5
          · exact O.trans (hr _ _ (by omega) (by omega) (by omega)) h5
        by_cases c4 : j - (e - m) = s
        · rw [c4]; exact h6
        · exact O.trans h6 (hl _ _ (by omega) (by omega) (by omega))
      · rw [D j (by omega)]; exact hr _ _ (by omega) (by omega) h4

end St
end Go.Proofs.Ytlmibdddfjbbdaa

namespace Go.Proofs.Ytlmibdddfjbbdaa
namespace St
set_option linter.unusedVariables false
variable {lt : Nat → Nat → Prop} {t : Nat → Nat → Bool}

theorem dn_at (f : Nat → Nat) (j i : Nat) : dn f j i j = f i := by unfold dn; rw [if_pos rfl]
theorem dn_ahead (f : Nat → Nat) (j i k : Nat) (h : k < j) : dn f j i k = f k := by unfold dn; rw [if_neg (by omega), if_neg (by omega)]

theorem ins_step (O : Ord lt t) {a i j : Nat} {f : Nat → Nat} (hs : Srt lt a i f) (hlo : Lo a i (i + 1) f) (haj : a ≤ j) (hji : j ≤ i) (hr : ∀ h, j ≤ h → h < i → t (f i) (f h) = true) (hstop : j = a ∨ t (f i) (f (j - 1)) = false) : Srt lt a (i + 1) (dn f j i) := by
  refine dn_sorted O hs hlo haj hji (fun h h1 h2 => ?_) hr
  rcases hstop with e | e
  · omega
  · cases hx : t (f i) (f h) with
    | false => rfl
    | true =>
      by_cases c : h = j - 1
      · rw [c, e] at hx; cases hx
      · have := O.right hx (hs h (j - 1) h1 (by omega) (by omega))
        rw [e] at this; cases this

def Ok (lt : Nat → Nat → Prop) (a b : Nat) (f : Nat → Nat) : Prop := Srt lt a b f ∧ In a b f
theorem Ok.same {a b : Nat} {f g : Nat → Nat} (h : Ok lt a b f) (e : ∀ k, a ≤ k → k < b → g k = f k) : Ok lt a b g := ⟨h.1.same e, fun k h1 h2 => by rw [e k h1 h2]; exact h.2 k h1 h2⟩
theorem Ok.off {a b c d : Nat} {f g : Nat → Nat} (h : Ok lt a b f) (p : Per c d f g) (hd : b ≤ c ∨ d ≤ a) : Ok lt a b g := h.same fun k h1 h2 => p.1 k (by omega)

def Ph1 (lt : Nat → Nat → Prop) (n a : Nat) (f : Nat → Nat) : Prop := a % 20 = 0 ∧ a ≤ n ∧ (∀ c, c % 20 = 0 → c + 20 ≤ a → Ok lt c (c + 20) f) ∧ ∀ k, a ≤ k → f k = k
def Ph2 (lt : Nat → Nat → Prop) (n s : Nat) (f : Nat → Nat) : Prop := ∀ c, c % s = 0 → c < n → Ok lt c (min (c + s) n) f
def Ph3 (lt : Nat → Nat → Prop) (n s a : Nat) (f : Nat → Nat) : Prop := a % (2 * s) = 0 ∧ a ≤ n ∧ (∀ c, c % (2 * s) = 0 → c + 2 * s ≤ a → Ok lt c (c + 2 * s) f) ∧ ∀ c, c % s = 0 → a ≤ c → c < n → Ok lt c (min (c + s) n) f
def Sz (s : Nat) : Prop := s = 20 ∨ s = 40 ∨ s = 80 ∨ s = 160 ∨ s = 320 ∨ s = 640 ∨ s = 1280 ∨ s = 2560 ∨ s = 5120

theorem Ph1.start (n : Nat) : Ph1 lt n 0 (fun k => k) := ⟨rfl, by omega, fun c h1 h2 => by omega, fun k _ => rfl⟩
theorem Ph1.step {n a : Nat} {f g : Nat → Nat} (h : Ph1 lt n a f) (hn : a + 20 ≤ n) (p : Per a (a + 20) f g) (s : Srt lt a (a + 20) g) : Ph1 lt n (a + 20) g := by
  obtain ⟨h1, h2, h3, h4⟩ := h
  refine ⟨by omega, hn, fun c c1 c2 => ?_, fun k hk => (p.1 k (by omega)).trans (h4 k (by omega))⟩
  by_cases e : c = a
  · subst e
    refine ⟨s, In.per (fun k k1 k2 => ?_) p⟩
    rw [h4 k k1]; omega
  · exact (h3 c c1 (by omega)).off p (by omega)
theorem Ph1.last {n a : Nat} {f g : Nat → Nat} (h : Ph1 lt n a f) (hn : n < a + 20) (p : Per a n f g) (s : Srt lt a n g) : Ph2 lt n 20 g := by
  obtain ⟨h1, h2, h3, h4⟩ := h
  intro c c1 c2
  by_cases e : c = a
  · subst e
    rw [show min (c + 20) n = n by omega]
    refine ⟨s, In.per (fun k k1 k2 => ?_) p⟩
    rw [h4 k k1]; omega
  · rw [show min (c + 20) n = c + 20 by omega]
    exact (h3 c c1 (by omega)).off p (by omega)
theorem Ph2.whole {n s : Nat} {f : Nat → Nat} (h : Ph2 lt n s f) (hs : n ≤ s) (hn : 0 < n) : Srt lt 0 n f := by
  have := (h 0 (Nat.zero_mod _) hn).1
  rwa [show min (0 + s) n = n by omega] at this
theorem Ph2.begin {n s : Nat} {f : Nat → Nat} (h : Ph2 lt n s f) (hs : 0 < s) : Ph3 lt n s 0 f := ⟨Nat.zero_mod _, by omega, fun c h1 h2 => by omega, fun c h1 _ h2 => h c h1 h2⟩
/-- What the merge of two whole blocks is told. -/
theorem Ph3.asks {n s a : Nat} {f : Nat → Nat} (h : Ph3 lt n s a f) (z : Sz s) (hn : a + 2 * s ≤ n) : Srt lt a (a + s) f ∧ Srt lt (a + s) (a + 2 * s) f ∧ Lo a (a + s) (a + 2 * s) f ∧ In a (a + 2 * s) f := by
  obtain ⟨h1, h2, h3, h4⟩ := h
  have o1 := h4 a (by rcases z with rfl | rfl | rfl | rfl | rfl | rfl | rfl | rfl | rfl <;> omega) (by omega) (by rcases z with rfl | rfl | rfl | rfl | rfl | rfl | rfl | rfl | rfl <;> omega)
  have o2 := h4 (a + s) (by rcases z with rfl | rfl | rfl | rfl | rfl | rfl | rfl | rfl | rfl <;> omega) (by omega) (by rcases z with rfl | rfl | rfl | rfl | rfl | rfl | rfl | rfl | rfl <;> omega)
  rw [show min (a + s) n = a + s by omega] at o1
  rw [show min (a + s + s) n = a + 2 * s by omega] at o2
  have j := In.join o1.2 o2.2 (by omega) (by omega)
  exact ⟨o1.1, o2.1, j.2, j.1⟩
theorem Ph3.step {n s a : Nat} {f g : Nat → Nat} (h : Ph3 lt n s a f) (z : Sz s) (hn : a + 2 * s ≤ n) (p : Per a (a + 2 * s) f g) (o : Srt lt a (a + 2 * s) g) : Ph3 lt n s (a + 2 * s) g := by
  have hin := (h.asks z hn).2.2.2
  obtain ⟨h1, h2, h3, h4⟩ := h
  refine ⟨by rcases z with rfl | rfl | rfl | rfl | rfl | rfl | rfl | rfl | rfl <;> omega, hn, fun c c1 c2 => ?_, fun c c1 c2 c3 => (h4 c c1 (by omega) c3).off p (by omega)⟩
  by_cases e : c = a
  · subst e; exact ⟨o, hin.per p⟩
  · exact (h3 c c1 (by rcases z with rfl | rfl | rfl | rfl | rfl | rfl | rfl | rfl | rfl <;> omega)).off p (by rcases z with rfl | rfl | rfl | rfl | rfl | rfl | rfl | rfl | rfl <;> omega)
theorem Ph3.asks2 {n s a : Nat} {f : Nat → Nat} (h : Ph3 lt n s a f) (z : Sz s) (hn : n < a + 2 * s) (hm : a + s < n) : Srt lt a (a + s) f ∧ Srt lt (a + s) n f ∧ Lo a (a + s) n f ∧ In a n f := by
  obtain ⟨h1, h2, h3, h4⟩ := h
  have o1 := h4 a (by rcases z with rfl | rfl | rfl | rfl | rfl | rfl | rfl | rfl | rfl <;> omega) (by omega) (by omega)
  have o2 := h4 (a + s) (by rcases z with rfl | rfl | rfl | rfl | rfl | rfl | rfl | rfl | rfl <;> omega) (by omega) hm
  rw [show min (a + s) n = a + s by omega] at o1
  rw [show min (a + s + s) n = n by omega] at o2
  have j := In.join o1.2 o2.2 (by omega) (by omega)
  exact ⟨o1.1, o2.1, j.2, j.1⟩
theorem Ph3.last {n s a : Nat} {f g : Nat → Nat} (h : Ph3 lt n s a f) (z : Sz s) (hn : n < a + 2 * s) (hm : a + s < n) (p : Per a n f g) (o : Srt lt a n g) : Ph2 lt n (2 * s) g := by
  have hin := (h.asks2 z hn hm).2.2.2
  obtain ⟨h1, h2, h3, h4⟩ := h
  intro c c1 c2
  by_cases e : c = a
  · subst e
    rw [show min (c + 2 * s) n = n by omega]
    exact ⟨o, hin.per p⟩
  · have hc : c + 2 * s ≤ a := by rcases z with rfl | rfl | rfl | rfl | rfl | rfl | rfl | rfl | rfl <;> omega
    rw [show min (c + 2 * s) n = c + 2 * s by omega]
    exact (h3 c c1 hc).off p (by omega)
theorem Ph3.rest {n s a : Nat} {f : Nat → Nat} (h : Ph3 lt n s a f) (z : Sz s) (hn : n < a + 2 * s) (hm : n ≤ a + s) : Ph2 lt n (2 * s) f := by
  obtain ⟨h1, h2, h3, h4⟩ := h
  intro c c1 c2
  by_cases e : c = a
  · subst e
    have o1 := h4 c (by rcases z with rfl | rfl | rfl | rfl | rfl | rfl | rfl | rfl | rfl <;> omega) (by omega) c2
    rw [show min (c + s) n = n by omega] at o1
    rw [show min (c + 2 * s) n = n by omega]
    exact o1
  · have hc : c + 2 * s ≤ a := by rcases z with rfl | rfl | rfl | rfl | rfl | rfl | rfl | rfl | rfl <;> omega
    rw [show min (c + 2 * s) n = c + 2 * s by omega]
    exact h3 c c1 hc
theorem Sz.twice {s n : Nat} (z : Sz s) (h : s < n) (hn : n ≤ 5120) : Sz (2 * s) := by
  unfold Sz at *; omega
/-- The searches of a merge: what is found from lo to hi on is monotone. -/
theorem find_up (O : Ord lt t) {a b : Nat} {f : Nat → Nat} (hs : Srt lt (a + 1) b f) {h h' : Nat} (h1 : a + 1 ≤ h') (h2 : h' ≤ h) (h3 : h < b) (e : t (f h) (f a) = true) : t (f h') (f a) = true := by
  by_cases c : h' = h
  · rw [c]; exact e
  · exact O.left (hs h' h h1 (by omega) h3) e
theorem find_dn (O : Ord lt t) {a m : Nat} {f : Nat → Nat} (hs : Srt lt a m f) {h h' : Nat} (h1 : a ≤ h) (h2 : h ≤ h') (h3 : h' < m) (e : t (f m) (f h) = true) : t (f m) (f h') = true := by
  by_cases c : h = h'
  · rw [← c]; exact e
  · exact O.right e (hs h h' h1 (by omega) h3)
theorem find_mid (O : Ord lt t) {a m b p : Nat} {f : Nat → Nat} (hl : Srt lt a m f) (hr : Srt lt m b f) {c c' : Nat} (h1 : a ≤ c) (h2 : c ≤ c') (h3 : c' < m) (h4 : m ≤ p - c') (h5 : p - c < b) (h6 : c' ≤ p) (e : t (f (p - c)) (f c) = true) : t (f (p - c')) (f c') = true := by
  by_cases x : c = c'
  · rw [← x]; exact e
  · exact O.left (hr _ _ h4 (by omega) h5) (O.right e (hl c c' h1 (by omega) h3))
/-- What the turn in the middle leaves, told once. -/
structure Turn (lt : Nat → Nat → Prop) (a m e mid s E : Nat) (f g : Nat → Nat) : Prop where
  per : Per a e f g
  s1 : Srt lt a s g
  s2 : Srt lt s mid g
  l1 : Lo a s mid g
  s3 : Srt lt mid E g
  s4 : Srt lt E e g
  l2 : Lo mid E e g
  x : ∀ i j, a ≤ i → i < mid → mid ≤ j → j < e → lt (g i) (g j)
theorem turn (O : Ord lt t) {a m e mid s E lo hi : Nat} {f : Nat → Nat} (hl : Srt lt a m f) (hr : Srt lt m e f) (hlo : Lo a m e f) (ham : a < m) (hme : m < e) (hmid : mid = (a + e) / 2) (hlohi : (mid < m ∧ lo + e = mid + m ∧ hi = mid) ∨ (m ≤ mid ∧ lo = a ∧ hi = m)) (h1 : lo ≤ s) (h2 : s ≤ hi) (hE : E + s = mid + m)
    (hno : ∀ c, lo ≤ c → c < s → t (f (mid + m - 1 - c)) (f c) = false) (hyes : ∀ c, s ≤ c → c < hi → t (f (mid + m - 1 - c)) (f c) = true) : Turn lt a m e mid s E f (rot f s m E) := by
  have h := mid_turn O (mid := mid) (s := s) (e := E) hl hr hlo (by omega) (by omega) (by omega) (by omega) hE (by omega) (by omega)
    (fun c1 c2 => by have := hno (s - 1) (by omega) (by omega); rwa [show mid + m - 1 - (s - 1) = E by omega] at this)
    (fun c1 c2 => by have := hyes s (Nat.le_refl _) (by omega); rwa [show mid + m - 1 - s = E - 1 by omega] at this)
  exact ⟨(Per.rot f (by omega) (by omega)).mono (by omega) (by omega), h.1, h.2.1, h.2.2.1, h.2.2.2.1, h.2.2.2.2.1, h.2.2.2.2.2.1, h.2.2.2.2.2.2⟩
theorem Turn.first {a m e mid s E : Nat} {f g : Nat → Nat} (T : Turn lt a m e mid s E f g) (h1 : a ≤ s) (h2 : s ≤ mid) (h : ¬ (a < s ∧ s < mid)) : Srt lt a mid g := by
  by_cases c : s = a
  · subst c; exact T.s2
  · have : s = mid := by omega
    subst this; exact T.s1
theorem Turn.second {a m e mid s E : Nat} {f g g2 : Nat → Nat} (T : Turn lt a m e mid s E f g) (p2 : Per a mid g g2) (h1 : mid ≤ E) (h2 : E ≤ e) (h : ¬ (mid < E ∧ E < e)) : Srt lt mid e g2 := by
  refine Srt.same (f := g) ?_ (fun k k1 _ => p2.1 k (by omega))
  by_cases c : E = mid
  · subst c; exact T.s4
  · have : E = e := by omega
    subst this; exact T.s3
theorem Turn.asks {a m e mid s E : Nat} {f g g2 : Nat → Nat} (T : Turn lt a m e mid s E f g) (p2 : Per a mid g g2) (h1 : mid ≤ E) : Srt lt mid E g2 ∧ Srt lt E e g2 ∧ Lo mid E e g2 :=
  ⟨T.s3.same (fun k k1 _ => p2.1 k (by omega)), T.s4.same (fun k k1 _ => p2.1 k (by omega)), fun i j i1 i2 j1 j2 => by rw [p2.1 i (by omega), p2.1 j (by omega)]; exact T.l2 i j i1 i2 j1 j2⟩
theorem merge_end {a m e mid s E : Nat} {f g g2 g3 : Nat → Nat} (T : Turn lt a m e mid s E f g) (ha : a ≤ mid) (he : mid ≤ e) (p2 : Per a mid g g2) (s2 : Srt lt a mid g2) (p3 : Per mid e g2 g3) (s3 : Srt lt mid e g3) : Per a e f g3 ∧ Srt lt a e g3 := by
  refine ⟨(T.per.trans (p2.mono (Nat.le_refl _) he)).trans (p3.mono ha (Nat.le_refl _)), ?_⟩
  refine Srt.join (f := g) (s2.same (fun k k1 k2 => p3.1 k (by omega))) s3 (fun k k1 k2 => ?_) (fun k k1 k2 => ?_) T.x
  · rw [p3.1 k (by omega)]; exact p2.2.1 k k1 k2
  · obtain ⟨j, j1, j2, ej⟩ := p3.2.1 k k1 k2
    exact ⟨j, j1, j2, by rw [ej, p2.1 j (by omega)]⟩
theorem Per.less {a e n : Nat} {f g : Nat → Nat} (p : Per a e f g) (he : e ≤ n) (h : ∀ k, k < n → f k < n) : ∀ k, k < n → g k < n := fun k hk => by
  by_cases c : a ≤ k ∧ k < e
  · obtain ⟨j, j1, j2, ej⟩ := p.2.1 k c.1 c.2
    rw [ej]; exact h j (by omega)
  · rw [p.1 k c]; exact h k hk
end St
end Go.Proofs.Ytlmibdddfjbbdaa

namespace Go.Proofs.Ytlmibdddfjbbdaa
open Go.RowKit
set_option linter.unusedVariables false
namespace St

theorem bl_irr : ∀ x : List UInt8, Op.bytesLess x x = false
  | [] => by simp [Op.bytesLess]
  | a :: x => by simp [Op.bytesLess, bl_irr x]
theorem bl_trans : ∀ x y z : List UInt8, Op.bytesLess x y = true → Op.bytesLess y z = true → Op.bytesLess x z = true
  | [], [], z, h, _ => by simp [Op.bytesLess] at h
  | [], b :: y, [], _, h => by simp [Op.bytesLess] at h
  | [], b :: y, c :: z, _, _ => by simp [Op.bytesLess]
  | a :: x, [], z, h, _ => by simp [Op.bytesLess] at h
  | a :: x, b :: y, [], _, h => by simp [Op.bytesLess] at h
  | a :: x, b :: y, c :: z, h1, h2 => by
    simp only [Op.bytesLess, Bool.or_eq_true, Bool.and_eq_true, decide_eq_true_eq, beq_iff_eq] at h1 h2 ⊢
    rcases h1 with h1 | ⟨rfl, h1⟩
    · rcases h2 with h2 | ⟨rfl, h2⟩
      · exact .inl (UInt8.lt_trans h1 h2)
      · exact .inl h1
    · rcases h2 with h2 | ⟨rfl, h2⟩
      · exact .inl h2
      · exact .inr ⟨rfl, bl_trans x y z h1 h2⟩
theorem bl_tri : ∀ x y : List UInt8, Op.bytesLess x y = true ∨ x = y ∨ Op.bytesLess y x = true
  | [], [] => .inr (.inl rfl)
  | [], b :: y => .inl (by simp [Op.bytesLess])
  | a :: x, [] => .inr (.inr (by simp [Op.bytesLess]))
  | a :: x, b :: y => by
    simp only [Op.bytesLess, Bool.or_eq_true, Bool.and_eq_true, decide_eq_true_eq, beq_iff_eq]
    have hl : a.toNat < b.toNat ∨ a.toNat = b.toNat ∨ b.toNat < a.toNat := by omega
    rcases hl with h | h | h
    · exact .inl (.inl h)
    · have : a = b := UInt8.toNat_inj.1 h
      subst this
      rcases bl_tri x y with h | h | h
      · exact .inl (.inr ⟨rfl, h⟩)
      · exact .inr (.inl (by rw [h]))
      · exact .inr (.inr (.inr ⟨rfl, h⟩))
    · exact .inr (.inr (.inl h))

def kl (ks : List ByteArray) (p : Nat) : List UInt8 := (ks.getD p ByteArray.empty).toList
def R (ks : List ByteArray) (p q : Nat) : Prop := Op.bytesLess (kl ks p) (kl ks q) = true
theorem R.ne {ks : List ByteArray} {p q : Nat} (h : R ks p q) : kl ks p ≠ kl ks q := fun e => by unfold R at h; rw [e, bl_irr] at h; cases h
theorem R.asymm {ks : List ByteArray} {p q : Nat} (h : R ks p q) (h' : R ks q p) : False := by
  have := bl_trans _ _ _ h h'; rw [bl_irr] at this; cases this
theorem R.trans {ks : List ByteArray} {p q r : Nat} (h : R ks p q) (h' : R ks q r) : R ks p r := bl_trans _ _ _ h h'

/-- A place goes in among those that stand. -/
def insP (ks : List ByteArray) : List Nat → Nat → List Nat
  | [], p => [p]
  | q :: r, p => if Op.bytesLess (kl ks q) (kl ks p) = true then q :: insP ks r p else if kl ks q = kl ks p then p :: r else p :: q :: r
def stand (ks : List ByteArray) : Nat → List Nat
  | 0 => []
  | k + 1 => insP ks (stand ks k) k

theorem insP_mem (ks : List ByteArray) (L : List Nat) (p : Nat) (h : L.Pairwise (R ks)) : ∀ x, x ∈ insP ks L p ↔ x = p ∨ (x ∈ L ∧ kl ks x ≠ kl ks p) := by
  induction L with
  | nil => intro x; simp [insP]
  | cons q r ih =>
    intro x
    have hq := (List.pairwise_cons.1 h).1
    have hr := (List.pairwise_cons.1 h).2
    unfold insP
    by_cases c1 : Op.bytesLess (kl ks q) (kl ks p) = true
    · have hne := R.ne (ks := ks) (p := q) (q := p) c1
      rw [if_pos c1, List.mem_cons, ih hr x, List.mem_cons]
      constructor
      · rintro (rfl | rfl | ⟨h1, h2⟩)
        · exact .inr ⟨.inl rfl, hne⟩
        · exact .inl rfl
        · exact .inr ⟨.inr h1, h2⟩
      · rintro (rfl | ⟨rfl | h1, h2⟩)
        · exact .inr (.inl rfl)
        · exact .inl rfl
        · exact .inr (.inr ⟨h1, h2⟩)
    rw [if_neg c1]
    by_cases c2 : kl ks q = kl ks p
    · rw [if_pos c2, List.mem_cons, List.mem_cons]
      constructor
      · rintro (rfl | h1)
        · exact .inl rfl
        · exact .inr ⟨.inr h1, fun e => (hq x h1).ne (by rw [c2, e])⟩
      · rintro (rfl | ⟨rfl | h1, h2⟩)
        · exact .inl rfl
        · exact absurd c2 h2
        · exact .inr h1
    · rw [if_neg c2, List.mem_cons]
      have hpq : R ks p q := by
        rcases bl_tri (kl ks q) (kl ks p) with e | e | e
        · exact absurd e c1
        · exact absurd e c2
        · exact e
      constructor
      · rintro (rfl | h1)
        · exact .inl rfl
        · refine .inr ⟨h1, ?_⟩
          rcases List.mem_cons.1 h1 with rfl | h1
          · exact c2
          · exact fun e => (hpq.trans (hq x h1)).ne e.symm
      · rintro (rfl | ⟨h1, h2⟩)
        · exact .inl rfl
        · exact .inr h1
theorem insP_pw (ks : List ByteArray) (L : List Nat) (p : Nat) (h : L.Pairwise (R ks)) : (insP ks L p).Pairwise (R ks) := by
  induction L with
  | nil => simp [insP]
  | cons q r ih =>
    have hq := (List.pairwise_cons.1 h).1
    have hr := (List.pairwise_cons.1 h).2
    unfold insP
    by_cases c1 : Op.bytesLess (kl ks q) (kl ks p) = true
    · rw [if_pos c1]
      refine List.pairwise_cons.2 ⟨fun x hx => ?_, ih hr⟩
      rcases (insP_mem ks r p hr x).1 hx with rfl | ⟨h1, _⟩
      · exact c1
      · exact hq x h1
    rw [if_neg c1]
    by_cases c2 : kl ks q = kl ks p
    · rw [if_pos c2]
      refine List.pairwise_cons.2 ⟨fun x hx => ?_, hr⟩
      have := hq x hx
      unfold R at this ⊢
      rwa [← c2]
    · rw [if_neg c2]
      have hpq : R ks p q := by
        rcases bl_tri (kl ks q) (kl ks p) with e | e | e
        · exact absurd e c1
        · exact absurd e c2
        · exact e
      refine List.pairwise_cons.2 ⟨fun x hx => ?_, h⟩
      rcases List.mem_cons.1 hx with rfl | hx
      · exact hpq
      · exact hpq.trans (hq x hx)
theorem stand_pw (ks : List ByteArray) : ∀ k, (stand ks k).Pairwise (R ks)
  | 0 => List.Pairwise.nil
  | k + 1 => insP_pw ks _ k (stand_pw ks k)
theorem stand_mem (ks : List ByteArray) : ∀ k x, x ∈ stand ks k ↔ x < k ∧ ∀ q, x < q → q < k → kl ks q ≠ kl ks x
  | 0, x => by simp [stand]
  | k + 1, x => by
    unfold stand
    rw [insP_mem ks _ k (stand_pw ks k) x, stand_mem ks k x]
    constructor
    · rintro (rfl | ⟨⟨h1, h2⟩, h3⟩)
      · exact ⟨by omega, fun q q1 q2 => by omega⟩
      · refine ⟨by omega, fun q q1 q2 => ?_⟩
        by_cases e : q = k
        · rw [e]; exact fun e => h3 e.symm
        · exact h2 q q1 (by omega)
    · rintro ⟨h1, h2⟩
      by_cases e : x = k
      · exact .inl e
      · exact .inr ⟨⟨by omega, fun q q1 q2 => h2 q q1 (by omega)⟩, fun e' => h2 k (by omega) (by omega) e'.symm⟩
theorem pw_ext {ks : List ByteArray} : ∀ L L' : List Nat, L.Pairwise (R ks) → L'.Pairwise (R ks) → (∀ x, x ∈ L ↔ x ∈ L') → L = L'
  | [], [], _, _, _ => rfl
  | [], b :: r, _, _, h => absurd ((h b).2 (by simp)) (by simp)
  | a :: r, [], _, _, h => absurd ((h a).1 (by simp)) (by simp)
  | a :: r, b :: r', h1, h2, h => by
    obtain ⟨a1, a2⟩ := List.pairwise_cons.1 h1
    obtain ⟨b1, b2⟩ := List.pairwise_cons.1 h2
    have e : a = b := by
      rcases List.mem_cons.1 ((h a).1 (by simp)) with e | e
      · exact e
      · rcases List.mem_cons.1 ((h b).2 (by simp)) with e' | e'
        · exact e'.symm
        · exact (R.asymm (b1 a e) (a1 b e')).elim
    subst e
    congr 1
    refine pw_ext r r' a2 b2 fun x => ⟨fun hx => ?_, fun hx => ?_⟩
    · rcases List.mem_cons.1 ((h x).1 (List.mem_cons_of_mem _ hx)) with e | e
      · subst e; exact absurd rfl (a1 x hx).ne
      · exact e
    · rcases List.mem_cons.1 ((h x).2 (List.mem_cons_of_mem _ hx)) with e | e
      · subst e; exact absurd rfl (b1 x hx).ne
      · exact e

/-- The order in which places are sorted: by keys, and of one key as they came. -/
def plt (ks : List ByteArray) (x y : Nat) : Prop := R ks x y ∨ (kl ks x = kl ks y ∧ x < y)
def ptest (ks : List ByteArray) (x y : Nat) : Bool := Op.bytesLess (kl ks x) (kl ks y)
theorem pord (ks : List ByteArray) : Ord (plt ks) (ptest ks) where
  trans := by
    rintro x y z (h1 | ⟨h1, h1'⟩) (h2 | ⟨h2, h2'⟩)
    · exact .inl (h1.trans h2)
    · exact .inl (by unfold R at *; rwa [← h2])
    · exact .inl (by unfold R at *; rwa [h1])
    · exact .inr ⟨h1.trans h2, by omega⟩
  left := by
    rintro x y z (h1 | ⟨h1, h1'⟩) h2
    · exact R.trans (ks := ks) (q := y) h1 h2
    · unfold ptest at *; rwa [h1]
  right := by
    rintro x y z h2 (h1 | ⟨h1, h1'⟩)
    · exact R.trans (ks := ks) (q := x) h2 h1
    · unfold ptest at *; rwa [← h1]
  yes := fun h => .inl h
  no := by
    intro x y h1 h2
    rcases bl_tri (kl ks x) (kl ks y) with e | e | e
    · exact .inl e
    · exact .inr ⟨e, h2⟩
    · unfold ptest at h1; rw [h1] at e; cases e

/-- Of a sorted row the last place of each key: those of the first k. -/
def keep (ks : List ByteArray) (n : Nat) (f : Nat → Nat) (i : Nat) : Bool := decide (i + 1 = n) || !(kl ks (f i) == kl ks (f (i + 1)))
def kept (ks : List ByteArray) (n : Nat) (f : Nat → Nat) : Nat → List Nat
  | 0 => []
  | k + 1 => if keep ks n f k = true then kept ks n f k ++ [f k] else kept ks n f k
theorem kept_mem (ks : List ByteArray) (n : Nat) (f : Nat → Nat) : ∀ k x, x ∈ kept ks n f k ↔ ∃ i, i < k ∧ keep ks n f i = true ∧ f i = x
  | 0, x => by simp [kept]
  | k + 1, x => by
    unfold kept
    by_cases c : keep ks n f k = true
    · rw [if_pos c, List.mem_append, kept_mem ks n f k x]
      constructor
      · rintro (⟨i, h1, h2, h3⟩ | h)
        · exact ⟨i, by omega, h2, h3⟩
        · exact ⟨k, by omega, c, (List.mem_singleton.1 h).symm⟩
      · rintro ⟨i, h1, h2, h3⟩
        by_cases e : i = k
        · subst e; exact .inr (List.mem_singleton.2 h3.symm)
        · exact .inl ⟨i, by omega, h2, h3⟩
    · rw [if_neg c, kept_mem ks n f k x]
      constructor
      · rintro ⟨i, h1, h2, h3⟩
        exact ⟨i, by omega, h2, h3⟩
      · rintro ⟨i, h1, h2, h3⟩
        by_cases e : i = k
        · subst e; exact absurd h2 c
        · exact ⟨i, by omega, h2, h3⟩
theorem plt_le {ks : List ByteArray} {x y : Nat} (h : plt ks x y) : R ks x y ∨ kl ks x = kl ks y := by
  rcases h with h | h
  · exact .inl h
  · exact .inr h.1
theorem keep_strict {ks : List ByteArray} {n : Nat} {f : Nat → Nat} (hs : Srt (plt ks) 0 n f) {i j : Nat} (hij : i < j) (hj : j < n) (hk : keep ks n f i = true) : R ks (f i) (f j) := by
  have h1 : plt ks (f i) (f (i + 1)) := hs i (i + 1) (by omega) (by omega) (by omega)
  have h2 : R ks (f i) (f (i + 1)) := by
    rcases plt_le h1 with h | h
    · exact h
    · unfold keep at hk
      have : (decide (i + 1 = n)) = false := decide_eq_false (by omega)
      rw [this, h] at hk
      simp at hk
  by_cases e : i + 1 = j
  · rw [← e]; exact h2
  · rcases plt_le (hs (i + 1) j (by omega) (by omega) hj) with h | h
    · exact h2.trans h
    · unfold R at *; rwa [← h]
theorem kept_pw (ks : List ByteArray) (n : Nat) (f : Nat → Nat) (hs : Srt (plt ks) 0 n f) : ∀ k, k ≤ n → (kept ks n f k).Pairwise (R ks)
  | 0, _ => List.Pairwise.nil
  | k + 1, hk => by
    have ih := kept_pw ks n f hs k (by omega)
    unfold kept
    by_cases c : keep ks n f k = true
    · rw [if_pos c]
      refine List.pairwise_append.2 ⟨ih, by simp, fun x hx y hy => ?_⟩
      obtain ⟨i, i1, i2, rfl⟩ := (kept_mem ks n f k x).1 hx
      rw [List.mem_singleton.1 hy]
      exact keep_strict hs i1 (by omega) i2
    · rw [if_neg c]; exact ih
/-- Both ways to tell the members that stand are the same. -/
theorem kept_stand (ks : List ByteArray) (n : Nat) (f : Nat → Nat) (hs : Srt (plt ks) 0 n f) (hp : Per 0 n (fun k => k) f) : kept ks n f n = stand ks n := by
  refine pw_ext _ _ (kept_pw ks n f hs n (Nat.le_refl _)) (stand_pw ks n) fun x => ?_
  rw [kept_mem, stand_mem]
  constructor
  · rintro ⟨i, h1, h2, rfl⟩
    obtain ⟨j, j1, j2, e⟩ := hp.2.1 i (by omega) h1
    refine ⟨by rw [e]; exact j2, fun q q1 q2 he => ?_⟩
    obtain ⟨k, k1, k2, e'⟩ := hp.2.2 q (by omega) q2
    have e'' : f k = q := e'
    rw [← e''] at he q1
    by_cases c : i < k
    · exact (keep_strict hs c k2 h2).ne he.symm
    by_cases c2 : i = k
    · subst c2; omega
    · rcases hs k i (by omega) (by omega) h1 with h | h
      · exact h.ne he
      · omega
  · rintro ⟨h1, h2⟩
    obtain ⟨i, i1, i2, e⟩ := hp.2.2 x (by omega) h1
    have e' : f i = x := e
    refine ⟨i, i2, ?_, e'⟩
    unfold keep
    by_cases c : i + 1 = n
    · simp [c]
    · have hlt := hs i (i + 1) (by omega) (by omega) (by omega)
      simp only [Bool.or_eq_true, decide_eq_true_eq, Bool.not_eq_true', beq_eq_false_iff_ne]
      right
      intro he
      obtain ⟨j, j1, j2, ej⟩ := hp.2.1 (i + 1) (by omega) (by omega)
      have ej' : f (i + 1) = j := ej
      rcases hlt with h | h
      · exact h.ne he
      · exact h2 (f (i + 1)) (by rw [← e']; exact h.2) (by rw [ej']; exact j2) (by rw [← he, e'])
theorem stand_lt (ks : List ByteArray) (k x : Nat) (h : x ∈ stand ks k) : x < k := ((stand_mem ks k x).1 h).1
theorem insP_length (ks : List ByteArray) (L : List Nat) (p : Nat) : (insP ks L p).length ≤ L.length + 1 := by
  induction L with
  | nil => simp [insP]
  | cons q r ih =>
    unfold insP
    split
    · simp only [List.length_cons]; omega
    · split <;> simp only [List.length_cons] <;> omega
theorem stand_length (ks : List ByteArray) : ∀ k, (stand ks k).length ≤ k
  | 0 => by simp [stand]
  | k + 1 => by
    have := stand_length ks k
    have := insP_length ks (stand ks k) k
    unfold stand
    omega
end St
end Go.Proofs.Ytlmibdddfjbbdaa
