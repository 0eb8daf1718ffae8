/-
  The plain mathematics of the stable sort of places: what swaps, shifts, rotations and merges do to a row of numbers. No word of the program is used here.
-/
import Derived.WalkKit
namespace Go.Proofs.Ytjoghcolfehkcaa
namespace St
set_option linter.unusedVariables false

def sw (f : Nat → Nat) (i j : Nat) : Nat → Nat := fun k => if k = i then f j else if k = j then f i else f k
/-- The places a.. and b.. change what they hold, n of each. -/
def swR (f : Nat → Nat) (a b n : Nat) : Nat → Nat := fun k => if a ≤ k ∧ k < a + n then f (k + (b - a)) else if b ≤ k ∧ k < b + n then f (k - (b - a)) else f k
/-- What lies from m to b comes ahead of what lies from a to m. -/
def rot (f : Nat → Nat) (a m b : Nat) : Nat → Nat := fun k => if a ≤ k ∧ k < a + (b - m) then f (k + (m - a)) else if a + (b - m) ≤ k ∧ k < b then f (k - (b - m)) else f k
/-- What lies at a goes up to the place ahead of i. -/
def up (f : Nat → Nat) (a i : Nat) : Nat → Nat := fun k => if a ≤ k ∧ k + 1 < i then f (k + 1) else if a ≤ k ∧ k + 1 = i then f a else f k
/-- What lies at m goes down to the place i. -/
def dn (f : Nat → Nat) (i m : Nat) : Nat → Nat := fun k => if k = i then f m else if i < k ∧ k ≤ m then f (k - 1) else f k

theorem swR_zero (f : Nat → Nat) (a b : Nat) : swR f a b 0 = f := by
  funext k; unfold swR; rw [if_neg (by omega), if_neg (by omega)]
theorem swR_succ (f : Nat → Nat) (a b n : Nat) (h : a + n < b) : sw (swR f a b n) (a + n) (b + n) = swR f a b (n + 1) := by
  funext k
  unfold sw swR
  by_cases h1 : k = a + n
  · subst h1
    rw [if_pos rfl, if_neg (by omega), if_neg (by omega), if_pos (by omega)]
    congr 1; omega
  · rw [if_neg h1]
    by_cases h2 : k = b + n
    · subst h2
      rw [if_pos rfl, if_neg (by omega), if_neg (by omega), if_neg (by omega), if_pos (by omega)]
      congr 1; omega
    · rw [if_neg h2]
      by_cases h3 : a ≤ k ∧ k < a + n
      · rw [if_pos h3, if_pos (by omega)]
      · rw [if_neg h3, if_neg (show ¬(a ≤ k ∧ k < a + (n + 1)) by omega)]
        by_cases h4 : b ≤ k ∧ k < b + n
        · rw [if_pos h4, if_pos (show b ≤ k ∧ k < b + (n + 1) by omega)]
        · rw [if_neg h4, if_neg (show ¬(b ≤ k ∧ k < b + (n + 1)) by omega)]

theorem rot_none_left (f : Nat → Nat) (m b : Nat) (h : m ≤ b) : rot f m m b = f := by
  funext k; unfold rot
  by_cases h1 : m ≤ k ∧ k < m + (b - m)
  · rw [if_pos h1]; congr 1; omega
  · rw [if_neg h1, if_neg (by omega)]
theorem rot_none_right (f : Nat → Nat) (a m : Nat) : rot f a m m = f := by
  funext k; unfold rot
  rw [if_neg (by omega)]
  by_cases h1 : a + (m - m) ≤ k ∧ k < m
  · rw [if_pos h1]; congr 1; omega
  · rw [if_neg h1]

theorem rot_big (f : Nat → Nat) (m i j : Nat) (hi : i ≤ m) (h : j < i) (hj : 0 < j) : rot (swR f (m - i) m j) (m - (i - j)) m (m + j) = rot f (m - i) m (m + j) := by
  funext k
  unfold rot swR
  by_cases h1 : k < m - i
  · rw [if_neg (by omega), if_neg (by omega), if_neg (by omega), if_neg (by omega), if_neg (by omega), if_neg (by omega)]
  by_cases h2 : m + j ≤ k
  · rw [if_neg (by omega), if_neg (by omega), if_neg (by omega), if_neg (by omega), if_neg (by omega), if_neg (by omega)]
  by_cases h3 : k < m - i + j
  · rw [if_neg (by omega), if_neg (by omega), if_pos (by omega), if_pos (by omega)]
  rw [if_neg (show ¬(m - i ≤ k ∧ k < m - i + (m + j - m)) by omega), if_pos (show m - i + (m + j - m) ≤ k ∧ k < m + j by omega)]
  by_cases h4 : k < m - (i - j) + j
  · rw [if_pos (by omega)]
    rw [if_neg (by omega), if_pos (by omega)]
    congr 1; omega
  · rw [if_neg (by omega), if_pos (by omega), if_neg (by omega), if_neg (by omega)]

theorem rot_small (f : Nat → Nat) (m i j : Nat) (hi : i ≤ m) (h : i < j) (hj : 0 < i) : rot (swR f (m - i) (m + j - i) i) (m - i) m (m + (j - i)) = rot f (m - i) m (m + j) := by
  funext k
  unfold rot swR
  by_cases h1 : k < m - i
  · rw [if_neg (by omega), if_neg (by omega), if_neg (by omega), if_neg (by omega), if_neg (by omega), if_neg (by omega)]
  by_cases h2 : m + j ≤ k
  · rw [if_neg (by omega), if_neg (by omega), if_neg (by omega), if_neg (by omega), if_neg (by omega), if_neg (by omega)]
  by_cases h3 : k < m - i + (j - i)
  · rw [if_pos (by omega), if_pos (show m - i ≤ k ∧ k < m - i + (m + j - m) by omega)]
    rw [if_neg (by omega), if_neg (by omega)]
  by_cases h4 : k < m + (j - i)
  · rw [if_neg (by omega), if_pos (by omega), if_pos (by omega), if_pos (by omega)]
    congr 1; omega
  rw [if_neg (by omega), if_neg (by omega), if_neg (by omega), if_pos (by omega), if_neg (by omega), if_pos (by omega)]
  congr 1; omega

theorem rot_same (f : Nat → Nat) (m i : Nat) (hi : i ≤ m) : swR f (m - i) m i = rot f (m - i) m (m + i) := by
  funext k
  unfold rot swR
  by_cases h1 : m - i ≤ k ∧ k < m - i + i
  · rw [if_pos h1, if_pos (by omega)]
  rw [if_neg h1, if_neg (show ¬(m - i ≤ k ∧ k < m - i + (m + i - m)) by omega)]
  by_cases h2 : m ≤ k ∧ k < m + i
  · rw [if_pos h2, if_pos (show m - i + (m + i - m) ≤ k ∧ k < m + i by omega)]; congr 1; omega
  · rw [if_neg h2, if_neg (show ¬(m - i + (m + i - m) ≤ k ∧ k < m + i) by omega)]

theorem up_one (f : Nat → Nat) (a : Nat) : up f a (a + 1) = f := by
  funext k; unfold up
  rw [if_neg (by omega)]
  by_cases h : a ≤ k ∧ k + 1 = a + 1
  · rw [if_pos h]; congr 1; omega
  · rw [if_neg h]
theorem up_succ (f : Nat → Nat) (a k : Nat) (h : a ≤ k) : sw (up f a (k + 1)) k (k + 1) = up f a (k + 2) := by
  funext q
  unfold sw up
  by_cases h1 : q = k
  · subst h1; rw [if_pos rfl, if_neg (by omega), if_neg (by omega), if_pos (by omega)]
  rw [if_neg h1]
  by_cases h2 : q = k + 1
  · subst h2; rw [if_pos rfl, if_neg (by omega), if_pos (by omega), if_neg (by omega), if_pos (by omega)]
  rw [if_neg h2]
  by_cases h3 : a ≤ q ∧ q + 1 < k + 1
  · rw [if_pos h3, if_pos (by omega)]
  · rw [if_neg h3, if_neg (by omega), if_neg (by omega), if_neg (by omega)]
theorem dn_zero (f : Nat → Nat) (m : Nat) : dn f m m = f := by
  funext k; unfold dn
  by_cases h : k = m
  · rw [if_pos h, h]
  · rw [if_neg h, if_neg (by omega)]
theorem dn_succ (f : Nat → Nat) (i m : Nat) (h : i < m) : sw (dn f (i + 1) m) (i + 1) i = dn f i m := by
  funext q
  unfold sw dn
  by_cases h1 : q = i + 1
  · subst h1; rw [if_pos rfl, if_neg (by omega), if_neg (by omega), if_neg (by omega), if_pos (by omega)]; congr 1
  rw [if_neg h1]
  by_cases h2 : q = i
  · subst h2; rw [if_pos rfl, if_pos rfl, if_pos rfl]
  rw [if_neg h2, if_neg h1, if_neg h2]
  by_cases h3 : i + 1 < q ∧ q ≤ m
  · rw [if_pos h3, if_pos (by omega)]
  · rw [if_neg h3, if_neg (by omega)]

/-- From a to b the same numbers, in whatever order; elsewhere as it was. -/
def Per (a b : Nat) (f g : Nat → Nat) : Prop :=
  (∀ k, ¬ (a ≤ k ∧ k < b) → g k = f k) ∧ (∀ k, a ≤ k → k < b → ∃ j, a ≤ j ∧ j < b ∧ g k = f j) ∧ (∀ j, a ≤ j → j < b → ∃ k, a ≤ k ∧ k < b ∧ g k = f j)

theorem Per.refl (a b : Nat) (f : Nat → Nat) : Per a b f f := ⟨fun _ _ => rfl, fun k h1 h2 => ⟨k, h1, h2, rfl⟩, fun k h1 h2 => ⟨k, h1, h2, rfl⟩⟩
theorem Per.trans {a b : Nat} {f g h : Nat → Nat} (p : Per a b f g) (q : Per a b g h) : Per a b f h := by
  refine ⟨fun k hk => (q.1 k hk).trans (p.1 k hk), fun k h1 h2 => ?_, fun j h1 h2 => ?_⟩
  · obtain ⟨j, j1, j2, e⟩ := q.2.1 k h1 h2
    obtain ⟨i, i1, i2, e'⟩ := p.2.1 j j1 j2
    exact ⟨i, i1, i2, e.trans e'⟩
  · obtain ⟨k, k1, k2, e⟩ := p.2.2 j h1 h2
    obtain ⟨i, i1, i2, e'⟩ := q.2.2 k k1 k2
    exact ⟨i, i1, i2, e'.trans e⟩
theorem Per.mono {a b a' b' : Nat} {f g : Nat → Nat} (p : Per a b f g) (ha : a' ≤ a) (hb : b ≤ b') : Per a' b' f g := by
  refine ⟨fun k hk => p.1 k (by omega), fun k h1 h2 => ?_, fun k h1 h2 => ?_⟩
  · by_cases h : a ≤ k ∧ k < b
    · obtain ⟨j, j1, j2, e⟩ := p.2.1 k h.1 h.2
      exact ⟨j, by omega, by omega, e⟩
    · exact ⟨k, h1, h2, p.1 k h⟩
  · by_cases h : a ≤ k ∧ k < b
    · obtain ⟨j, j1, j2, e⟩ := p.2.2 k h.1 h.2
      exact ⟨j, by omega, by omega, e⟩
    · exact ⟨k, h1, h2, p.1 k h⟩
theorem Per.sw {a b i j : Nat} (f : Nat → Nat) (hi : a ≤ i ∧ i < b) (hj : a ≤ j ∧ j < b) : Per a b f (sw f i j) := by
  refine ⟨fun k hk => ?_, fun k h1 h2 => ?_, fun k h1 h2 => ?_⟩
  · unfold St.sw; rw [if_neg (by omega), if_neg (by omega)]
  · unfold St.sw
    by_cases e1 : k = i
    · exact ⟨j, hj.1, hj.2, by rw [if_pos e1]⟩
    by_cases e2 : k = j
    · exact ⟨i, hi.1, hi.2, by rw [if_neg e1, if_pos e2]⟩
    · exact ⟨k, h1, h2, by rw [if_neg e1, if_neg e2]⟩
  · unfold St.sw
    by_cases e1 : k = i
    · refine ⟨j, hj.1, hj.2, ?_⟩
      by_cases e : j = i
      · rw [if_pos e, e1, e]
      · rw [if_neg e, if_pos rfl, e1]
    by_cases e2 : k = j
    · exact ⟨i, hi.1, hi.2, by rw [if_pos rfl, e2]⟩
    · exact ⟨k, h1, h2, by rw [if_neg e1, if_neg e2]⟩
theorem Per.up {a i : Nat} (f : Nat → Nat) (h : a < i) : Per a i f (up f a i) := by
  refine ⟨fun k hk => ?_, fun k h1 h2 => ?_, fun k h1 h2 => ?_⟩
  · unfold St.up; rw [if_neg (by omega), if_neg (by omega)]
  · unfold St.up
    by_cases e1 : k + 1 < i
    · exact ⟨k + 1, by omega, e1, by rw [if_pos ⟨h1, e1⟩]⟩
    · exact ⟨a, Nat.le_refl _, h, by rw [if_neg (by omega), if_pos (by omega)]⟩
  · unfold St.up
    by_cases e1 : k = a
    · exact ⟨i - 1, by omega, by omega, by rw [if_neg (by omega), if_pos (by omega), e1]⟩
    · exact ⟨k - 1, by omega, by omega, by rw [if_pos (by omega)]; congr 1; omega⟩
theorem Per.dn {i m : Nat} (f : Nat → Nat) (h : i ≤ m) : Per i (m + 1) f (dn f i m) := by
  refine ⟨fun k hk => ?_, fun k h1 h2 => ?_, fun k h1 h2 => ?_⟩
  · unfold St.dn; rw [if_neg (by omega), if_neg (by omega)]
  · unfold St.dn
    by_cases e1 : k = i
    · exact ⟨m, h, by omega, by rw [if_pos e1]⟩
    · exact ⟨k - 1, by omega, by omega, by rw [if_neg e1, if_pos (by omega)]⟩
  · unfold St.dn
    by_cases e1 : k = m
    · exact ⟨i, by omega, by omega, by rw [if_pos rfl, e1]⟩
    · exact ⟨k + 1, by omega, by omega, by rw [if_neg (by omega), if_pos (by omega)]; congr 1⟩
theorem Per.rot {a m b : Nat} (f : Nat → Nat) (h1 : a ≤ m) (h2 : m ≤ b) : Per a b f (rot f a m b) := by
  refine ⟨fun k hk => ?_, fun k h1 h2 => ?_, fun k h1 h2 => ?_⟩
  · unfold St.rot; rw [if_neg (by omega), if_neg (by omega)]
  · unfold St.rot
    by_cases e1 : k < a + (b - m)
    · exact ⟨k + (m - a), by omega, by omega, by rw [if_pos ⟨h1, e1⟩]⟩
    · exact ⟨k - (b - m), by omega, by omega, by rw [if_neg (by omega), if_pos (by omega)]⟩
  · unfold St.rot
    by_cases e1 : k < m
    · exact ⟨k + (b - m), by omega, by omega, by rw [if_neg (by omega), if_pos (by omega)]; congr 1; omega⟩
    · exact ⟨k - (m - a), by omega, by omega, by rw [if_pos (by omega)]; congr 1; omega⟩

/-- An order of places: lt is strict; the test tells it of two places of which one came first. -/
structure Ord (lt : Nat → Nat → Prop) (t : Nat → Nat → Bool) : Prop where
  trans : ∀ {x y z}, lt x y → lt y z → lt x z
  left : ∀ {x y z}, lt x y → t y z = true → t x z = true
  right : ∀ {x y z}, t z x = true → lt x y → t z y = true
  yes : ∀ {x y}, t x y = true → lt x y
  no : ∀ {x y}, t y x = false → x < y → lt x y

def Srt (lt : Nat → Nat → Prop) (a b : Nat) (f : Nat → Nat) : Prop := ∀ i j, a ≤ i → i < j → j < b → lt (f i) (f j)
def Lo (a m b : Nat) (f : Nat → Nat) : Prop := ∀ i j, a ≤ i → i < m → m ≤ j → j < b → f i < f j
/-- The numbers from a to b are numbers from a to b. -/
def In (a b : Nat) (f : Nat → Nat) : Prop := ∀ k, a ≤ k → k < b → a ≤ f k ∧ f k < b

theorem In.per {a b : Nat} {f g : Nat → Nat} (h : In a b f) (p : Per a b f g) : In a b g := fun k h1 h2 => by
  obtain ⟨j, j1, j2, e⟩ := p.2.1 k h1 h2
  rw [e]; exact h j j1 j2
theorem In.join {a m b : Nat} {f : Nat → Nat} (h1 : In a m f) (h2 : In m b f) (ha : a ≤ m) (hb : m ≤ b) : In a b f ∧ Lo a m b f := by
  refine ⟨fun k k1 k2 => ?_, fun i j i1 i2 j1 j2 => ?_⟩
  · by_cases h : k < m
    · have := h1 k k1 h; omega
    · have := h2 k (by omega) k2; omega
  · have := h1 i i1 i2; have := h2 j j1 j2; omega

variable {lt : Nat → Nat → Prop} {t : Nat → Nat → Bool}

theorem Srt.part {a b a' b' : Nat} {f : Nat → Nat} (h : Srt lt a b f) (h1 : a ≤ a') (h2 : b' ≤ b) : Srt lt a' b' f := fun i j i1 i2 i3 => h i j (by omega) i2 (by omega)
theorem Srt.same {a b : Nat} {f g : Nat → Nat} (h : Srt lt a b f) (e : ∀ k, a ≤ k → k < b → g k = f k) : Srt lt a b g := fun i j i1 i2 i3 => by rw [e i i1 (by omega), e j (by omega) i3]; exact h i j i1 i2 i3
theorem Srt.one {a b : Nat} (f : Nat → Nat) (h : b ≤ a + 1) : Srt lt a b f := fun i j i1 i2 i3 => by omega
/-- Two halves, each in order, the one ahead of the other. -/
theorem Srt.join {a m b : Nat} {f g : Nat → Nat} (h1 : Srt lt a m g) (h2 : Srt lt m b g) (p : ∀ k, a ≤ k → k < m → ∃ j, a ≤ j ∧ j < m ∧ g k = f j) (q : ∀ k, m ≤ k → k < b → ∃ j, m ≤ j ∧ j < b ∧ g k = f j) (x : ∀ i j, a ≤ i → i < m → m ≤ j → j < b → lt (f i) (f j)) : Srt lt a b g := fun i j i1 i2 i3 => by
  by_cases c1 : j < m
  · exact h1 i j i1 i2 c1
  by_cases c2 : i < m
  · obtain ⟨i', a1, a2, e1⟩ := p i i1 c2
    obtain ⟨j', b1, b2, e2⟩ := q j (by omega) i3
    rw [e1, e2]; exact x i' j' a1 a2 b1 b2
  · exact h2 i j (by omega) i2 i3

/-- One on the left goes up. -/
theorem up_sorted (O : Ord lt t) {a b i : Nat} {f : Nat → Nat} (hs : Srt lt (a + 1) b f) (hlo : Lo a (a + 1) b f) (hi1 : a + 1 ≤ i) (hib : i ≤ b) (hl : ∀ h, a + 1 ≤ h → h < i → t (f h) (f a) = true) (hr : ∀ h, i ≤ h → h < b → t (f h) (f a) = false) : Srt lt a b (up f a i) := by
  intro p q h1 h2 h3
  unfold up
  by_cases c1 : p + 1 < i
  · rw [if_pos ⟨h1, c1⟩]
    by_cases c2 : q + 1 < i
    · rw [if_pos (by omega)]; exact hs _ _ (by omega) (by omega) (by omega)
    by_cases c3 : q + 1 = i
    · rw [if_neg (by omega), if_pos (by omega)]; exact O.yes (hl _ (by omega) c1)
    · rw [if_neg (by omega), if_neg (by omega)]; exact hs _ _ (by omega) (by omega) h3
  rw [if_neg (show ¬(a ≤ p ∧ p + 1 < i) by omega)]
  rw [if_neg (show ¬(a ≤ q ∧ q + 1 < i) by omega), if_neg (show ¬(a ≤ q ∧ q + 1 = i) by omega)]
  by_cases c4 : p + 1 = i
  · rw [if_pos (by omega)]
    exact O.no (hr q (by omega) h3) (hlo a q (by omega) (by omega) (by omega) h3)
  · rw [if_neg (by omega)]; exact hs _ _ (by omega) h2 h3
/-- One on the right goes down. -/
theorem dn_sorted (O : Ord lt t) {a m i : Nat} {f : Nat → Nat} (hs : Srt lt a m f) (hlo : Lo a m (m + 1) f) (hia : a ≤ i) (him : i ≤ m) (hl : ∀ h, a ≤ h → h < i → t (f m) (f h) = false) (hr : ∀ h, i ≤ h → h < m → t (f m) (f h) = true) : Srt lt a (m + 1) (dn f i m) := by
  intro p q h1 h2 h3
  unfold dn
  by_cases c1 : p = i
  · rw [if_pos c1, if_neg (by omega), if_pos (by omega)]
    exact O.yes (hr _ (by omega) (by omega))
  rw [if_neg c1]
  by_cases c2 : i < p
  · rw [if_pos (by omega), if_neg (by omega), if_pos (by omega)]
    exact hs _ _ (by omega) (by omega) (by omega)
  rw [if_neg (by omega)]
  by_cases c3 : q = i
  · rw [if_pos c3]; exact O.no (hl _ h1 (by omega)) (hlo _ _ h1 (by omega) (by omega) (by omega))
  rw [if_neg c3]
  by_cases c4 : i < q
  · rw [if_pos (by omega)]; exact hs _ _ h1 (by omega) (by omega)
  · rw [if_neg (by omega)]; exact hs _ _ h1 h2 (by omega)

/-- The middle of a merge: what the search has found, and what the turn then leaves. -/
theorem mid_turn (O : Ord lt t) {a m b mid s e : Nat} {f : Nat → Nat} (hl : Srt lt a m f) (hr : Srt lt m b f) (hlo : Lo a m b f) (hmid : a ≤ mid ∧ mid ≤ b) (hs1 : a ≤ s) (hs2 : s ≤ m) (hs3 : s ≤ mid) (he : e + s = mid + m) (he1 : m ≤ e) (he2 : e ≤ b)
    (hno : a < s → e < b → t (f e) (f (s - 1)) = false) (hyes : s < m → m < e → t (f (e - 1)) (f s) = true) :
    Srt lt a s (rot f s m e) ∧ Srt lt s mid (rot f s m e) ∧ Lo a s mid (rot f s m e) ∧ Srt lt mid e (rot f s m e) ∧ Srt lt e b (rot f s m e) ∧ Lo mid e b (rot f s m e) ∧ ∀ i j, a ≤ i → i < mid → mid ≤ j → j < b → lt (rot f s m e i) (rot f s m e j) := by
  have A : ∀ k, k < s → rot f s m e k = f k := fun k hk => by unfold rot; rw [if_neg (by omega), if_neg (by omega)]
  have B : ∀ k, s ≤ k → k < mid → rot f s m e k = f (k + (m - s)) := fun k h1 h2 => by unfold rot; rw [if_pos (by omega)]
  have C : ∀ k, mid ≤ k → k < e → rot f s m e k = f (k - (e - m)) := fun k h1 h2 => by unfold rot; rw [if_neg (by omega), if_pos (by omega)]
  have D : ∀ k, e ≤ k → rot f s m e k = f k := fun k hk => by unfold rot; rw [if_neg (by omega), if_neg (by omega)]
  have hem : mid ≤ e := by omega
  refine ⟨fun i j h1 h2 h3 => ?_, fun i j h1 h2 h3 => ?_, fun i j h1 h2 h3 h4 => ?_, fun i j h1 h2 h3 => ?_, fun i j h1 h2 h3 => ?_, fun i j h1 h2 h3 h4 => ?_, fun i j h1 h2 h3 h4 => ?_⟩
  · rw [A i (by omega), A j h3]; exact hl i j h1 h2 (by omega)
  · rw [B i h1 (by omega), B j (by omega) h3]; exact hr _ _ (by omega) (by omega) (by omega)
  · rw [A i h2, B j h3 h4]; exact hlo _ _ h1 (by omega) (by omega) (by omega)
  · rw [C i h1 (by omega), C j (by omega) h3]; exact hl _ _ (by omega) (by omega) (by omega)
  · rw [D i h1, D j (by omega)]; exact hr _ _ (by omega) h2 h3
  · rw [C i h1 h2, D j h3]; exact hlo _ _ (by omega) (by omega) (by omega) h4
  · by_cases c1 : i < s
    · rw [A i c1]
      by_cases c2 : j < e
      · rw [C j h3 c2]; exact hl _ _ h1 (by omega) (by omega)
      · rw [D j (by omega)]
        have h5 : lt (f (s - 1)) (f e) := O.no (hno (by omega) (by omega)) (hlo _ _ (by omega) (by omega) (by omega) (by omega))
        have h6 : lt (f i) (f e) := by
          by_cases c3 : i = s - 1
          · rw [c3]; exact h5
          · exact O.trans (hl i (s - 1) h1 (by omega) (by omega)) h5
        by_cases c4 : j = e
        · rw [c4]; exact h6
        · exact O.trans h6 (hr e j (by omega) (by omega) h4)
    · rw [B i (by omega) h2]
      by_cases c2 : j < e
      · rw [C j h3 c2]
        have h5 : lt (f (e - 1)) (f s) := O.yes (hyes (by omega) (by omega))
        have h6 : lt (f (i + (m - s))) (f s) := by
          by_cases c3 : i + (m - s) = e - 1
          · rw [c3]; exact h5
          · exact O.trans (hr _ _ (by omega) (by omega) (by omega)) h5
        by_cases c4 : j - (e - m) = s
        · rw [c4]; exact h6
        · exact O.trans h6 (hl _ _ (by omega) (by omega) (by omega))
      · rw [D j (by omega)]; exact hr _ _ (by omega) (by omega) h4

end St
end Go.Proofs.Ytjoghcolfehkcaa
