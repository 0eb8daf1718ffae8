/-
  The members of an object: which places stand, in the order of keys; told once as places put in one by one, and once as a sorted row of places of which the last of each key is kept. No word of the program is used here.
-/
import Derived.Test.YtjoghcolfehkcaaStabN
import Derived.WalkKit
namespace Go.Proofs.Ytjoghcolfehkcaa
open Go.RowKit
set_option linter.unusedVariables false
namespace St

theorem bl_irr : ∀ x : List UInt8, Op.bytesLess x x = false
  | [] => by simp [Op.bytesLess]
  | a :: x => by simp [Op.bytesLess, bl_irr x]
theorem bl_trans : ∀ x y z : List UInt8, Op.bytesLess x y = true → Op.bytesLess y z = true → Op.bytesLess x z = true
  | [], [], z, h, _ => by simp [Op.bytesLess] at h
  | [], b :: y, [], _, h => by simp [Op.bytesLess] at h
  | [], b :: y, c :: z, _, _ => by simp [Op.bytesLess]
  | a :: x, [], z, h, _ => by simp [Op.bytesLess] at h
  | a :: x, b :: y, [], _, h => by simp [Op.bytesLess] at h
  | a :: x, b :: y, c :: z, h1, h2 => by
    simp only [Op.bytesLess, Bool.or_eq_true, Bool.and_eq_true, decide_eq_true_eq, beq_iff_eq] at h1 h2 ⊢
    rcases h1 with h1 | ⟨rfl, h1⟩
    · rcases h2 with h2 | ⟨rfl, h2⟩
      · exact .inl (UInt8.lt_trans h1 h2)
      · exact .inl h1
    · rcases h2 with h2 | ⟨rfl, h2⟩
      · exact .inl h2
      · exact .inr ⟨rfl, bl_trans x y z h1 h2⟩
theorem bl_tri : ∀ x y : List UInt8, Op.bytesLess x y = true ∨ x = y ∨ Op.bytesLess y x = true
  | [], [] => .inr (.inl rfl)
  | [], b :: y => .inl (by simp [Op.bytesLess])
  | a :: x, [] => .inr (.inr (by simp [Op.bytesLess]))
  | a :: x, b :: y => by
    simp only [Op.bytesLess, Bool.or_eq_true, Bool.and_eq_true, decide_eq_true_eq, beq_iff_eq]
    have hl : a.toNat < b.toNat ∨ a.toNat = b.toNat ∨ b.toNat < a.toNat := by omega
    rcases hl with h | h | h
    · exact .inl (.inl h)
    · have : a = b := UInt8.toNat_inj.1 h
      subst this
      rcases bl_tri x y with h | h | h
      · exact .inl (.inr ⟨rfl, h⟩)
      · exact .inr (.inl (by rw [h]))
      · exact .inr (.inr (.inr ⟨rfl, h⟩))
    · exact .inr (.inr (.inl h))

def kl (ks : List ByteArray) (p : Nat) : List UInt8 := (ks.getD p ByteArray.empty).toList
def R (ks : List ByteArray) (p q : Nat) : Prop := Op.bytesLess (kl ks p) (kl ks q) = true
theorem R.ne {ks : List ByteArray} {p q : Nat} (h : R ks p q) : kl ks p ≠ kl ks q := fun e => by unfold R at h; rw [e, bl_irr] at h; cases h
theorem R.asymm {ks : List ByteArray} {p q : Nat} (h : R ks p q) (h' : R ks q p) : False := by
  have := bl_trans _ _ _ h h'; rw [bl_irr] at this; cases this
theorem R.trans {ks : List ByteArray} {p q r : Nat} (h : R ks p q) (h' : R ks q r) : R ks p r := bl_trans _ _ _ h h'

/-- A place goes in among those that stand. -/
def insP (ks : List ByteArray) : List Nat → Nat → List Nat
  | [], p => [p]
  | q :: r, p => if Op.bytesLess (kl ks q) (kl ks p) = true then q :: insP ks r p else if kl ks q = kl ks p then p :: r else p :: q :: r
def stand (ks : List ByteArray) : Nat → List Nat
  | 0 => []
  | k + 1 => insP ks (stand ks k) k

theorem insP_mem (ks : List ByteArray) (L : List Nat) (p : Nat) (h : L.Pairwise (R ks)) : ∀ x, x ∈ insP ks L p ↔ x = p ∨ (x ∈ L ∧ kl ks x ≠ kl ks p) := by
  induction L with
  | nil => intro x; simp [insP]
  | cons q r ih =>
    intro x
    have hq := (List.pairwise_cons.1 h).1
    have hr := (List.pairwise_cons.1 h).2
    unfold insP
    by_cases c1 : Op.bytesLess (kl ks q) (kl ks p) = true
    · have hne := R.ne (ks := ks) (p := q) (q := p) c1
      rw [if_pos c1, List.mem_cons, ih hr x, List.mem_cons]
      constructor
      · rintro (rfl | rfl | ⟨h1, h2⟩)
        · exact .inr ⟨.inl rfl, hne⟩
        · exact .inl rfl
        · exact .inr ⟨.inr h1, h2⟩
      · rintro (rfl | ⟨rfl | h1, h2⟩)
        · exact .inr (.inl rfl)
        · exact .inl rfl
        · exact .inr (.inr ⟨h1, h2⟩)
    rw [if_neg c1]
    by_cases c2 : kl ks q = kl ks p
    · rw [if_pos c2, List.mem_cons, List.mem_cons]
      constructor
      · rintro (rfl | h1)
        · exact .inl rfl
        · exact .inr ⟨.inr h1, fun e => (hq x h1).ne (by rw [c2, e])⟩
      · rintro (rfl | ⟨rfl | h1, h2⟩)
        · exact .inl rfl
        · exact absurd c2 h2
        · exact .inr h1
    · rw [if_neg c2, List.mem_cons]
      have hpq : R ks p q := by
        rcases bl_tri (kl ks q) (kl ks p) with e | e | e
        · exact absurd e c1
        · exact absurd e c2
        · exact e
      constructor
      · rintro (rfl | h1)
        · exact .inl rfl
        · refine .inr ⟨h1, ?_⟩
          rcases List.mem_cons.1 h1 with rfl | h1
          · exact c2
          · exact fun e => (hpq.trans (hq x h1)).ne e.symm
      · rintro (rfl | ⟨h1, h2⟩)
        · exact .inl rfl
        · exact .inr h1
theorem insP_pw (ks : List ByteArray) (L : List Nat) (p : Nat) (h : L.Pairwise (R ks)) : (insP ks L p).Pairwise (R ks) := by
  induction L with
  | nil => simp [insP]
  | cons q r ih =>
    have hq := (List.pairwise_cons.1 h).1
    have hr := (List.pairwise_cons.1 h).2
    unfold insP
    by_cases c1 : Op.bytesLess (kl ks q) (kl ks p) = true
    · rw [if_pos c1]
      refine List.pairwise_cons.2 ⟨fun x hx => ?_, ih hr⟩
      rcases (insP_mem ks r p hr x).1 hx with rfl | ⟨h1, _⟩
      · exact c1
      · exact hq x h1
    rw [if_neg c1]
    by_cases c2 : kl ks q = kl ks p
    · rw [if_pos c2]
      refine List.pairwise_cons.2 ⟨fun x hx => ?_, hr⟩
      have := hq x hx
      unfold R at this ⊢
      rwa [← c2]
    · rw [if_neg c2]
      have hpq : R ks p q := by
        rcases bl_tri (kl ks q) (kl ks p) with e | e | e
        · exact absurd e c1
        · exact absurd e c2
        · exact e
      refine List.pairwise_cons.2 ⟨fun x hx => ?_, h⟩
      rcases List.mem_cons.1 hx with rfl | hx
      · exact hpq
      · exact hpq.trans (hq x hx)
theorem stand_pw (ks : List ByteArray) : ∀ k, (stand ks k).Pairwise (R ks)
  | 0 => List.Pairwise.nil
  | k + 1 => insP_pw ks _ k (stand_pw ks k)
theorem stand_mem (ks : List ByteArray) : ∀ k x, x ∈ stand ks k ↔ x < k ∧ ∀ q, x < q → q < k → kl ks q ≠ kl ks x
  | 0, x => by simp [stand]
  | k + 1, x => by
    unfold stand
    rw [insP_mem ks _ k (stand_pw ks k) x, stand_mem ks k x]
    constructor
    · rintro (rfl | ⟨⟨h1, h2⟩, h3⟩)
      · exact ⟨by omega, fun q q1 q2 => by omega⟩
      · refine ⟨by omega, fun q q1 q2 => ?_⟩
        by_cases e : q = k
        · rw [e]; exact fun e => h3 e.symm
        · exact h2 q q1 (by omega)
    · rintro ⟨h1, h2⟩
      by_cases e : x = k
      · exact .inl e
      · exact .inr ⟨⟨by omega, fun q q1 q2 => h2 q q1 (by omega)⟩, fun e' => h2 k (by omega) (by omega) e'.symm⟩
theorem pw_ext {ks : List ByteArray} : ∀ L L' : List Nat, L.Pairwise (R ks) → L'.Pairwise (R ks) → (∀ x, x ∈ L ↔ x ∈ L') → L = L'
  | [], [], _, _, _ => rfl
  | [], b :: r, _, _, h => absurd ((h b).2 (by simp)) (by simp)
  | a :: r, [], _, _, h => absurd ((h a).1 (by simp)) (by simp)
  | a :: r, b :: r', h1, h2, h => by
    obtain ⟨a1, a2⟩ := List.pairwise_cons.1 h1
    obtain ⟨b1, b2⟩ := List.pairwise_cons.1 h2
    have e : a = b := by
      rcases List.mem_cons.1 ((h a).1 (by simp)) with e | e
      · exact e
      · rcases List.mem_cons.1 ((h b).2 (by simp)) with e' | e'
        · exact e'.symm
        · exact (R.asymm (b1 a e) (a1 b e')).elim
    subst e
    congr 1
    refine pw_ext r r' a2 b2 fun x => ⟨fun hx => ?_, fun hx => ?_⟩
    · rcases List.mem_cons.1 ((h x).1 (List.mem_cons_of_mem _ hx)) with e | e
      · subst e; exact absurd rfl (a1 x hx).ne
      · exact e
    · rcases List.mem_cons.1 ((h x).2 (List.mem_cons_of_mem _ hx)) with e | e
      · subst e; exact absurd rfl (b1 x hx).ne
      · exact e

/-- The order in which places are sorted: by keys, and of one key as they came. -/
def plt (ks : List ByteArray) (x y : Nat) : Prop := R ks x y ∨ (kl ks x = kl ks y ∧ x < y)
def ptest (ks : List ByteArray) (x y : Nat) : Bool := Op.bytesLess (kl ks x) (kl ks y)
theorem pord (ks : List ByteArray) : Ord (plt ks) (ptest ks) where
  trans := by
    rintro x y z (h1 | ⟨h1, h1'⟩) (h2 | ⟨h2, h2'⟩)
    · exact .inl (h1.trans h2)
    · exact .inl (by unfold R at *; rwa [← h2])
    · exact .inl (by unfold R at *; rwa [h1])
    · exact .inr ⟨h1.trans h2, by omega⟩
  left := by
    rintro x y z (h1 | ⟨h1, h1'⟩) h2
    · exact R.trans (ks := ks) (q := y) h1 h2
    · unfold ptest at *; rwa [h1]
  right := by
    rintro x y z h2 (h1 | ⟨h1, h1'⟩)
    · exact R.trans (ks := ks) (q := x) h2 h1
    · unfold ptest at *; rwa [← h1]
  yes := fun h => .inl h
  no := by
    intro x y h1 h2
    rcases bl_tri (kl ks x) (kl ks y) with e | e | e
    · exact .inl e
    · exact .inr ⟨e, h2⟩
    · unfold ptest at h1; rw [h1] at e; cases e

/-- Of a sorted row the last place of each key: those of the first k. -/
def keep (ks : List ByteArray) (n : Nat) (f : Nat → Nat) (i : Nat) : Bool := decide (i + 1 = n) || !(kl ks (f i) == kl ks (f (i + 1)))
def kept (ks : List ByteArray) (n : Nat) (f : Nat → Nat) : Nat → List Nat
  | 0 => []
  | k + 1 => if keep ks n f k = true then kept ks n f k ++ [f k] else kept ks n f k
theorem kept_mem (ks : List ByteArray) (n : Nat) (f : Nat → Nat) : ∀ k x, x ∈ kept ks n f k ↔ ∃ i, i < k ∧ keep ks n f i = true ∧ f i = x
  | 0, x => by simp [kept]
  | k + 1, x => by
    unfold kept
    by_cases c : keep ks n f k = true
    · rw [if_pos c, List.mem_append, kept_mem ks n f k x]
      constructor
      · rintro (⟨i, h1, h2, h3⟩ | h)
        · exact ⟨i, by omega, h2, h3⟩
        · exact ⟨k, by omega, c, (List.mem_singleton.1 h).symm⟩
      · rintro ⟨i, h1, h2, h3⟩
        by_cases e : i = k
        · subst e; exact .inr (List.mem_singleton.2 h3.symm)
        · exact .inl ⟨i, by omega, h2, h3⟩
    · rw [if_neg c, kept_mem ks n f k x]
      constructor
      · rintro ⟨i, h1, h2, h3⟩
        exact ⟨i, by omega, h2, h3⟩
      · rintro ⟨i, h1, h2, h3⟩
        by_cases e : i = k
        · subst e; exact absurd h2 c
        · exact ⟨i, by omega, h2, h3⟩
theorem plt_le {ks : List ByteArray} {x y : Nat} (h : plt ks x y) : R ks x y ∨ kl ks x = kl ks y := by
  rcases h with h | h
  · exact .inl h
  · exact .inr h.1
theorem keep_strict {ks : List ByteArray} {n : Nat} {f : Nat → Nat} (hs : Srt (plt ks) 0 n f) {i j : Nat} (hij : i < j) (hj : j < n) (hk : keep ks n f i = true) : R ks (f i) (f j) := by
  have h1 : plt ks (f i) (f (i + 1)) := hs i (i + 1) (by omega) (by omega) (by omega)
  have h2 : R ks (f i) (f (i + 1)) := by
    rcases plt_le h1 with h | h
    · exact h
    · unfold keep at hk
      have : (decide (i + 1 = n)) = false := decide_eq_false (by omega)
      rw [this, h] at hk
      simp at hk
  by_cases e : i + 1 = j
  · rw [← e]; exact h2
  · rcases plt_le (hs (i + 1) j (by omega) (by omega) hj) with h | h
    · exact h2.trans h
    · unfold R at *; rwa [← h]
theorem kept_pw (ks : List ByteArray) (n : Nat) (f : Nat → Nat) (hs : Srt (plt ks) 0 n f) : ∀ k, k ≤ n → (kept ks n f k).Pairwise (R ks)
  | 0, _ => List.Pairwise.nil
  | k + 1, hk => by
    have ih := kept_pw ks n f hs k (by omega)
    unfold kept
    by_cases c : keep ks n f k = true
    · rw [if_pos c]
      refine List.pairwise_append.2 ⟨ih, by simp, fun x hx y hy => ?_⟩
      obtain ⟨i, i1, i2, rfl⟩ := (kept_mem ks n f k x).1 hx
      rw [List.mem_singleton.1 hy]
      exact keep_strict hs i1 (by omega) i2
    · rw [if_neg c]; exact ih
/-- Both ways to tell the members that stand are the same. -/
theorem kept_stand (ks : List ByteArray) (n : Nat) (f : Nat → Nat) (hs : Srt (plt ks) 0 n f) (hp : Per 0 n (fun k => k) f) : kept ks n f n = stand ks n := by
  refine pw_ext _ _ (kept_pw ks n f hs n (Nat.le_refl _)) (stand_pw ks n) fun x => ?_
  rw [kept_mem, stand_mem]
  constructor
  · rintro ⟨i, h1, h2, rfl⟩
    obtain ⟨j, j1, j2, e⟩ := hp.2.1 i (by omega) h1
    refine ⟨by rw [e]; exact j2, fun q q1 q2 he => ?_⟩
    obtain ⟨k, k1, k2, e'⟩ := hp.2.2 q (by omega) q2
    have e'' : f k = q := e'
    rw [← e''] at he q1
    by_cases c : i < k
    · exact (keep_strict hs c k2 h2).ne he.symm
    by_cases c2 : i = k
    · subst c2; omega
    · rcases hs k i (by omega) (by omega) h1 with h | h
      · exact h.ne he
      · omega
  · rintro ⟨h1, h2⟩
    obtain ⟨i, i1, i2, e⟩ := hp.2.2 x (by omega) h1
    have e' : f i = x := e
    refine ⟨i, i2, ?_, e'⟩
    unfold keep
    by_cases c : i + 1 = n
    · simp [c]
    · have hlt := hs i (i + 1) (by omega) (by omega) (by omega)
      simp only [Bool.or_eq_true, decide_eq_true_eq, Bool.not_eq_true', beq_eq_false_iff_ne]
      right
      intro he
      obtain ⟨j, j1, j2, ej⟩ := hp.2.1 (i + 1) (by omega) (by omega)
      have ej' : f (i + 1) = j := ej
      rcases hlt with h | h
      · exact h.ne he
      · exact h2 (f (i + 1)) (by rw [← e']; exact h.2) (by rw [ej']; exact j2) (by rw [← he, e'])
theorem stand_lt (ks : List ByteArray) (k x : Nat) (h : x ∈ stand ks k) : x < k := ((stand_mem ks k x).1 h).1
theorem insP_length (ks : List ByteArray) (L : List Nat) (p : Nat) : (insP ks L p).length ≤ L.length + 1 := by
  induction L with
  | nil => simp [insP]
  | cons q r ih =>
    unfold insP
    split
    · simp only [List.length_cons]; omega
    · split <;> simp only [List.length_cons] <;> omega
theorem stand_length (ks : List ByteArray) : ∀ k, (stand ks k).length ≤ k
  | 0 => by simp [stand]
  | k + 1 => by
    have := stand_length ks k
    have := insP_length ks (stand ks k) k
    unfold stand
    omega
end St
end Go.Proofs.Ytjoghcolfehkcaa
