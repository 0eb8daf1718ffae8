/-
  The plain mathematics of chapter 1: cells, the code of a cell, and where a value ends and how deep it is, as plain functions of lists. No word of the program is used here.
  Cells in memory: what it is that a list of cells lies in a row of memory, and what keeps it there. No word of the program is used here.
  The plain mathematics of where a value ends: counting the cells that are still owed comes to the same place; every place of a value without a fault is the beginning of a value. No word of the program is used here.
  The plain mathematics of a value's parts: the places of the elements or members, one behind the other. No word of the program is used here.
-/
import Derived.WalkKit
namespace Go.Proofs.YtcglddahphkcpaaGreatDoor
open Go.RowKit
theorem hide {p : Prop} (h : p) : Hid p := h
theorem unhide {p : Prop} (h : Hid p) : p := h
namespace M

/-- A cell, by its five fields. -/
structure Cl where
  kind : Int
  num : Int
  text : ByteArray
  key : ByteArray
  n : Int

/-- What each field must be to lie in memory. -/
def Cl.ok (c : Cl) : Prop :=
  (-9223372036854775808 ≤ c.kind ∧ c.kind ≤ 9223372036854775807) ∧ (-9223372036854775808 ≤ c.num ∧ c.num ≤ 9223372036854775807) ∧
  (-9223372036854775808 ≤ c.n ∧ c.n ≤ 9223372036854775807) ∧ c.text.size ≤ 9223372036854775807 ∧ c.key.size ≤ 9223372036854775807

def zero : Cl := ⟨0, 0, ByteArray.empty, ByteArray.empty, 0⟩

/-- Its five words of memory. -/
def Cl.vals (c : Cl) : List Value := [.int .i64 c.kind, .int .i64 c.num, .string c.text, .string c.key, .int .i64 c.n]
def Cl.agg (c : Cl) : Value := .agg #[.int .i64 c.kind, .int .i64 c.num, .string c.text, .string c.key, .int .i64 c.n]

def byteOk (b : UInt8) : Bool := decide (32 ≤ (b.toNat : Int)) && decide ((b.toNat : Int) ≤ 126)
def textOk (s : ByteArray) : Bool := decide (s.size ≤ 60) && s.data.toList.all byteOk

def cellCode (c : Cl) : Int :=
  if c.kind < 0 ∨ 6 < c.kind then 6
  else if (c.num ≠ 0 ∧ c.kind ≠ 3) ∨ (c.text.toList ≠ [] ∧ c.kind ≠ 4) ∨ (c.n ≠ 0 ∧ c.kind ≠ 5 ∧ c.kind ≠ 6) then 1
  else if c.num < -1000000000000000 ∨ 1000000000000000 < c.num ∨ c.n < 0 ∨ 200 < c.n then 3
  else if textOk c.text = true ∧ textOk c.key = true then 0 else 5

/-- The code of the first cell that has one. -/
def firstCode : List Cl → Int
  | [] => 0
  | c :: r => if cellCode c = 0 then firstCode r else cellCode c

def keyLe (a b : ByteArray) : Bool := Op.bytesLess a.toList b.toList || (a.toList == b.toList)

/-- May the k-th part of a cell c not begin at place e, where the key ahead of it was last? -/
def bad (v : List Cl) (c : Cl) (k : Nat) (e : Nat) (last : ByteArray) : Bool :=
  if e < v.length then (decide (c.kind = 5) && decide ((v.getD e zero).key.toList ≠ [])) || (decide (c.kind = 6) && decide (0 < k) && keyLe (v.getD e zero).key last)
  else true

def kids (rec : Nat → Option (Nat × Nat)) (v : List Cl) (c : Cl) : Nat → Nat → Nat → Nat → ByteArray → Option (Nat × Nat)
  | 0, _, e, d, _ => some (e, d)
  | m + 1, k, e, d, last => if bad v c k e last = true then none else
    match rec e with
    | none => none
    | some (e', d') => kids rec v c m (k + 1) e' (max d d') (v.getD e zero).key

/-- Where the value at a place ends, and how deep it is. -/
def walk (v : List Cl) : Nat → Nat → Option (Nat × Nat)
  | 0, _ => none
  | f + 1, at' => (kids (walk v f) v (v.getD at' zero) (v.getD at' zero).n.toNat 0 (at' + 1) 0 ByteArray.empty).map fun r => (r.1, r.2 + 1)

theorem kids_bd (rec : Nat → Option (Nat × Nat)) (v : List Cl) (c : Cl) (L : Nat) (hrec : ∀ e, e < v.length → ∀ r, rec e = some r → e < r.1 ∧ r.1 ≤ v.length ∧ r.2 ≤ L) (m : Nat) :
    ∀ k e d last r, e ≤ v.length → d ≤ L → kids rec v c m k e d last = some r → e ≤ r.1 ∧ r.1 ≤ v.length ∧ d ≤ r.2 ∧ r.2 ≤ L := by
  induction m with
  | zero => intro k e d last r he hd h; simp only [kids, Option.some.injEq] at h; subst h; exact ⟨Nat.le_refl _, he, Nat.le_refl _, hd⟩
  | succ m ih =>
    intro k e d last r he hd h
    simp only [kids] at h
    split at h
    · cases h
    · rename_i hb
      have hlt : e < v.length := by
        by_cases hx : e < v.length
        · exact hx
        · exact absurd (show bad v c k e last = true by unfold bad; rw [if_neg hx]) hb
      split at h
      · cases h
      · rename_i e' d' hre
        have h1 := hrec e hlt _ hre
        simp only at h1
        have := ih (k + 1) e' (max d d') _ r h1.2.1 (by omega) h
        omega

theorem walk_bd (v : List Cl) (f : Nat) : ∀ e, e < v.length → ∀ r, walk v f e = some r → e < r.1 ∧ r.1 ≤ v.length ∧ r.2 ≤ f := by
  induction f with
  | zero => intro e _ r h; cases h
  | succ f ih =>
    intro e he r h
    simp only [walk, Option.map_eq_some_iff] at h
    obtain ⟨q, hq, rfl⟩ := h
    have := kids_bd (walk v f) v _ f ih _ _ _ _ _ q (by omega) (by omega) hq
    simp only
    omega

def valueFault (v : List Cl) : Int :=
  if v.length < 1 ∨ 200 < v.length then 2
  else if firstCode v ≠ 0 then firstCode v
  else match walk v v.length 0 with
    | none => 1
    | some (e, d) => if e ≠ v.length ∨ (v.getD 0 zero).key.toList ≠ [] then 1 else if 20 < d then 7 else 0

end M
end Go.Proofs.YtcglddahphkcpaaGreatDoor

namespace Go.Proofs.YtcglddahphkcpaaGreatDoor
open Go.RowKit

/-- The five words of a cell lie at an address. -/
def Cell5 (w : World) (b o : Nat) (c : M.Cl) : Prop :=
  w.cell? ⟨b, o, none⟩ = some (.int .i64 c.kind) ∧ w.cell? ⟨b, o + 1, none⟩ = some (.int .i64 c.num) ∧ w.cell? ⟨b, o + 2, none⟩ = some (.string c.text) ∧ w.cell? ⟨b, o + 3, none⟩ = some (.string c.key) ∧ w.cell? ⟨b, o + 4, none⟩ = some (.int .i64 c.n)

/-- The cells of a list lie one behind the other. -/
def Row (w : World) (b off : Nat) (l : List M.Cl) : Prop := ∀ i, i < l.length → Cell5 w b (off + i * 5) (l.getD i M.zero)

theorem Row.below {B : Nat} {w w' : World} {b off : Nat} {l : List M.Cl} (h : Row w b off l) (hb : Below B w w') (hB : b < B) : Row w' b off l := by
  intro i hi
  obtain ⟨h0, h1, h2, h3, h4⟩ := h i hi
  exact ⟨(hb.cell (by exact hB)).trans h0, (hb.cell (by exact hB)).trans h1, (hb.cell (by exact hB)).trans h2, (hb.cell (by exact hB)).trans h3, (hb.cell (by exact hB)).trans h4⟩

/-- Block b is a row that holds just the values xs, none of them frozen. -/
def Own (w : World) (b : Nat) (t : TypeId) (xs : List Value) : Prop := ∃ c : Array Value, w.heap[b]? = some (.cells c t (0, 0)) ∧ c.toList = xs

theorem Own.cell {w : World} {b : Nat} {t : TypeId} {xs : List Value} (h : Own w b t xs) (j : Nat) : w.cell? ⟨b, j, none⟩ = xs[j]? := by
  obtain ⟨c, hc, rfl⟩ := h
  rw [cell_of_row w b j c t (0, 0) hc]; simp

theorem Own.frozen {w : World} {b : Nat} {t : TypeId} {xs : List Value} (h : Own w b t xs) (j : Nat) : w.frozen? ⟨b, j, none⟩ = false := by
  obtain ⟨c, hc, rfl⟩ := h
  exact frozen_of_row w b j c t hc

theorem Own.lt {w : World} {b : Nat} {t : TypeId} {xs : List Value} (h : Own w b t xs) : b < w.heap.size := by
  obtain ⟨c, hc, _⟩ := h
  exact (Array.getElem?_eq_some_iff.1 hc).1

theorem Own.below {B : Nat} {w w' : World} {b : Nat} {t : TypeId} {xs : List Value} (h : Own w b t xs) (hb : Below B w w') (hB : b < B) : Own w' b t xs := by
  obtain ⟨c, hc, e⟩ := h
  exact ⟨c, (hb.block b hB).trans hc, e⟩

theorem Own.set {w : World} {b : Nat} {t : TypeId} {xs : List Value} (h : Own w b t xs) (j : Nat) (u : Value) : Own (w.setCell ⟨b, j, none⟩ u) b t (xs.set j u) := by
  obtain ⟨c, hc, rfl⟩ := h
  exact ⟨c.setIfInBounds j u, heap_setCell_same w b j c t u hc, by simp⟩

theorem Own.setOther {w : World} {b : Nat} {t : TypeId} {xs : List Value} (h : Own w b t xs) (p : Addr) (u : Value) (hp : b ≠ p.block) : Own (w.setCell p u) b t xs := by
  obtain ⟨c, hc, e⟩ := h
  exact ⟨c, (heap_setCell_other w p b u hp).trans hc, e⟩

theorem Own.alloc {w : World} {b : Nat} {t : TypeId} {xs : List Value} (h : Own w b t xs) (o : Obj) : Own (w.alloc o) b t xs := by
  have hl := h.lt
  obtain ⟨c, hc, e⟩ := h
  exact ⟨c, (Below.heap_alloc w o b hl).trans hc, e⟩

theorem Own.drew {w : World} {b : Nat} {t : TypeId} {xs : List Value} (h : Own w b t xs) : Own w.drew b t xs := h

/-- The values xs are the words of the first k cells of l, and as many others as are wanted for the rest. -/
def Words (xs : List Value) (l : List M.Cl) (k : Nat) : Prop :=
  xs.length = l.length * 5 ∧ ∀ i, i < k → xs[i * 5]? = some (.int .i64 (l.getD i M.zero).kind) ∧ xs[i * 5 + 1]? = some (.int .i64 (l.getD i M.zero).num) ∧ xs[i * 5 + 2]? = some (.string (l.getD i M.zero).text) ∧ xs[i * 5 + 3]? = some (.string (l.getD i M.zero).key) ∧ xs[i * 5 + 4]? = some (.int .i64 (l.getD i M.zero).n)

theorem getD_mem (l : List M.Cl) (k : Nat) (hk : k < l.length) : l.getD k M.zero ∈ l := by
  rw [List.getD_eq_getElem?_getD, List.getElem?_eq_getElem hk]; exact List.getElem_mem hk

theorem bytes_ext {a b : ByteArray} (h : a.toList = b.toList) : a = b := by
  rw [ByteArray.toList_eq, ByteArray.toList_eq] at h
  cases a; cases b
  simp only at h
  congr
  exact Array.toList_inj.1 h

end Go.Proofs.YtcglddahphkcpaaGreatDoor

namespace Go.Proofs.YtcglddahphkcpaaGreatDoor
open Go.RowKit
namespace M

/-- How many cells the n cells from a on owe, less those that they pay. -/
def owe (v : List Cl) (a : Nat) : Nat → Int
  | 0 => 0
  | n + 1 => owe v a n + ((v.getD (a + n) zero).n - 1)

theorem owe_add (v : List Cl) (a m n : Nat) : owe v a (m + n) = owe v a m + owe v (a + m) n := by
  induction n with
  | zero => simp [owe]
  | succ n ih => rw [Nat.add_succ, owe, owe, ih, Nat.add_assoc a m n]; omega

theorem owe_front (v : List Cl) (a n : Nat) : owe v a (n + 1) = ((v.getD a zero).n - 1) + owe v (a + 1) n := by
  have := owe_add v a 1 n
  rw [show 1 + n = n + 1 from by omega] at this
  rw [this]
  simp [owe]

/-- All counts are 0 to 200. -/
def fits (v : List Cl) : Prop := ∀ c ∈ v, 0 ≤ c.n ∧ c.n ≤ 200

theorem fits_getD {v : List Cl} (h : fits v) (i : Nat) : 0 ≤ (v.getD i zero).n ∧ (v.getD i zero).n ≤ 200 := by
  by_cases hi : i < v.length
  · refine h _ ?_
    rw [List.getD_eq_getElem?_getD, List.getElem?_eq_getElem hi]; exact List.getElem_mem hi
  · rw [List.getD_eq_getElem?_getD, List.getElem?_eq_none (by omega)]; exact ⟨by decide, by decide⟩

theorem owe_bd {v : List Cl} (h : fits v) (a n : Nat) : -(n : Int) ≤ owe v a n ∧ owe v a n ≤ 199 * n := by
  induction n with
  | zero => simp [owe]
  | succ n ih => have := fits_getD h (a + n); rw [owe]; omega

theorem kids_owe (rec : Nat → Option (Nat × Nat)) (v : List Cl) (c : Cl)
    (hrec : ∀ a e d, rec a = some (e, d) → a < e ∧ owe v a (e - a) = -1 ∧ ∀ p, a ≤ p → p < e → 0 ≤ owe v a (p - a)) (m : Nat) :
    ∀ k e d last e' d', kids rec v c m k e d last = some (e', d') → e ≤ e' ∧ owe v e (e' - e) = -(m : Int) ∧ ∀ p, e ≤ p → p < e' → -(m : Int) < owe v e (p - e) := by
  induction m with
  | zero =>
    intro k e d last e' d' h
    simp only [kids, Option.some.injEq, Prod.mk.injEq] at h
    obtain ⟨rfl, _⟩ := h
    exact ⟨Nat.le_refl _, by simp [owe], fun p h1 h2 => by omega⟩
  | succ m ih =>
    intro k e d last e' d' h
    simp only [kids] at h
    split at h
    · cases h
    split at h
    · cases h
    · rename_i e1 d1 hr
      obtain ⟨q1, q2, q3⟩ := hrec e e1 d1 hr
      obtain ⟨r1, r2, r3⟩ := ih _ _ _ _ _ _ h
      refine ⟨by omega, ?_, ?_⟩
      · have := owe_add v e (e1 - e) (e' - e1)
        rw [show e1 - e + (e' - e1) = e' - e from by omega, show e + (e1 - e) = e1 from by omega] at this
        omega
      · intro p h1 h2
        by_cases hp : p < e1
        · have := q3 p h1 hp; omega
        · have := owe_add v e (e1 - e) (p - e1)
          rw [show e1 - e + (p - e1) = p - e from by omega, show e + (e1 - e) = e1 from by omega] at this
          have := r3 p (by omega) h2
          omega

theorem walk_owe {v : List Cl} (hv : fits v) (f : Nat) : ∀ a e d, walk v f a = some (e, d) → a < e ∧ owe v a (e - a) = -1 ∧ ∀ p, a ≤ p → p < e → 0 ≤ owe v a (p - a) := by
  induction f with
  | zero => intro a e d h; cases h
  | succ f ih =>
    intro a e d h
    simp only [walk, Option.map_eq_some_iff] at h
    obtain ⟨⟨e1, d1⟩, h1, h2⟩ := h
    simp only [Prod.mk.injEq] at h2
    obtain ⟨rfl, rfl⟩ := h2
    have hn := fits_getD hv a
    obtain ⟨r1, r2, r3⟩ := kids_owe (walk v f) v _ ih _ _ _ _ _ _ _ h1
    rw [Int.toNat_of_nonneg hn.1] at r2 r3
    refine ⟨by omega, ?_, ?_⟩
    · have := owe_front v a (e1 - (a + 1))
      rw [show e1 - (a + 1) + 1 = e1 - a from by omega] at this
      omega
    · intro p h1 h2
      by_cases hp : p = a
      · subst hp; simp [owe]
      · have := owe_front v a (p - (a + 1))
        rw [show p - (a + 1) + 1 = p - a from by omega] at this
        have := r3 p (by omega) h2
        omega

/-- With more fuel the same is answered. -/
theorem kids_more (rec rec' : Nat → Option (Nat × Nat)) (v : List Cl) (c : Cl) (h : ∀ a r, rec a = some r → rec' a = some r) (m : Nat) :
    ∀ k e d last r, kids rec v c m k e d last = some r → kids rec' v c m k e d last = some r := by
  induction m with
  | zero => intro k e d last r h; exact h
  | succ m ih =>
    intro k e d last r hk
    simp only [kids] at hk ⊢
    split at hk
    · cases hk
    · rename_i hb
      rw [if_neg hb]
      split at hk
      · cases hk
      · rename_i e1 d1 hr
        rw [h _ _ hr]
        exact ih _ _ _ _ _ hk

theorem walk_more (v : List Cl) (f : Nat) : ∀ a r, walk v f a = some r → walk v (f + 1) a = some r := by
  induction f with
  | zero => intro a r h; cases h
  | succ f ih =>
    intro a r h
    rw [walk] at h ⊢
    simp only [Option.map_eq_some_iff] at h ⊢
    obtain ⟨q, h1, h2⟩ := h
    exact ⟨q, kids_more _ _ v _ ih _ _ _ _ _ _ h1, h2⟩

theorem walk_le (v : List Cl) (f g : Nat) (hfg : f ≤ g) (a : Nat) (r : Nat × Nat) (h : walk v f a = some r) : walk v g a = some r := by
  induction g with
  | zero => have e : f = 0 := by omega
            subst e; exact h
  | succ g ih =>
    by_cases e : f = g + 1
    · subst e; exact h
    · exact walk_more v g a r (ih (by omega))

/-- Each place of a value is the beginning of one, which ends no later. -/
theorem kids_in (v : List Cl) (c : Cl) (f : Nat)
    (hrec : ∀ a e d, walk v f a = some (e, d) → ∀ p, a ≤ p → p < e → ∃ e' d', walk v f p = some (e', d') ∧ e' ≤ e) (m : Nat) :
    ∀ k e d last e' d', kids (walk v f) v c m k e d last = some (e', d') → e ≤ v.length → d ≤ f → ∀ p, e ≤ p → p < e' → ∃ e1 d1, walk v f p = some (e1, d1) ∧ e1 ≤ e' := by
  induction m with
  | zero => intro k e d last e' d' h _ _ p h1 h2; simp only [kids, Option.some.injEq, Prod.mk.injEq] at h; omega
  | succ m ih =>
    intro k e d last e' d' h he hd p h1 h2
    simp only [kids] at h
    split at h
    · cases h
    rename_i hb
    have hlt : e < v.length := by
      by_cases hx : e < v.length
      · exact hx
      · exact absurd (show bad v c k e last = true by unfold bad; rw [if_neg hx]) hb
    split at h
    · cases h
    · rename_i e1 d1 hr
      have hw := walk_bd v f e hlt _ hr
      simp only at hw
      have hmono := kids_bd (walk v f) v c f (walk_bd v f) m (k + 1) e1 (max d d1) _ _ hw.2.1 (by omega) h
      by_cases hp : p < e1
      · obtain ⟨q, r, h3, h4⟩ := hrec e e1 d1 hr p h1 hp
        exact ⟨q, r, h3, by have := hmono.1; simp only at this; omega⟩
      · exact ih _ _ _ _ _ _ h hw.2.1 (by omega) p (by omega) h2

theorem walk_in (v : List Cl) (f : Nat) : ∀ a e d, walk v f a = some (e, d) → a < v.length → ∀ p, a ≤ p → p < e → ∃ e' d', walk v f p = some (e', d') ∧ e' ≤ e := by
  induction f with
  | zero => intro a e d h; cases h
  | succ f ih =>
    intro a e d h ha p h1 h2
    by_cases hp : p = a
    · subst hp; exact ⟨e, d, h, Nat.le_refl _⟩
    · have h' := h
      simp only [walk, Option.map_eq_some_iff] at h'
      obtain ⟨⟨e1, d1⟩, h3, h4⟩ := h'
      simp only [Prod.mk.injEq] at h4
      obtain ⟨rfl, rfl⟩ := h4
      have hrec : ∀ a e d, walk v f a = some (e, d) → ∀ p, a ≤ p → p < e → ∃ e' d', walk v f p = some (e', d') ∧ e' ≤ e := by
        intro a e d h
        by_cases ha : a < v.length
        · exact ih a e d h ha
        · intro p q1 q2
          have hpa : p = a := by
            have h0 := h
            cases f with
            | zero => cases h0
            | succ f =>
              simp only [walk, Option.map_eq_some_iff] at h0
              obtain ⟨⟨x, y⟩, h5, h6⟩ := h0
              rw [show v.getD a zero = zero from by rw [List.getD_eq_getElem?_getD, List.getElem?_eq_none (by omega)]; rfl] at h5
              simp only [zero, Int.toNat_zero, kids, Option.some.injEq, Prod.mk.injEq] at h5 h6
              omega
          subst hpa
          exact ⟨e, d, h, Nat.le_refl _⟩
      obtain ⟨q, r, h5, h6⟩ := kids_in v _ f hrec _ _ _ _ _ _ _ h3 (by omega) (by omega) p (by omega) h2
      exact ⟨q, r, walk_more v f p _ h5, h6⟩

/-- What a value without a fault is. -/
theorem fault_zero {v : List Cl} (h : valueFault v = 0) : 1 ≤ v.length ∧ v.length ≤ 200 ∧ firstCode v = 0 ∧ (v.getD 0 zero).key.toList = [] ∧ ∃ d, walk v v.length 0 = some (v.length, d) ∧ d ≤ 20 := by
  unfold valueFault at h
  split at h
  · cases h
  rename_i h1
  split at h
  · rename_i h2; exact absurd h h2
  rename_i h2
  split at h
  · cases h
  rename_i e d hw
  split at h
  · cases h
  rename_i h3
  split at h
  · cases h
  rename_i h4
  have h3a : e = v.length := by
    by_cases he : e = v.length
    · exact he
    · exact absurd (.inl he) h3
  have h3b : (v.getD 0 zero).key.toList = [] := by
    by_cases he : (v.getD 0 zero).key.toList = []
    · exact he
    · exact absurd (.inr he) h3
  refine ⟨by omega, by omega, ?_, h3b, d, h3a ▸ hw, by omega⟩
  by_cases he : firstCode v = 0
  · exact he
  · exact absurd he h2

theorem code_zero_n {c : Cl} (h : cellCode c = 0) : 0 ≤ c.n ∧ c.n ≤ 200 := by
  unfold cellCode at h
  split at h
  · cases h
  split at h
  · cases h
  split at h
  · cases h
  omega

theorem first_zero {v : List Cl} (h : firstCode v = 0) : ∀ c ∈ v, cellCode c = 0 := by
  induction v with
  | nil => simp
  | cons c r ih =>
    rw [firstCode] at h
    split at h
    · rename_i h1
      intro x hx
      rcases List.mem_cons.1 hx with rfl | hx
      · exact h1
      · exact ih h x hx
    · rename_i h1; exact absurd h h1

theorem fits_of {v : List Cl} (h : valueFault v = 0) : fits v := fun c hc => code_zero_n (first_zero (fault_zero h).2.2.1 c hc)

/-- Where the value at a place ends. -/
def endOf (v : List Cl) (a : Nat) : Nat := match walk v v.length a with | some (e, _) => e | none => 0

theorem endOf_spec {v : List Cl} (h : valueFault v = 0) (a : Nat) (ha : a < v.length) : ∃ d, walk v v.length a = some (endOf v a, d) ∧ a < endOf v a ∧ endOf v a ≤ v.length ∧ d ≤ 200 := by
  obtain ⟨h1, h2, _, _, d, hw, _⟩ := fault_zero h
  obtain ⟨e', d', h3, h4⟩ := walk_in v v.length 0 _ _ hw (by omega) a (by omega) ha
  have := walk_bd v v.length a ha _ h3
  simp only at this
  refine ⟨d', ?_, ?_, ?_, by omega⟩
  · unfold endOf; rw [h3]
  · unfold endOf; rw [h3]; exact this.1
  · unfold endOf; rw [h3]; exact this.2.1

end M
end Go.Proofs.YtcglddahphkcpaaGreatDoor

namespace Go.Proofs.YtcglddahphkcpaaGreatDoor
open Go.RowKit
namespace M

/-- The place that comes j parts behind p. -/
def iter (v : List Cl) : Nat → Nat → Nat
  | 0, p => p
  | j + 1, p => iter v j (endOf v p)

theorem iter_next (v : List Cl) (j p : Nat) : iter v (j + 1) p = endOf v (iter v j p) := by
  induction j generalizing p with
  | zero => rfl
  | succ j ih => rw [iter, ih (endOf v p), iter]

theorem endOf_of {v : List Cl} {f a e d : Nat} (hf : f ≤ v.length) (h : walk v f a = some (e, d)) : endOf v a = e := by
  have := walk_le v f v.length hf a _ h
  unfold endOf; rw [this]

theorem kids_iter (v : List Cl) (c : Cl) (f : Nat) (hf : f ≤ v.length) (m : Nat) : ∀ k e d last e' d', kids (walk v f) v c m k e d last = some (e', d') → e ≤ v.length → d ≤ f →
    iter v m e = e' ∧ e ≤ e' ∧ e' ≤ v.length ∧ ∀ j, j < m → iter v j e < e' := by
  induction m with
  | zero =>
    intro k e d last e' d' h he _
    simp only [kids, Option.some.injEq, Prod.mk.injEq] at h
    obtain ⟨rfl, _⟩ := h
    exact ⟨rfl, Nat.le_refl _, he, fun j hj => by omega⟩
  | succ m ih =>
    intro k e d last e' d' h he hd
    simp only [kids] at h
    split at h
    · cases h
    rename_i hb
    have hlt : e < v.length := by
      by_cases hx : e < v.length
      · exact hx
      · exact absurd (show bad v c k e last = true by unfold bad; rw [if_neg hx]) hb
    split at h
    · cases h
    · rename_i e1 d1 hr
      have hw := walk_bd v f e hlt _ hr
      simp only at hw
      have he1 := endOf_of hf hr
      obtain ⟨r1, r2, r3, r4⟩ := ih _ _ _ _ _ _ h hw.2.1 (by omega)
      refine ⟨by rw [iter, he1]; exact r1, by omega, r3, fun j hj => ?_⟩
      cases j with
      | zero => show e < e'; omega
      | succ j => rw [iter, he1]; exact r4 j (by omega)

/-- How many parts the value at a place has. -/
def arity (v : List Cl) (a : Nat) : Nat := (v.getD a zero).n.toNat
/-- The places of the parts of the value at a place. -/
def places (v : List Cl) (a : Nat) : List Nat := (List.range (arity v a)).map fun j => iter v j (a + 1)

theorem places_in {v : List Cl} (h : valueFault v = 0) (a : Nat) (ha : a < v.length) : (∀ j, j < arity v a → a < iter v j (a + 1) ∧ iter v j (a + 1) < endOf v a) ∧ iter v (arity v a) (a + 1) = endOf v a ∧ endOf v a ≤ v.length ∧ arity v a ≤ 200 := by
  obtain ⟨d, hw, h1, h2, _⟩ := endOf_spec h a ha
  have hlen := (fault_zero h).1
  obtain ⟨f, hf⟩ : ∃ f, v.length = f + 1 := ⟨v.length - 1, by omega⟩
  have hw' := hw
  rw [hf] at hw'
  simp only [walk, Option.map_eq_some_iff] at hw'
  obtain ⟨⟨e1, d1⟩, h3, h4⟩ := hw'
  simp only [Prod.mk.injEq] at h4
  obtain ⟨h4, _⟩ := h4
  have hk := kids_iter v _ f (by omega) _ _ _ _ _ _ _ h3 (by omega) (by omega)
  rw [h4] at hk
  have hn := (fits_getD (fits_of h) a).2
  refine ⟨fun j hj => ⟨?_, hk.2.2.2 j hj⟩, hk.1, h2, by unfold arity; omega⟩
  clear hk h3
  induction j with
  | zero => show a < a + 1; omega
  | succ j ih =>
    rw [iter_next]
    have h5 := ih (by omega)
    have h6 : iter v j (a + 1) < v.length := by
      have hk2 := kids_iter v (v.getD a zero) f (by omega)
      obtain ⟨d', hw2, _⟩ := endOf_spec h a ha
      rw [hf] at hw2
      simp only [walk, Option.map_eq_some_iff] at hw2
      obtain ⟨⟨e2, d2⟩, h7, h8⟩ := hw2
      simp only [Prod.mk.injEq] at h8
      have := (hk2 _ _ _ _ _ _ _ h7 (by omega) (by omega)).2.2.2 j (by unfold arity at hj; omega)
      omega
    obtain ⟨_, _, h7, _⟩ := endOf_spec h (iter v j (a + 1)) h6
    omega

end M
end Go.Proofs.YtcglddahphkcpaaGreatDoor
