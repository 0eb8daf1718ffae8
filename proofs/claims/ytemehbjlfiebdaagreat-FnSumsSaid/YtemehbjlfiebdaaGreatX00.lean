/-
  The plain mathematics of chapter 1: cells, the code of a cell, and where a value ends and how deep it is, as plain functions of lists. No word of the program is used here.
  Cells in memory: what it is that a list of cells lies in a row of memory, and what keeps it there. No word of the program is used here.
-/
import Derived.WalkKit
namespace Go.Proofs.YtemehbjlfiebdaaGreat
open Go.RowKit
theorem hide {p : Prop} (h : p) : Hid p := h
theorem unhide {p : Prop} (h : Hid p) : p := h
namespace M

/-- A cell, by its five fields. -/
structure Cl where
  kind : Int
  num : Int
  text : ByteArray
  key : ByteArray
  n : Int

/-- What each field must be to lie in memory. -/
def Cl.ok (c : Cl) : Prop :=
  (-9223372036854775808 ≤ c.kind ∧ c.kind ≤ 9223372036854775807) ∧ (-9223372036854775808 ≤ c.num ∧ c.num ≤ 9223372036854775807) ∧
  (-9223372036854775808 ≤ c.n ∧ c.n ≤ 9223372036854775807) ∧ c.text.size ≤ 9223372036854775807 ∧ c.key.size ≤ 9223372036854775807

def zero : Cl := ⟨0, 0, ByteArray.empty, ByteArray.empty, 0⟩

/-- Its five words of memory. -/
def Cl.vals (c : Cl) : List Value := [.int .i64 c.kind, .int .i64 c.num, .string c.text, .string c.key, .int .i64 c.n]
def Cl.agg (c : Cl) : Value := .agg #[.int .i64 c.kind, .int .i64 c.num, .string c.text, .string c.key, .int .i64 c.n]

def byteOk (b : UInt8) : Bool := decide (32 ≤ (b.toNat : Int)) && decide ((b.toNat : Int) ≤ 126)
def textOk (s : ByteArray) : Bool := decide (s.size ≤ 60) && s.data.toList.all byteOk

def cellCode (c : Cl) : Int :=
  if c.kind < 0 ∨ 6 < c.kind then 6
  else if (c.num ≠ 0 ∧ c.kind ≠ 3) ∨ (c.text.toList ≠ [] ∧ c.kind ≠ 4) ∨ (c.n ≠ 0 ∧ c.kind ≠ 5 ∧ c.kind ≠ 6) then 1
  else if c.num < -1000000000000000 ∨ 1000000000000000 < c.num ∨ c.n < 0 ∨ 200 < c.n then 3
  else if textOk c.text = true ∧ textOk c.key = true then 0 else 5

/-- The code of the first cell that has one. -/
def firstCode : List Cl → Int
  | [] => 0
  | c :: r => if cellCode c = 0 then firstCode r else cellCode c

def keyLe (a b : ByteArray) : Bool := Op.bytesLess a.toList b.toList || (a.toList == b.toList)

/-- May the k-th part of a cell c not begin at place e, where the key ahead of it was last? -/
def bad (v : List Cl) (c : Cl) (k : Nat) (e : Nat) (last : ByteArray) : Bool :=
  if e < v.length then (decide (c.kind = 5) && decide ((v.getD e zero).key.toList ≠ [])) || (decide (c.kind = 6) && decide (0 < k) && keyLe (v.getD e zero).key last)
  else true

def kids (rec : Nat → Option (Nat × Nat)) (v : List Cl) (c : Cl) : Nat → Nat → Nat → Nat → ByteArray → Option (Nat × Nat)
  | 0, _, e, d, _ => some (e, d)
  | m + 1, k, e, d, last => if bad v c k e last = true then none else
    match rec e with
    | none => none
    | some (e', d') => kids rec v c m (k + 1) e' (max d d') (v.getD e zero).key

/-- Where the value at a place ends, and how deep it is. -/
def walk (v : List Cl) : Nat → Nat → Option (Nat × Nat)
  | 0, _ => none
  | f + 1, at' => (kids (walk v f) v (v.getD at' zero) (v.getD at' zero).n.toNat 0 (at' + 1) 0 ByteArray.empty).map fun r => (r.1, r.2 + 1)

theorem kids_bd (rec : Nat → Option (Nat × Nat)) (v : List Cl) (c : Cl) (L : Nat) (hrec : ∀ e, e < v.length → ∀ r, rec e = some r → e < r.1 ∧ r.1 ≤ v.length ∧ r.2 ≤ L) (m : Nat) :
    ∀ k e d last r, e ≤ v.length → d ≤ L → kids rec v c m k e d last = some r → e ≤ r.1 ∧ r.1 ≤ v.length ∧ d ≤ r.2 ∧ r.2 ≤ L := by
  induction m with
  | zero => intro k e d last r he hd h; simp only [kids, Option.some.injEq] at h; subst h; exact ⟨Nat.le_refl _, he, Nat.le_refl _, hd⟩
  | succ m ih =>
    intro k e d last r he hd h
    simp only [kids] at h
    split at h
    · cases h
    · rename_i hb
      have hlt : e < v.length := by
        by_cases hx : e < v.length
        · exact hx
        · exact absurd (show bad v c k e last = true by unfold bad; rw [if_neg hx]) hb
      split at h
      · cases h
      · rename_i e' d' hre
        have h1 := hrec e hlt _ hre
        simp only at h1
        have := ih (k + 1) e' (max d d') _ r h1.2.1 (by omega) h
        omega

theorem walk_bd (v : List Cl) (f : Nat) : ∀ e, e < v.length → ∀ r, walk v f e = some r → e < r.1 ∧ r.1 ≤ v.length ∧ r.2 ≤ f := by
  induction f with
  | zero => intro e _ r h; cases h
  | succ f ih =>
    intro e he r h
    simp only [walk, Option.map_eq_some_iff] at h
    obtain ⟨q, hq, rfl⟩ := h
    have := kids_bd (walk v f) v _ f ih _ _ _ _ _ q (by omega) (by omega) hq
    simp only
    omega

def valueFault (v : List Cl) : Int :=
  if v.length < 1 ∨ 200 < v.length then 2
  else if firstCode v ≠ 0 then firstCode v
  else match walk v v.length 0 with
    | none => 1
    | some (e, d) => if e ≠ v.length ∨ (v.getD 0 zero).key.toList ≠ [] then 1 else if 20 < d then 7 else 0

end M
end Go.Proofs.YtemehbjlfiebdaaGreat

namespace Go.Proofs.YtemehbjlfiebdaaGreat
open Go.RowKit

/-- The five words of a cell lie at an address. -/
def Cell5 (w : World) (b o : Nat) (c : M.Cl) : Prop :=
  w.cell? ⟨b, o, none⟩ = some (.int .i64 c.kind) ∧ w.cell? ⟨b, o + 1, none⟩ = some (.int .i64 c.num) ∧ w.cell? ⟨b, o + 2, none⟩ = some (.string c.text) ∧ w.cell? ⟨b, o + 3, none⟩ = some (.string c.key) ∧ w.cell? ⟨b, o + 4, none⟩ = some (.int .i64 c.n)

/-- The cells of a list lie one behind the other. -/
def Row (w : World) (b off : Nat) (l : List M.Cl) : Prop := ∀ i, i < l.length → Cell5 w b (off + i * 5) (l.getD i M.zero)

theorem Row.below {B : Nat} {w w' : World} {b off : Nat} {l : List M.Cl} (h : Row w b off l) (hb : Below B w w') (hB : b < B) : Row w' b off l := by
  intro i hi
  obtain ⟨h0, h1, h2, h3, h4⟩ := h i hi
  exact ⟨(hb.cell (by exact hB)).trans h0, (hb.cell (by exact hB)).trans h1, (hb.cell (by exact hB)).trans h2, (hb.cell (by exact hB)).trans h3, (hb.cell (by exact hB)).trans h4⟩

/-- Block b is a row that holds just the values xs, none of them frozen. -/
def Own (w : World) (b : Nat) (t : TypeId) (xs : List Value) : Prop := ∃ c : Array Value, w.heap[b]? = some (.cells c t (0, 0)) ∧ c.toList = xs

theorem Own.cell {w : World} {b : Nat} {t : TypeId} {xs : List Value} (h : Own w b t xs) (j : Nat) : w.cell? ⟨b, j, none⟩ = xs[j]? := by
  obtain ⟨c, hc, rfl⟩ := h
  rw [cell_of_row w b j c t (0, 0) hc]; simp

theorem Own.frozen {w : World} {b : Nat} {t : TypeId} {xs : List Value} (h : Own w b t xs) (j : Nat) : w.frozen? ⟨b, j, none⟩ = false := by
  obtain ⟨c, hc, rfl⟩ := h
  exact frozen_of_row w b j c t hc

theorem Own.lt {w : World} {b : Nat} {t : TypeId} {xs : List Value} (h : Own w b t xs) : b < w.heap.size := by
  obtain ⟨c, hc, _⟩ := h
  exact (Array.getElem?_eq_some_iff.1 hc).1

theorem Own.below {B : Nat} {w w' : World} {b : Nat} {t : TypeId} {xs : List Value} (h : Own w b t xs) (hb : Below B w w') (hB : b < B) : Own w' b t xs := by
  obtain ⟨c, hc, e⟩ := h
  exact ⟨c, (hb.block b hB).trans hc, e⟩

theorem Own.set {w : World} {b : Nat} {t : TypeId} {xs : List Value} (h : Own w b t xs) (j : Nat) (u : Value) : Own (w.setCell ⟨b, j, none⟩ u) b t (xs.set j u) := by
  obtain ⟨c, hc, rfl⟩ := h
  exact ⟨c.setIfInBounds j u, heap_setCell_same w b j c t u hc, by simp⟩

theorem Own.setOther {w : World} {b : Nat} {t : TypeId} {xs : List Value} (h : Own w b t xs) (p : Addr) (u : Value) (hp : b ≠ p.block) : Own (w.setCell p u) b t xs := by
  obtain ⟨c, hc, e⟩ := h
  exact ⟨c, (heap_setCell_other w p b u hp).trans hc, e⟩

theorem Own.alloc {w : World} {b : Nat} {t : TypeId} {xs : List Value} (h : Own w b t xs) (o : Obj) : Own (w.alloc o) b t xs := by
  have hl := h.lt
  obtain ⟨c, hc, e⟩ := h
  exact ⟨c, (Below.heap_alloc w o b hl).trans hc, e⟩

theorem Own.drew {w : World} {b : Nat} {t : TypeId} {xs : List Value} (h : Own w b t xs) : Own w.drew b t xs := h

/-- The values xs are the words of the first k cells of l, and as many others as are wanted for the rest. -/
def Words (xs : List Value) (l : List M.Cl) (k : Nat) : Prop :=
  xs.length = l.length * 5 ∧ ∀ i, i < k → xs[i * 5]? = some (.int .i64 (l.getD i M.zero).kind) ∧ xs[i * 5 + 1]? = some (.int .i64 (l.getD i M.zero).num) ∧ xs[i * 5 + 2]? = some (.string (l.getD i M.zero).text) ∧ xs[i * 5 + 3]? = some (.string (l.getD i M.zero).key) ∧ xs[i * 5 + 4]? = some (.int .i64 (l.getD i M.zero).n)

theorem getD_mem (l : List M.Cl) (k : Nat) (hk : k < l.length) : l.getD k M.zero ∈ l := by
  rw [List.getD_eq_getElem?_getD, List.getElem?_eq_getElem hk]; exact List.getElem_mem hk

theorem bytes_ext {a b : ByteArray} (h : a.toList = b.toList) : a = b := by
  rw [ByteArray.toList_eq, ByteArray.toList_eq] at h
  cases a; cases b
  simp only at h
  congr
  exact Array.toList_inj.1 h

end Go.Proofs.YtemehbjlfiebdaaGreat
