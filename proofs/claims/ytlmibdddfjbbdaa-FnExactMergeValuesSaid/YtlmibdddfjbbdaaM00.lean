/-
  The plain mathematics of chapter 1: cells, the code of a cell, and where a value ends and how deep it is, as plain functions of lists. No word of the program is used here.
  Cells in memory: what it is that a list of cells lies in a row of memory, and what keeps it there. No word of the program is used here.
-/
import Derived.WalkKit
namespace Go.Proofs.Ytlmibdddfjbbdaa
open Go.RowKit
theorem hide {p : Prop} (h : p) : Hid p := h
theorem unhide {p : Prop} (h : Hid p) : p := h
namespace M

/-- A cell, by its five fields. -/
structure Cl where
  kind : Int
  num : Int
  text : ByteArray
  key : ByteArray
  n : Int

/-- What each field must be to lie in memory. -/
def Cl.ok (c : Cl) : Prop :=
  (-9223372036854775808 ≤ c.kind ∧ c.kind ≤ 9223372036854775807) ∧ (-9223372036854775808 ≤ c.num ∧ c.num ≤ 9223372036854775807) ∧
  (-9223372036854775808 ≤ c.n ∧ c.n ≤ 9223372036854775807) ∧ c.text.size ≤ 9223372036854775807 ∧ c.key.size ≤ 9223372036854775807

def zero : Cl := ⟨0, 0, ByteArray.empty, ByteArray.empty, 0⟩

/-- Its five words of memory. -/
def Cl.vals (c : Cl) : List Value := [.int .i64 c.kind, .int .i64 c.num, .string c.text, .string c.key, .int .i64 c.n]
def Cl.agg (c : Cl) : Value := .agg #[.int .i64 c.kind, .int .i64 c.num, .string c.text, .string c.key, .int .i64 c.n]

def byteOk (b : UInt8) : Bool := decide (32 ≤ (b.toNat : Int)) && decide ((b.toNat : Int) ≤ 126)
def textOk (s : ByteArray) : Bool := decide (s.size ≤ 60) && s.data.toList.all byteOk

def cellCode (c : Cl) : Int :=
  if c.kind < 0 ∨ 6 < c.kind then 6
  else if (c.num ≠ 0 ∧ c.kind ≠ 3) ∨ (c.text.toList ≠ [] ∧ c.kind ≠ 4) ∨ (c.n ≠ 0 ∧ c.kind ≠ 5 ∧ c.kind ≠ 6) then 1
  else if c.num < -1000000000000000 ∨ 1000000000000000 < c.num ∨ c.n < 0 ∨ 200 < c.n then 3
  else if textOk c.text = true ∧ textOk c.key = true then 0 else 5

/-- The code of the first cell that has one. -/
def firstCode : List Cl → Int
  | [] => 0
  | c :: r => if cellCode c = 0 then firstCode r else cellCode c

def keyLe (a b : ByteArray) : Bool := Op.bytesLess a.toList b.toList || (a.toList == b.toList)

/-- May the k-th part of a cell c not begin at place e, where the key ahead of it was last? -/
def bad (v : List Cl) (c : Cl) (k : Nat) (e : Nat) (last : ByteArray) : Bool :=
  if e < v.length then (decide (c.kind = 5) && decide ((v.getD e zero).key.toList ≠ [])) || (decide (c.kind = 6) && decide (0 < k) && keyLe (v.getD e zero).key last)
  else true

def kids (rec : Nat → Option (Nat × Nat)) (v : List Cl) (c : Cl) : Nat → Nat → Nat → Nat → ByteArray → Option (Nat × Nat)
  | 0, _, e, d, _ => some (e, d)
  | m + 1, k, e, d, last => if bad v c k e last = true then none else
    match rec e with
    | none => none
    | some (e', d') => kids rec v c m (k + 1) e' (max d d') (v.getD e zero).key

/-- Where the value at a place ends, and how deep it is. -/
def walk (v : List Cl) : Nat → Nat → Option (Nat × Nat)
  | 0, _ => none
  | f + 1, at' => (kids (walk v f) v (v.getD at' zero) (v.getD at' zero).n.toNat 0 (at' + 1) 0 ByteArray.empty).map fun r => (r.1, r.2 + 1)

theorem kids_bd (rec : Nat → Option (Nat × Nat)) (v : List Cl) (c : Cl) (L : Nat) (hrec : ∀ e, e < v.length → ∀ r, rec e = some r → e < r.1 ∧ r.1 ≤ v.length ∧ r.2 ≤ L) (m : Nat) :
    ∀ k e d last r, e ≤ v.length → d ≤ L → kids rec v c m k e d last = some r → e ≤ r.1 ∧ r.1 ≤ v.length ∧ d ≤ r.2 ∧ r.2 ≤ L := by
  induction m with
  | zero => intro k e d last r he hd h; simp only [kids, Option.some.injEq] at h; subst h; exact ⟨Nat.le_refl _, he, Nat.le_refl _, hd⟩
  | succ m ih =>
    intro k e d last r he hd h
    simp only [kids] at h
    split at h
    · cases h
    · rename_i hb
      have hlt : e < v.length := by
        by_cases hx : e < v.length
        · exact hx
        · exact absurd (show bad v c k e last = true by unfold bad; rw [if_neg hx]) hb
      split at h
      · cases h
      · rename_i e' d' hre
        have h1 := hrec e hlt _ hre
        simp only at h1
        have := ih (k + 1) e' (max d d') _ r h1.2.1 (by omega) h
        omega

theorem walk_bd (v : List Cl) (f : Nat) : ∀ e, e < v.length → ∀ r, walk v f e = some r → e < r.1 ∧ r.1 ≤ v.length ∧ r.2 ≤ f := by
  induction f with
  | zero => intro e _ r h; cases h
  | succ f ih =>
    intro e he r h
    simp only [walk, Option.map_eq_some_iff] at h
    obtain ⟨q, hq, rfl⟩ := h
    have := kids_bd (walk v f) v _ f ih _ _ _ _ _ q (by omega) (by omega) hq
    simp only
    omega

def valueFault (v : List Cl) : Int :=
  if v.length < 1 ∨ 200 < v.length then 2
  else if firstCode v ≠ 0 then firstCode v
  else match walk v v.length 0 with
    | none => 1
    | some (e, d) => if e ≠ v.length ∨ (v.getD 0 zero).key.toList ≠ [] then 1 else if 20 < d then 7 else 0

end M
end Go.Proofs.Ytlmibdddfjbbdaa

namespace Go.Proofs.Ytlmibdddfjbbdaa
open Go.RowKit

/-- The five words of a cell lie at an address. -/
def Cell5 (w : World) (b o : Nat) (c : M.Cl) : Prop :=
  w.cell? ⟨b, o, none⟩ = some (.int .i64 c.kind) ∧ w.cell? ⟨b, o + 1, none⟩ = some (.int .i64 c.num) ∧ w.cell? ⟨b, o + 2, none⟩ = some (.string c.text) ∧ w.cell? ⟨b, o + 3, none⟩ = some (.string c.key) ∧ w.cell? ⟨b, o + 4, none⟩ = some (.int .i64 c.n)

/-- The cells of a list lie one behind the other. -/
def Row (w : World) (b off : Nat) (l : List M.Cl) : Prop := ∀ i, i < l.length → Cell5 w b (off + i * 5) (l.getD i M.zero)

theorem Row.below {B : Nat} {w w' : World} {b off : Nat} {l : List M.Cl} (h : Row w b off l) (hb : Below B w w') (hB : b < B) : Row w' b off l := by
  intro i hi
  obtain ⟨h0, h1, h2, h3, h4⟩ := h i hi
  exact ⟨(hb.cell (by exact hB)).trans h0, (hb.cell (by exact hB)).trans h1, (hb.cell (by exact hB)).trans h2, (hb.cell (by exact hB)).trans h3, (hb.cell (by exact hB)).trans h4⟩

/-- Block b is a row that holds just the values xs, none of them frozen. -/
def Own (w : World) (b : Nat) (t : TypeId) (xs : List Value) : Prop := ∃ c : Array Value, w.heap[b]? = some (.cells c t (0, 0)) ∧ c.toList = xs

theorem Own.cell {w : World} {b : Nat} {t : TypeId} {xs : List Value} (h : Own w b t xs) (j : Nat) : w.cell? ⟨b, j, none⟩ = xs[j]? := by
  obtain ⟨c, hc, rfl⟩ := h
  rw [cell_of_row w b j c t (0, 0) hc]; simp

theorem Own.frozen {w : World} {b : Nat} {t : TypeId} {xs : List Value} (h : Own w b t xs) (j : Nat) : w.frozen? ⟨b, j, none⟩ = false := by
  obtain ⟨c, hc, rfl⟩ := h
  exact frozen_of_row w b j c t hc

theorem Own.lt {w : World} {b : Nat} {t : TypeId} {xs : List Value} (h : Own w b t xs) : b < w.heap.size := by
  obtain ⟨c, hc, _⟩ := h
  exact (Array.getElem?_eq_some_iff.1 hc).1

theorem Own.below {B : Nat} {w w' : World} {b : Nat} {t : TypeId} {xs : List Value} (h : Own w b t xs) (hb : Below B w w') (hB : b < B) : Own w' b t xs := by
  obtain ⟨c, hc, e⟩ := h
  exact ⟨c, (hb.block b hB).trans hc, e⟩

theorem Own.set {w : World} {b : Nat} {t : TypeId} {xs : List Value} (h : Own w b t xs) (j : Nat) (u : Value) : Own (w.setCell ⟨b, j, none⟩ u) b t (xs.set j u) := by
  obtain ⟨c, hc, rfl⟩ := h
  exact ⟨c.setIfInBounds j u, heap_setCell_same w b j c t u hc, by simp⟩

theorem Own.setOther {w : World} {b : Nat} {t : TypeId} {xs : List Value} (h : Own w b t xs) (p : Addr) (u : Value) (hp : b ≠ p.block) : Own (w.setCell p u) b t xs := by
  obtain ⟨c, hc, e⟩ := h
  exact ⟨c, (heap_setCell_other w p b u hp).trans hc, e⟩

theorem Own.alloc {w : World} {b : Nat} {t : TypeId} {xs : List Value} (h : Own w b t xs) (o : Obj) : Own (w.alloc o) b t xs := by
  have hl := h.lt
  obtain ⟨c, hc, e⟩ := h
  exact ⟨c, (Below.heap_alloc w o b hl).trans hc, e⟩

/-- The values xs are the words of the first k cells of l, and as many others as are wanted for the rest. -/
def Words (xs : List Value) (l : List M.Cl) (k : Nat) : Prop :=
  xs.length = l.length * 5 ∧ ∀ i, i < k → xs[i * 5]? = some (.int .i64 (l.getD i M.zero).kind) ∧ xs[i * 5 + 1]? = some (.int .i64 (l.getD i M.zero).num) ∧ xs[i * 5 + 2]? = some (.string (l.getD i M.zero).text) ∧ xs[i * 5 + 3]? = some (.string (l.getD i M.zero).key) ∧ xs[i * 5 + 4]? = some (.int .i64 (l.getD i M.zero).n)

/-- A row of the call's own that holds the cells of l. -/
def OwnRow (w : World) (b : Nat) (t : TypeId) (l : List M.Cl) : Prop := ∃ xs, Own w b t xs ∧ Words xs l l.length

theorem OwnRow.row {w : World} {b : Nat} {t : TypeId} {l : List M.Cl} (h : OwnRow w b t l) : Row w b 0 l := by
  obtain ⟨xs, ho, _, hw⟩ := h
  intro i hi
  obtain ⟨h0, h1, h2, h3, h4⟩ := hw i hi
  simp only [Nat.zero_add]
  exact ⟨(ho.cell _).trans h0, (ho.cell _).trans h1, (ho.cell _).trans h2, (ho.cell _).trans h3, (ho.cell _).trans h4⟩

theorem OwnRow.lt {w : World} {b : Nat} {t : TypeId} {l : List M.Cl} (h : OwnRow w b t l) : b < w.heap.size := by
  obtain ⟨xs, ho, _⟩ := h; exact ho.lt

theorem OwnRow.below {B : Nat} {w w' : World} {b : Nat} {t : TypeId} {l : List M.Cl} (h : OwnRow w b t l) (hb : Below B w w') (hB : b < B) : OwnRow w' b t l := by
  obtain ⟨xs, ho, hw⟩ := h; exact ⟨xs, ho.below hb hB, hw⟩

theorem set5_get (xs : List Value) (k : Nat) (v0 v1 v2 v3 v4 : Value) (hk : k * 5 + 4 < xs.length) :
    let ys := ((((xs.set (k * 5) v0).set (k * 5 + 1) v1).set (k * 5 + 2) v2).set (k * 5 + 3) v3).set (k * 5 + 4) v4
    ys[k * 5]? = some v0 ∧ ys[k * 5 + 1]? = some v1 ∧ ys[k * 5 + 2]? = some v2 ∧ ys[k * 5 + 3]? = some v3 ∧ ys[k * 5 + 4]? = some v4 ∧ ∀ j, j < k * 5 → ys[j]? = xs[j]? := by
  simp only [List.getElem?_set, List.length_set]
  refine ⟨?_, ?_, ?_, ?_, ?_, ?_⟩
  · rw [if_neg (by omega), if_neg (by omega), if_neg (by omega), if_neg (by omega), if_pos trivial, if_pos (by omega)]
  · rw [if_neg (by omega), if_neg (by omega), if_neg (by omega), if_pos trivial, if_pos (by omega)]
  · rw [if_neg (by omega), if_neg (by omega), if_pos trivial, if_pos (by omega)]
  · rw [if_neg (by omega), if_pos trivial, if_pos (by omega)]
  · rw [if_pos trivial, if_pos (by omega)]
  · intro j hj
    rw [if_neg (by omega), if_neg (by omega), if_neg (by omega), if_neg (by omega), if_neg (by omega)]

theorem Words.step {xs : List Value} {l : List M.Cl} {k : Nat} (h : Words xs l k) (hk : k < l.length) (c : M.Cl) (hc : c = l.getD k M.zero) :
    Words (((((xs.set (k * 5) (.int .i64 c.kind)).set (k * 5 + 1) (.int .i64 c.num)).set (k * 5 + 2) (.string c.text)).set (k * 5 + 3) (.string c.key)).set (k * 5 + 4) (.int .i64 c.n)) l (k + 1) := by
  subst hc
  obtain ⟨hl, hw⟩ := h
  have g := set5_get xs k (.int .i64 (l.getD k M.zero).kind) (.int .i64 (l.getD k M.zero).num) (.string (l.getD k M.zero).text) (.string (l.getD k M.zero).key) (.int .i64 (l.getD k M.zero).n) (by omega)
  refine ⟨by simpa using hl, fun i hi => ?_⟩
  by_cases e : i = k
  · subst e; exact ⟨g.1, g.2.1, g.2.2.1, g.2.2.2.1, g.2.2.2.2.1⟩
  · have o := g.2.2.2.2.2
    have hw' := hw i (by omega)
    exact ⟨(o _ (by omega)).trans hw'.1, (o _ (by omega)).trans hw'.2.1, (o _ (by omega)).trans hw'.2.2.1, (o _ (by omega)).trans hw'.2.2.2.1, (o _ (by omega)).trans hw'.2.2.2.2⟩

/-- How much a list of cells takes, as the laws reckon it. -/
def szAll : List M.Cl → Nat
  | [] => 0
  | c :: r => c.text.size + c.key.size + szAll r

theorem szAll_take (l : List M.Cl) (k : Nat) (hk : k < l.length) : szAll (l.take (k + 1)) = szAll (l.take k) + (l.getD k M.zero).text.size + (l.getD k M.zero).key.size := by
  induction l generalizing k with
  | nil => simp at hk
  | cons c r ih =>
    cases k with
    | zero => simp [szAll]
    | succ k => simp only [List.take_succ_cons, szAll, List.getD_cons_succ]; rw [ih k (by simpa using hk)]; omega

theorem getD_mem (l : List M.Cl) (k : Nat) (hk : k < l.length) : l.getD k M.zero ∈ l := by
  rw [List.getD_eq_getElem?_getD, List.getElem?_eq_getElem hk]; exact List.getElem_mem hk

theorem bytes_ext {a b : ByteArray} (h : a.toList = b.toList) : a = b := by
  rw [ByteArray.toList_eq, ByteArray.toList_eq] at h
  cases a; cases b
  simp only at h
  congr
  exact Array.toList_inj.1 h

end Go.Proofs.Ytlmibdddfjbbdaa
