/-
  The plain mathematics of chapter 1: cells, the code of a cell, and where a value ends and how deep it is, as plain functions of lists. No word of the program is used here.
-/
import Derived.WalkKit
namespace Go.Proofs.Ytnjfafiikednnah
open Go.RowKit
theorem hide {p : Prop} (h : p) : Hid p := h
theorem unhide {p : Prop} (h : Hid p) : p := h
namespace M

/-- A cell, by its five fields. -/
structure Cl where
  kind : Int
  num : Int
  text : ByteArray
  key : ByteArray
  n : Int

/-- What each field must be to lie in memory. -/
def Cl.ok (c : Cl) : Prop :=
  (-9223372036854775808 ≤ c.kind ∧ c.kind ≤ 9223372036854775807) ∧ (-9223372036854775808 ≤ c.num ∧ c.num ≤ 9223372036854775807) ∧
  (-9223372036854775808 ≤ c.n ∧ c.n ≤ 9223372036854775807) ∧ c.text.size ≤ 9223372036854775807 ∧ c.key.size ≤ 9223372036854775807

def zero : Cl := ⟨0, 0, ByteArray.empty, ByteArray.empty, 0⟩

/-- Its five words of memory. -/
def Cl.vals (c : Cl) : List Value := [.int .i64 c.kind, .int .i64 c.num, .string c.text, .string c.key, .int .i64 c.n]
def Cl.agg (c : Cl) : Value := .agg #[.int .i64 c.kind, .int .i64 c.num, .string c.text, .string c.key, .int .i64 c.n]

def byteOk (b : UInt8) : Bool := decide (32 ≤ (b.toNat : Int)) && decide ((b.toNat : Int) ≤ 126)
def textOk (s : ByteArray) : Bool := decide (s.size ≤ 60) && s.data.toList.all byteOk

def cellCode (c : Cl) : Int :=
  if c.kind < 0 ∨ 6 < c.kind then 6
  else if (c.num ≠ 0 ∧ c.kind ≠ 3) ∨ (c.text.toList ≠ [] ∧ c.kind ≠ 4) ∨ (c.n ≠ 0 ∧ c.kind ≠ 5 ∧ c.kind ≠ 6) then 1
  else if c.num < -1000000000000000 ∨ 1000000000000000 < c.num ∨ c.n < 0 ∨ 200 < c.n then 3
  else if textOk c.text = true ∧ textOk c.key = true then 0 else 5

/-- The code of the first cell that has one. -/
def firstCode : List Cl → Int
  | [] => 0
  | c :: r => if cellCode c = 0 then firstCode r else cellCode c

def keyLe (a b : ByteArray) : Bool := Op.bytesLess a.toList b.toList || (a.toList == b.toList)

/-- May the k-th part of a cell c not begin at place e, where the key ahead of it was last? -/
def bad (v : List Cl) (c : Cl) (k : Nat) (e : Nat) (last : ByteArray) : Bool :=
  if e < v.length then (decide (c.kind = 5) && decide ((v.getD e zero).key.toList ≠ [])) || (decide (c.kind = 6) && decide (0 < k) && keyLe (v.getD e zero).key last)
  else true

def kids (rec : Nat → Option (Nat × Nat)) (v : List Cl) (c : Cl) : Nat → Nat → Nat → Nat → ByteArray → Option (Nat × Nat)
  | 0, _, e, d, _ => some (e, d)
  | m + 1, k, e, d, last => if bad v c k e last = true then none else
    match rec e with
    | none => none
    | some (e', d') => kids rec v c m (k + 1) e' (max d d') (v.getD e zero).key

/-- Where the value at a place ends, and how deep it is. -/
def walk (v : List Cl) : Nat → Nat → Option (Nat × Nat)
  | 0, _ => none
  | f + 1, at' => (kids (walk v f) v (v.getD at' zero) (v.getD at' zero).n.toNat 0 (at' + 1) 0 ByteArray.empty).map fun r => (r.1, r.2 + 1)

theorem kids_bd (rec : Nat → Option (Nat × Nat)) (v : List Cl) (c : Cl) (L : Nat) (hrec : ∀ e, e < v.length → ∀ r, rec e = some r → e < r.1 ∧ r.1 ≤ v.length ∧ r.2 ≤ L) (m : Nat) :
    ∀ k e d last r, e ≤ v.length → d ≤ L → kids rec v c m k e d last = some r → e ≤ r.1 ∧ r.1 ≤ v.length ∧ d ≤ r.2 ∧ r.2 ≤ L := by
  induction m with
  | zero => intro k e d last r he hd h; simp only [kids, Option.some.injEq] at h; subst h; exact ⟨Nat.le_refl _, he, Nat.le_refl _, hd⟩
  | succ m ih =>
    intro k e d last r he hd h
    simp only [kids] at h
    split at h
    · cases h
    · rename_i hb
      have hlt : e < v.length := by
        by_cases hx : e < v.length
        · exact hx
        · exact absurd (show bad v c k e last = true by unfold bad; rw [if_neg hx]) hb
      split at h
      · cases h
      · rename_i e' d' hre
        have h1 := hrec e hlt _ hre
        simp only at h1
        have := ih (k + 1) e' (max d d') _ r h1.2.1 (by omega) h
        omega

theorem walk_bd (v : List Cl) (f : Nat) : ∀ e, e < v.length → ∀ r, walk v f e = some r → e < r.1 ∧ r.1 ≤ v.length ∧ r.2 ≤ f := by
  induction f with
  | zero => intro e _ r h; cases h
  | succ f ih =>
    intro e he r h
    simp only [walk, Option.map_eq_some_iff] at h
    obtain ⟨q, hq, rfl⟩ := h
    have := kids_bd (walk v f) v _ f ih _ _ _ _ _ q (by omega) (by omega) hq
    simp only
    omega

def valueFault (v : List Cl) : Int :=
  if v.length < 1 ∨ 200 < v.length then 2
  else if firstCode v ≠ 0 then firstCode v
  else match walk v v.length 0 with
    | none => 1
    | some (e, d) => if e ≠ v.length ∨ (v.getD 0 zero).key.toList ≠ [] then 1 else if 20 < d then 7 else 0

end M
end Go.Proofs.Ytnjfafiikednnah
