/-
  The plain mathematics of chapter 1: cells, the code of a cell, and where a value ends and how deep it is, as plain functions of lists. No word of the program is used here.
  The small functions of chapter 1 over one text and one cell, of the program and of its model: each returns what the plain function of the same question says.
-/
import Derived.Test.YtbaanpgbfncdnaaGreatRows
import Derived.WalkKit
import Derived.WalkLawsBesides
import Derived.WalkSpells
namespace Go.Proofs.YtbaanpgbfncdnaaGreat
open Go.RowKit
theorem hide {p : Prop} (h : p) : Hid p := h
theorem unhide {p : Prop} (h : Hid p) : p := h
namespace M

/-- A cell, by its five fields. -/
structure Cl where
  kind : Int
  num : Int
  text : ByteArray
  key : ByteArray
  n : Int

/-- What each field must be to lie in memory. -/
def Cl.ok (c : Cl) : Prop :=
  (-9223372036854775808 ≤ c.kind ∧ c.kind ≤ 9223372036854775807) ∧ (-9223372036854775808 ≤ c.num ∧ c.num ≤ 9223372036854775807) ∧
  (-9223372036854775808 ≤ c.n ∧ c.n ≤ 9223372036854775807) ∧ c.text.size ≤ 9223372036854775807 ∧ c.key.size ≤ 9223372036854775807

def zero : Cl := ⟨0, 0, ByteArray.empty, ByteArray.empty, 0⟩

/-- Its five words of memory. -/
def Cl.vals (c : Cl) : List Value := [.int .i64 c.kind, .int .i64 c.num, .string c.text, .string c.key, .int .i64 c.n]
def Cl.agg (c : Cl) : Value := .agg #[.int .i64 c.kind, .int .i64 c.num, .string c.text, .string c.key, .int .i64 c.n]

def byteOk (b : UInt8) : Bool := decide (32 ≤ (b.toNat : Int)) && decide ((b.toNat : Int) ≤ 126)
def textOk (s : ByteArray) : Bool := decide (s.size ≤ 60) && s.data.toList.all byteOk

def cellCode (c : Cl) : Int :=
  if c.kind < 0 ∨ 6 < c.kind then 6
  else if (c.num ≠ 0 ∧ c.kind ≠ 3) ∨ (c.text.toList ≠ [] ∧ c.kind ≠ 4) ∨ (c.n ≠ 0 ∧ c.kind ≠ 5 ∧ c.kind ≠ 6) then 1
  else if c.num < -1000000000000000 ∨ 1000000000000000 < c.num ∨ c.n < 0 ∨ 200 < c.n then 3
  else if textOk c.text = true ∧ textOk c.key = true then 0 else 5

/-- The code of the first cell that has one. -/
def firstCode : List Cl → Int
  | [] => 0
  | c :: r => if cellCode c = 0 then firstCode r else cellCode c

def keyLe (a b : ByteArray) : Bool := Op.bytesLess a.toList b.toList || (a.toList == b.toList)

/-- May the k-th part of a cell c not begin at place e, where the key ahead of it was last? -/
def bad (v : List Cl) (c : Cl) (k : Nat) (e : Nat) (last : ByteArray) : Bool :=
  if e < v.length then (decide (c.kind = 5) && decide ((v.getD e zero).key.toList ≠ [])) || (decide (c.kind = 6) && decide (0 < k) && keyLe (v.getD e zero).key last)
  else true

def kids (rec : Nat → Option (Nat × Nat)) (v : List Cl) (c : Cl) : Nat → Nat → Nat → Nat → ByteArray → Option (Nat × Nat)
  | 0, _, e, d, _ => some (e, d)
  | m + 1, k, e, d, last => if bad v c k e last = true then none else
    match rec e with
    | none => none
    | some (e', d') => kids rec v c m (k + 1) e' (max d d') (v.getD e zero).key

/-- Where the value at a place ends, and how deep it is. -/
def walk (v : List Cl) : Nat → Nat → Option (Nat × Nat)
  | 0, _ => none
  | f + 1, at' => (kids (walk v f) v (v.getD at' zero) (v.getD at' zero).n.toNat 0 (at' + 1) 0 ByteArray.empty).map fun r => (r.1, r.2 + 1)

theorem kids_bd (rec : Nat → Option (Nat × Nat)) (v : List Cl) (c : Cl) (L : Nat) (hrec : ∀ e, e < v.length → ∀ r, rec e = some r → e < r.1 ∧ r.1 ≤ v.length ∧ r.2 ≤ L) (m : Nat) :
    ∀ k e d last r, e ≤ v.length → d ≤ L → kids rec v c m k e d last = some r → e ≤ r.1 ∧ r.1 ≤ v.length ∧ d ≤ r.2 ∧ r.2 ≤ L := by
  induction m with
  | zero => intro k e d last r he hd h; simp only [kids, Option.some.injEq] at h; subst h; exact ⟨Nat.le_refl _, he, Nat.le_refl _, hd⟩
  | succ m ih =>
    intro k e d last r he hd h
    simp only [kids] at h
    split at h
    · cases h
    · rename_i hb
      have hlt : e < v.length := by
        by_cases hx : e < v.length
        · exact hx
        · exact absurd (show bad v c k e last = true by unfold bad; rw [if_neg hx]) hb
      split at h
      · cases h
      · rename_i e' d' hre
        have h1 := hrec e hlt _ hre
        simp only at h1
        have := ih (k + 1) e' (max d d') _ r h1.2.1 (by omega) h
        omega

theorem walk_bd (v : List Cl) (f : Nat) : ∀ e, e < v.length → ∀ r, walk v f e = some r → e < r.1 ∧ r.1 ≤ v.length ∧ r.2 ≤ f := by
  induction f with
  | zero => intro e _ r h; cases h
  | succ f ih =>
    intro e he r h
    simp only [walk, Option.map_eq_some_iff] at h
    obtain ⟨q, hq, rfl⟩ := h
    have := kids_bd (walk v f) v _ f ih _ _ _ _ _ q (by omega) (by omega) hq
    simp only
    omega

def valueFault (v : List Cl) : Int :=
  if v.length < 1 ∨ 200 < v.length then 2
  else if firstCode v ≠ 0 then firstCode v
  else match walk v v.length 0 with
    | none => 1
    | some (e, d) => if e ≠ v.length ∨ (v.getD 0 zero).key.toList ≠ [] then 1 else if 20 < d then 7 else 0

end M
end Go.Proofs.YtbaanpgbfncdnaaGreat

namespace Go.Proofs.YtbaanpgbfncdnaaGreat
open Go.RowKit

theorem ret_bool {a b : Bool} (h : a = b) : Ending.returned (.bool a) = .returned (.bool b) := by rw [h]
theorem ret_int {k : IntKind} {a b : Int} (h : a = b) : Ending.returned (.int k a) = .returned (.int k b) := by rw [h]

theorem take_snoc (s : ByteArray) (k : Nat) (h : k < s.size) : s.data.toList.take (k + 1) = s.data.toList.take k ++ [s[k]] := by
  rw [List.take_succ_eq_append_getElem (by simpa using h)]; rfl

theorem all_snoc (s : ByteArray) (k : Nat) (h : k < s.size) : (s.data.toList.take (k + 1)).all M.byteOk = ((s.data.toList.take k).all M.byteOk && M.byteOk s[k]) := by
  rw [take_snoc s k h]; simp

theorem all_stop (s : ByteArray) (k : Nat) (h : k < s.size) (hb : M.byteOk s[k] = false) : M.textOk s = false := by
  have : s.data.toList.all M.byteOk = false := by
    rw [List.all_eq_false]
    refine ⟨s[k], ?_, by simp [hb]⟩
    have hk : k < s.data.toList.length := by simpa using h
    have : s.data.toList[k] = s[k] := rfl
    rw [← this]
    exact List.getElem_mem hk
  simp [M.textOk, this]

theorem all_end (s : ByteArray) (k : Nat) (hk : k = s.size) (hs : s.size ≤ 60) (h : (s.data.toList.take k).all M.byteOk = true) : M.textOk s = true := by
  subst hk
  rw [List.take_of_length_le (by simp)] at h
  simp [M.textOk, hs, h]

theorem long_no (s : ByteArray) (h : 60 < s.size) : M.textOk s = false := by
  simp [M.textOk]; omega

set_option maxHeartbeats 400000 in
/-- spec.l1Text. -/
theorem l1Text_any (s : ByteArray) (w : World) (hs : s.size ≤ 9223372036854775807) :
    Calls Tryz.prog 138 #[.string s] w fun e w' => e = .returned (.bool (M.textOk s)) ∧ w' = w := by
  by_cases hlong : 60 < s.size
  · have hn := hide (long_no s hlong)
    go_enter Tryz.func138, Tryz.ntmps138
    go_wp2
    go_ret
    exact ⟨ret_bool (unhide hn).symm, rfl⟩
  · have h60 : s.size ≤ 60 := by omega
    go_enter Tryz.func138, Tryz.ntmps138
    go_wp2
    go_loop [3] (fun i => ∃ k : Nat, k ≤ s.size ∧ i = .int .i64 k ∧ Hid ((s.data.toList.take k).all M.byteOk = true)) (fun i => s.size - (intOf i).toNat)
    case atStart => exact ⟨0, Nat.zero_le _, rfl, rfl⟩
    case round =>
      obtain ⟨k, hk, rfl, hall⟩ := hrel
      by_cases hlt : k < s.size
      · by_cases h1 : (s[k].toNat : Int) < 32
        · have hn := hide (all_stop s k hlt (by simp [M.byteOk]; omega))
          go_wp2
          go_ret
          exact ⟨ret_bool (unhide hn).symm, rfl⟩
        · by_cases h2 : 126 < (s[k].toNat : Int)
          · have hn := hide (all_stop s k hlt (by simp [M.byteOk]; omega))
            go_wp2
            go_ret
            exact ⟨ret_bool (unhide hn).symm, rfl⟩
          · have hn := hide (all_snoc s k hlt)
            have hb := hide (show M.byteOk s[k] = true by simp [M.byteOk]; omega)
            go_wp2
            go_round
            case rel => exact ⟨k + 1, by omega, by go_num, by show _ = true; rw [unhide hn, hall.out, unhide hb]; rfl⟩
            case measure => simp [intOf]; omega
      · go_wp2
        go_ret
        exact ⟨ret_bool (all_end s k (by omega) h60 hall.out).symm, rfl⟩

set_option maxHeartbeats 400000 in
/-- impl.textFits. -/
theorem textFits_any (s : ByteArray) (w : World) (hs : s.size ≤ 9223372036854775807) :
    Calls Tryz.prog 155 #[.string s] w fun e w' => e = .returned (.bool (M.textOk s)) ∧ w' = w := by
  by_cases hlong : 60 < s.size
  · have hn := hide (long_no s hlong)
    go_enter Tryz.func155, Tryz.ntmps155
    go_wp2
    go_ret
    exact ⟨ret_bool (unhide hn).symm, rfl⟩
  · have h60 : s.size ≤ 60 := by omega
    go_enter Tryz.func155, Tryz.ntmps155
    go_wp2
    go_loop [9] (fun i => ∃ k : Nat, k ≤ s.size ∧ i = .int .i64 k ∧ Hid ((s.data.toList.take k).all M.byteOk = true)) (fun i => s.size - (intOf i).toNat)
    case atStart => exact ⟨0, Nat.zero_le _, rfl, rfl⟩
    case round =>
      obtain ⟨k, hk, rfl, hall⟩ := hrel
      by_cases hlt : k < s.size
      · by_cases h1 : (s[k].toNat : Int) < 32
        · have hn := hide (all_stop s k hlt (by simp [M.byteOk]; omega))
          go_wp2
          go_ret
          exact ⟨ret_bool (unhide hn).symm, rfl⟩
        · by_cases h2 : 126 < (s[k].toNat : Int)
          · have hn := hide (all_stop s k hlt (by simp [M.byteOk]; omega))
            go_wp2
            go_ret
            exact ⟨ret_bool (unhide hn).symm, rfl⟩
          · have hn := hide (all_snoc s k hlt)
            have hb := hide (show M.byteOk s[k] = true by simp [M.byteOk]; omega)
            go_wp2
            go_round
            case rel => exact ⟨k + 1, by omega, by go_num, by show _ = true; rw [unhide hn, hall.out, unhide hb]; rfl⟩
            case measure => simp [intOf]; omega
      · go_wp2
        go_ret
        exact ⟨ret_bool (all_end s k (by omega) h60 hall.out).symm, rfl⟩

end Go.Proofs.YtbaanpgbfncdnaaGreat
