/-
  Heights, plainly: how great they are; what laying one asks. No word of the program is used here.
-/
import Derived.Test.YtfmljlhcaimafaaDoorInM
namespace Go.Proofs.YtfmljlhcaimafaaDoor
open Go.RowKit
set_option linter.unusedVariables false
set_option linter.unusedSimpArgs false
namespace Ic
theorem lays_takes (op : Int) : lays op ≤ takes op + 1 := by
  unfold lays takes
  repeat' split
  all_goals omega
/-- As many heights as instructions, none below -1 or above B. -/
def Fr (n : Nat) (B : Int) (out : List Int) : Prop := out.length = n ∧ ∀ j, -1 ≤ out.getD j (-1) ∧ out.getD j (-1) ≤ B
theorem Fr.mono {n : Nat} {B B' : Int} {out : List Int} (h : Fr n B out) (hB : B ≤ B') : Fr n B' out := ⟨h.1, fun j => ⟨(h.2 j).1, by have := (h.2 j).2; omega⟩⟩
theorem Fr.set {n : Nat} {B : Int} {out : List Int} (h : Fr n B out) (p : Nat) (x : Int) (hx : -1 ≤ x) (hx2 : x ≤ B) (hB : -1 ≤ B) : Fr n B (out.set p x) := by
  refine ⟨by rw [List.length_set]; exact h.1, fun j => ?_⟩
  have := h.2 j
  rw [List.getD_eq_getElem?_getD, List.getElem?_set] at *
  split
  · split
    · simpa using ⟨hx, hx2⟩
    · simpa using hB
  · exact this
theorem put_bad {n : Nat} {h : Int} {out : List Int} {p : Int} (hb : (n : Int) ≤ p ∨ (0 ≤ out.getD p.toNat (-1) ∧ out.getD p.toNat (-1) ≠ h)) : put n h out p = none := by unfold put; rw [if_pos hb]
theorem put_ok {n : Nat} {h : Int} {out : List Int} {p : Int} (hb : ¬ ((n : Int) ≤ p ∨ (0 ≤ out.getD p.toNat (-1) ∧ out.getD p.toNat (-1) ≠ h))) : put n h out p = some (out.set p.toNat h) := by unfold put; rw [if_neg hb]
theorem putAll_bad {n : Nat} {h : Int} {out : List Int} {p : Int} {r : List Int} (hb : put n h out p = none) : putAll n h (p :: r) out = none := by rw [putAll, hb]
theorem putAll_go {n : Nat} {h : Int} {out o : List Int} {p : Int} {r : List Int} (hb : put n h out p = some o) : putAll n h (p :: r) out = putAll n h r o := by rw [putAll, hb]
theorem start_fr (n : Nat) : Fr n 1 (start n) := by
  unfold start
  refine Fr.set ⟨by simp, fun j => ?_⟩ 0 1 (by omega) (by omega) (by omega)
  rw [List.getD_eq_getElem?_getD, List.getElem?_replicate]
  split <;> simp
theorem step_none {l : List Ic} {i : Nat} {out : List Int} (h : out.getD i (-1) < 0) : step l i out = some out := by unfold step; rw [if_pos h]
theorem step_few {l : List Ic} {i : Nat} {out : List Int} (h : ¬ out.getD i (-1) < 0) (h1 : out.getD i (-1) < takes (l.getD i zero).op) : step l i out = none := by unfold step; rw [if_neg h, if_pos h1]
theorem step_go {l : List Ic} {i : Nat} {out : List Int} (h : ¬ out.getD i (-1) < 0) (h1 : ¬ out.getD i (-1) < takes (l.getD i zero).op) : step l i out = putAll l.length (out.getD i (-1) - takes (l.getD i zero).op + lays (l.getD i zero).op) (places (l.getD i zero) i) out := by unfold step; rw [if_neg h, if_neg h1]
theorem places_back {c : Ic} {i : Nat} (h : c.op = 15 ∨ c.op = 19) : places c i = [] := by
  unfold places ends jumps
  rcases h with h | h <;> rw [h] <;> rfl
theorem places_jump {c : Ic} {i : Nat} (h : c.op = 10) : places c i = [c.arg] := by
  unfold places ends jumps
  rw [h]; rfl
theorem places_both {c : Ic} {i : Nat} (h : c.op ≠ 10) (hj : jumps c.op = true) : places c i = [(i : Int) + 1, c.arg] := by
  have h2 : 10 ≤ c.op ∧ c.op ≤ 14 := by unfold jumps at hj; simpa using hj
  have e : ends c.op = false := by unfold ends; simp; omega
  unfold places
  rw [e, hj]; rfl
theorem places_next {c : Ic} {i : Nat} (h : ¬ (c.op = 15 ∨ c.op = 19)) (hj : jumps c.op = false) : places c i = [(i : Int) + 1] := by
  have h2 : ¬ (10 ≤ c.op ∧ c.op ≤ 14) := by unfold jumps at hj; simpa using hj
  have e : ends c.op = false := by unfold ends; simp; omega
  unfold places
  rw [e, hj]; rfl
/-- Where code without a fault goes on. -/
theorem places_bd {c : Ic} {i n : Nat} {rg : Int} (h : oneF c i n rg = 0) : ∀ p ∈ places c i, (i : Int) + 1 ≤ p ∧ p ≤ (n : Int) ∨ p = (i : Int) + 1 := by
  intro p hp
  unfold places at hp
  rw [List.mem_append] at hp
  rcases hp with hp | hp
  · right
    cases he : ends c.op with
    | true => rw [he] at hp; simp at hp
    | false => rw [he] at hp; simpa using hp
  · left
    cases hj : jumps c.op with
    | false => rw [hj] at hp; simp at hp
    | true =>
      rw [hj] at hp
      have hp : p = c.arg := by simpa using hp
      have := one_jump h hj
      omega
end Ic
/-- A row of numbers of the call's own. -/
def Iw (w : World) (g : Nat) (xs : List Int) : Prop := Own w g 2 (xs.map (Value.int .i64))
theorem Iw.cell {w : World} {g : Nat} {xs : List Int} (h : Iw w g xs) {j : Nat} (hj : j < xs.length) : w.cell? ⟨g, j, none⟩ = some (.int .i64 (xs.getD j (-1))) := by
  have := Own.cell h j
  rw [this, List.getElem?_map, List.getElem?_eq_getElem hj, List.getD_eq_getElem?_getD, List.getElem?_eq_getElem hj]
  rfl
theorem Iw.set {w : World} {g : Nat} {xs : List Int} (h : Iw w g xs) (j : Nat) (x : Int) : Iw (w.setCell ⟨g, j, none⟩ (.int .i64 x)) g (xs.set j x) := by
  have := Own.set h j (.int .i64 x)
  unfold Iw
  rw [List.map_set]
  exact this
theorem Iw.keep {w w' : World} {g : Nat} {xs : List Int} (h : Iw w g xs) (hk : w'.heap[g]? = w.heap[g]?) : Iw w' g xs := by
  obtain ⟨c, hc, e⟩ := h
  exact ⟨c, hk.trans hc, e⟩

end Go.Proofs.YtfmljlhcaimafaaDoor
