/-
  Code, plainly: instructions, their faults, the heights of the stack. No word of the program is used here.
  Heights, plainly: how great they are; what laying one asks. No word of the program is used here.
-/
import Derived.Test.YtgjbibkppofjfaaDoorMem
namespace Go.Proofs.YtgjbibkppofjfaaDoor
open Go.RowKit
set_option linter.unusedVariables false
set_option linter.unusedSimpArgs false

/-- An instruction, by its fields. -/
structure Ic where
  op : Int
  arg : Int
  val : List M.Cl
namespace Ic
def zero : Ic := ⟨0, 0, []⟩
def jumps (op : Int) : Bool := decide (10 ≤ op) && decide (op ≤ 14)
def holds (op : Int) : Bool := op == 3 || op == 9
def regs (op : Int) : Bool := decide (16 ≤ op) && decide (op ≤ 18)
/-- What an instruction's Arg is: 0 nothing, 1 an op, 2 what is done, 3 a place, 4 a register. -/
def argK (op : Int) : Int := if op = 5 then 1 else if op = 8 then 2 else if jumps op = true then 3 else if regs op = true then 4 else 0
/-- The least that an Arg may be, and the first number that is too great. -/
def low (k : Int) (i : Nat) : Int := if k = 1 ∨ k = 2 then 1 else if k = 3 then (i : Int) + 1 else 0
def top (k : Int) (n : Nat) (rg : Int) : Int := if k = 1 then 12 else if k = 2 then 9 else if k = 3 then (n : Int) else if k = 4 then rg else 1
def takes (op : Int) : Int := if op = 1 ∨ op = 2 ∨ op = 7 ∨ op = 8 ∨ op = 11 ∨ op = 16 ∨ op = 18 ∨ op = 19 then 1 else if op = 4 ∨ op = 5 ∨ op = 6 ∨ op = 9 then 2 else 0
def lays (op : Int) : Int := if op = 1 ∨ op = 4 then 2 else if op = 3 ∨ op = 17 ∨ op = 5 ∨ op = 6 ∨ op = 9 ∨ op = 7 ∨ op = 8 then 1 else 0
def ends (op : Int) : Bool := op == 10 || op == 15 || op == 19
theorem takes_bd (op : Int) : 0 ≤ takes op ∧ takes op ≤ 2 := by unfold takes; repeat' split; all_goals omega
theorem lays_bd (op : Int) : 0 ≤ lays op ∧ lays op ≤ 2 := by unfold lays; repeat' split; all_goals omega
theorem argK_bd (op : Int) : 0 ≤ argK op ∧ argK op ≤ 4 := by unfold argK; repeat' split; all_goals omega
/-- The fault of what an instruction holds. -/
def valF (c : Ic) : Int := if M.valueFault c.val ≠ 0 then M.valueFault c.val else if c.op = 9 ∧ (c.val.getD 0 M.zero).kind ≠ 4 then 6 else 0
/-- The fault of one instruction by itself. -/
def oneF (c : Ic) (i n : Nat) (rg : Int) : Int :=
  if c.op < 1 ∨ 19 < c.op then 6
  else if (argK c.op = 0 ∧ c.arg ≠ 0) ∨ (holds c.op = false ∧ 0 < c.val.length) then 1
  else if holds c.op = true ∧ valF c ≠ 0 then valF c
  else if c.arg < low (argK c.op) i ∨ top (argK c.op) n rg ≤ c.arg then 3 else 0
theorem one_6 {c : Ic} (i n : Nat) (rg : Int) (h : c.op < 1 ∨ 19 < c.op) : oneF c i n rg = 6 := by unfold oneF; rw [if_pos h]
theorem one_1 {c : Ic} (i n : Nat) (rg : Int) (h : ¬ (c.op < 1 ∨ 19 < c.op)) (h1 : (argK c.op = 0 ∧ c.arg ≠ 0) ∨ (holds c.op = false ∧ 0 < c.val.length)) : oneF c i n rg = 1 := by unfold oneF; rw [if_neg h, if_pos h1]
theorem one_v {c : Ic} (i n : Nat) (rg : Int) (h : ¬ (c.op < 1 ∨ 19 < c.op)) (h1 : ¬ ((argK c.op = 0 ∧ c.arg ≠ 0) ∨ (holds c.op = false ∧ 0 < c.val.length))) (h2 : holds c.op = true) (h3 : valF c ≠ 0) : oneF c i n rg = valF c := by unfold oneF; rw [if_neg h, if_neg h1, if_pos ⟨h2, h3⟩]
theorem one_3 {c : Ic} (i n : Nat) (rg : Int) (h : ¬ (c.op < 1 ∨ 19 < c.op)) (h1 : ¬ ((argK c.op = 0 ∧ c.arg ≠ 0) ∨ (holds c.op = false ∧ 0 < c.val.length))) (h2 : ¬ (holds c.op = true ∧ valF c ≠ 0)) (h3 : c.arg < low (argK c.op) i ∨ top (argK c.op) n rg ≤ c.arg) : oneF c i n rg = 3 := by unfold oneF; rw [if_neg h, if_neg h1, if_neg h2, if_pos h3]
theorem one_0 {c : Ic} (i n : Nat) (rg : Int) (h : ¬ (c.op < 1 ∨ 19 < c.op)) (h1 : ¬ ((argK c.op = 0 ∧ c.arg ≠ 0) ∨ (holds c.op = false ∧ 0 < c.val.length))) (h2 : ¬ (holds c.op = true ∧ valF c ≠ 0)) (h3 : ¬ (c.arg < low (argK c.op) i ∨ top (argK c.op) n rg ≤ c.arg)) : oneF c i n rg = 0 := by unfold oneF; rw [if_neg h, if_neg h1, if_neg h2, if_neg h3]
theorem val_bad {c : Ic} (h : M.valueFault c.val ≠ 0) : valF c = M.valueFault c.val := by unfold valF; rw [if_pos h]
theorem val_kind {c : Ic} (h : M.valueFault c.val = 0) (h2 : c.op = 9) (h3 : (c.val.getD 0 M.zero).kind ≠ 4) : valF c = 6 := by unfold valF; rw [if_neg (fun e => e h), if_pos ⟨h2, h3⟩]
theorem val_ok {c : Ic} (h : M.valueFault c.val = 0) (h2 : ¬ (c.op = 9 ∧ (c.val.getD 0 M.zero).kind ≠ 4)) : valF c = 0 := by unfold valF; rw [if_neg (fun e => e h), if_neg h2]
/-- What is right of an instruction without a fault. -/
theorem one_parts {c : Ic} {i n : Nat} {rg : Int} (h : oneF c i n rg = 0) : (1 ≤ c.op ∧ c.op ≤ 19) ∧ (low (argK c.op) i ≤ c.arg ∧ c.arg < top (argK c.op) n rg) := by
  unfold oneF at h
  split at h
  · cases h
  split at h
  · cases h
  split at h
  · rename_i h3; exact absurd h h3.2
  split at h
  · cases h
  · omega
theorem jump_K {op : Int} (h : jumps op = true) : argK op = 3 := by
  unfold argK
  have h2 : 10 ≤ op ∧ op ≤ 14 := by unfold jumps at h; simpa using h
  rw [if_neg (by omega), if_neg (by omega), if_pos h]
theorem K_jump {op : Int} (h : argK op = 3) : jumps op = true := by
  cases hj : jumps op with
  | true => rfl
  | false =>
    unfold argK at h
    rw [hj] at h
    simp only [Bool.false_eq_true, if_false] at h
    repeat' split at h
    all_goals cases h
/-- Where a jump without a fault goes. -/
theorem one_jump {c : Ic} {i n : Nat} {rg : Int} (h : oneF c i n rg = 0) (hj : jumps c.op = true) : (i : Int) + 1 ≤ c.arg ∧ c.arg < (n : Int) := by
  obtain ⟨_, h1, h2⟩ := one_parts h
  rw [jump_K hj] at h1 h2
  exact ⟨h1, h2⟩
/-- The first fault among k instructions. -/
def scan (l : List Ic) (rg : Int) : Nat → Int × Int
  | 0 => (0, 0)
  | k + 1 => if (scan l rg k).1 = 0 then (if oneF (l.getD k zero) k l.length rg = 0 then (0, 0) else (oneF (l.getD k zero) k l.length rg, k)) else scan l rg k
theorem scan_none {l : List Ic} {rg : Int} : ∀ {k : Nat}, (∀ j, j < k → oneF (l.getD j zero) j l.length rg = 0) → scan l rg k = (0, 0)
  | 0, _ => rfl
  | k + 1, h => by
    have h1 := scan_none (l := l) (rg := rg) (k := k) fun j hj => h j (by omega)
    rw [scan, h1, if_pos rfl, if_pos (h k (by omega))]
theorem scan_all {l : List Ic} {rg : Int} : ∀ {k : Nat}, (scan l rg k).1 = 0 → ∀ j, j < k → oneF (l.getD j zero) j l.length rg = 0
  | 0, _, j, hj => by omega
  | k + 1, h, j, hj => by
    rw [scan] at h
    split at h
    · rename_i h1
      split at h
      · rename_i h2
        by_cases e : j = k
        · subst e; exact h2
        · exact scan_all h1 j (by omega)
      · rename_i h2; exact absurd h h2
    · rename_i h1; exact absurd h h1
theorem scan_stop {l : List Ic} {rg : Int} {k : Nat} (h : (scan l rg k).1 ≠ 0) : ∀ n, k ≤ n → scan l rg n = scan l rg k := by
  intro n
  induction n with
  | zero => intro hk; rw [show k = 0 by omega]
  | succ n ih =>
    intro hk
    by_cases e : k = n + 1
    · rw [e]
    · have h1 := ih (by omega)
      rw [scan, h1, if_neg h]
theorem scan_hit {l : List Ic} {rg : Int} {k : Nat} (hk : k < l.length) (h0 : ∀ j, j < k → oneF (l.getD j zero) j l.length rg = 0) (h1 : oneF (l.getD k zero) k l.length rg ≠ 0) : scan l rg l.length = (oneF (l.getD k zero) k l.length rg, (k : Int)) := by
  have e : scan l rg (k + 1) = (oneF (l.getD k zero) k l.length rg, (k : Int)) := by rw [scan, scan_none h0, if_pos rfl, if_neg h1]
  rw [scan_stop (k := k + 1) (by rw [e]; exact h1) l.length (by omega), e]
/-! heights -/
/-- Where an instruction at place i goes on. -/
def places (c : Ic) (i : Nat) : List Int := (if ends c.op = true then [] else [(i : Int) + 1]) ++ (if jumps c.op = true then [c.arg] else [])
/-- A height laid at a place; none: it cannot be. -/
def put (n : Nat) (h : Int) (out : List Int) (p : Int) : Option (List Int) := if (n : Int) ≤ p ∨ (0 ≤ out.getD p.toNat (-1) ∧ out.getD p.toNat (-1) ≠ h) then none else some (out.set p.toNat h)
def putAll (n : Nat) (h : Int) : List Int → List Int → Option (List Int)
  | [], out => some out
  | p :: r, out => match put n h out p with
    | none => none
    | some o => putAll n h r o
/-- What an instruction does to the heights. -/
def step (l : List Ic) (i : Nat) (out : List Int) : Option (List Int) :=
  if out.getD i (-1) < 0 then some out else if out.getD i (-1) < takes (l.getD i zero).op then none else putAll l.length (out.getD i (-1) - takes (l.getD i zero).op + lays (l.getD i zero).op) (places (l.getD i zero) i) out
def start (n : Nat) : List Int := (List.replicate n (-1)).set 0 1
/-- The heights behind k instructions, or where they cannot be told. -/
def htF (l : List Ic) : Nat → List Int ⊕ Nat
  | 0 => .inl (start l.length)
  | k + 1 => match htF l k with
    | .inr b => .inr b
    | .inl out => match step l k out with
      | none => .inr k
      | some o => .inl o
theorem ht_stop {l : List Ic} {k b : Nat} (h : htF l k = .inr b) : ∀ n, k ≤ n → htF l n = .inr b := by
  intro n
  induction n with
  | zero => intro hk; rw [show (0 : Nat) = k by omega]; exact h
  | succ n ih =>
    intro hk
    by_cases e : k = n + 1
    · rw [← e]; exact h
    · rw [htF, ih (by omega)]
theorem ht_next {l : List Ic} {k : Nat} {out o : List Int} (h : htF l k = .inl out) (hs : step l k out = some o) : htF l (k + 1) = .inl o := by rw [htF, h]; simp only [hs]
theorem ht_bad {l : List Ic} {k : Nat} {out : List Int} (h : htF l k = .inl out) (hs : step l k out = none) (hk : k < l.length) : htF l l.length = .inr k := by
  refine ht_stop (k := k + 1) ?_ l.length (by omega)
  rw [htF, h]; simp only [hs]
/-- What the heights are at any time: as many as instructions, none below -1. -/
def Fair (n : Nat) (out : List Int) : Prop := out.length = n ∧ ∀ j, -1 ≤ out.getD j (-1) ∧ out.getD j (-1) ≤ 20000
theorem fair_set {n : Nat} {out : List Int} (h : Fair n out) (p : Nat) (x : Int) (hx : -1 ≤ x) (hx2 : x ≤ 20000) : Fair n (out.set p x) := by
  refine ⟨by rw [List.length_set]; exact h.1, fun j => ?_⟩
  have := h.2 j
  rw [List.getD_eq_getElem?_getD, List.getElem?_set] at *
  split
  · split
    · simpa using ⟨hx, hx2⟩
    · simp
  · exact this
/-- The fault of code, and where. -/
def fault (l : List Ic) (rg : Int) : Int × Int :=
  if rg < 0 ∨ 1000 < rg then (3, 0) else if l.length < 1 ∨ 6000 < l.length then (2, 0) else if (scan l rg l.length).1 ≠ 0 then scan l rg l.length else match htF l l.length with
    | .inr b => (9, (b : Int))
    | .inl _ => (0, 0)
theorem fault_regs {l : List Ic} {rg : Int} (h : rg < 0 ∨ 1000 < rg) : fault l rg = (3, 0) := by unfold fault; rw [if_pos h]
theorem fault_many {l : List Ic} {rg : Int} (h : ¬ (rg < 0 ∨ 1000 < rg)) (h1 : l.length < 1 ∨ 6000 < l.length) : fault l rg = (2, 0) := by unfold fault; rw [if_neg h, if_pos h1]
theorem fault_one {l : List Ic} {rg : Int} (h : ¬ (rg < 0 ∨ 1000 < rg)) (h1 : ¬ (l.length < 1 ∨ 6000 < l.length)) {k : Nat} (hk : k < l.length) (h0 : ∀ j, j < k → oneF (l.getD j zero) j l.length rg = 0) (h2 : oneF (l.getD k zero) k l.length rg ≠ 0) : fault l rg = (oneF (l.getD k zero) k l.length rg, (k : Int)) := by
  have e := scan_hit hk h0 h2
  unfold fault
  rw [if_neg h, if_neg h1, if_pos (by rw [e]; exact h2), e]
theorem fault_code {l : List Ic} {rg : Int} (h : ¬ (rg < 0 ∨ 1000 < rg)) (h1 : ¬ (l.length < 1 ∨ 6000 < l.length)) (h0 : ∀ j, j < l.length → oneF (l.getD j zero) j l.length rg = 0) {b : Nat} (h2 : htF l l.length = .inr b) : fault l rg = (9, (b : Int)) := by
  unfold fault
  rw [if_neg h, if_neg h1, if_neg (by rw [scan_none h0]; simp), h2]
theorem fault_ok {l : List Ic} {rg : Int} (h : ¬ (rg < 0 ∨ 1000 < rg)) (h1 : ¬ (l.length < 1 ∨ 6000 < l.length)) (h0 : ∀ j, j < l.length → oneF (l.getD j zero) j l.length rg = 0) {o : List Int} (h2 : htF l l.length = .inl o) : fault l rg = (0, 0) := by
  unfold fault
  rw [if_neg h, if_neg h1, if_neg (by rw [scan_none h0]; simp), h2]
theorem fault_parts {l : List Ic} {rg : Int} (h : (fault l rg).1 = 0) : (0 ≤ rg ∧ rg ≤ 1000) ∧ (1 ≤ l.length ∧ l.length ≤ 6000) ∧ (∀ j, j < l.length → oneF (l.getD j zero) j l.length rg = 0) ∧ ∃ o, htF l l.length = .inl o := by
  unfold fault at h
  split at h
  · cases h
  split at h
  · cases h
  split at h
  · rename_i h3; exact absurd h h3
  rename_i h1 h2 h3
  have hz : (scan l rg l.length).1 = 0 := by
    by_cases e : (scan l rg l.length).1 = 0
    · exact e
    · exact absurd e h3
  refine ⟨by omega, by omega, scan_all hz, ?_⟩
  split at h
  · cases h
  · rename_i o ho; exact ⟨o, ho⟩
/-- What HeightsOf answers. -/
def heightsOut (l : List Ic) (rg : Int) : Int × List Int := if (fault l rg).1 ≠ 0 then ((fault l rg).1, []) else match htF l l.length with
  | .inl o => (0, o)
  | .inr _ => (0, [])
/-- How code lies in memory: each instruction's fields, and a row of its own cells. -/
def At (w : World) (b o : Nat) (c : Ic) : Prop := w.cell? ⟨b, o, none⟩ = some (.int .i64 c.op) ∧ w.cell? ⟨b, o + 1, none⟩ = some (.int .i64 c.arg) ∧ ∃ g : Nat, w.cell? ⟨b, o + 2, none⟩ = some (.slice (some ⟨g, 0, none⟩) c.val.length c.val.length) ∧ g < w.heap.size ∧ Row w g 0 c.val
def Row (w : World) (b : Nat) (l : List Ic) : Prop := ∀ i, i < l.length → At w b (i * 3) (l.getD i zero)
theorem Row.below {w w' : World} {b : Nat} {l : List Ic} (h : Row w b l) (hb : Below w.heap.size w w') (hB : b < w.heap.size) : Row w' b l := by
  intro i hi
  obtain ⟨h0, h1, g, h2, hg, hr⟩ := h i hi
  exact ⟨(hb.cell (by exact hB)).trans h0, (hb.cell (by exact hB)).trans h1, g, (hb.cell (by exact hB)).trans h2, Nat.lt_of_lt_of_le hg hb.size, hr.below hb hg⟩
/-- What each field must be to lie in memory. -/
def ok (c : Ic) : Prop := (-9223372036854775808 ≤ c.op ∧ c.op ≤ 9223372036854775807) ∧ (-9223372036854775808 ≤ c.arg ∧ c.arg ≤ 9223372036854775807) ∧ ∀ x ∈ c.val, x.ok
end Ic

end Go.Proofs.YtgjbibkppofjfaaDoor

namespace Go.Proofs.YtgjbibkppofjfaaDoor
open Go.RowKit
set_option linter.unusedVariables false
set_option linter.unusedSimpArgs false
namespace Ic
theorem lays_takes (op : Int) : lays op ≤ takes op + 1 := by
  unfold lays takes
  repeat' split
  all_goals omega
/-- As many heights as instructions, none below -1 or above B. -/
def Fr (n : Nat) (B : Int) (out : List Int) : Prop := out.length = n ∧ ∀ j, -1 ≤ out.getD j (-1) ∧ out.getD j (-1) ≤ B
theorem Fr.mono {n : Nat} {B B' : Int} {out : List Int} (h : Fr n B out) (hB : B ≤ B') : Fr n B' out := ⟨h.1, fun j => ⟨(h.2 j).1, by have := (h.2 j).2; omega⟩⟩
theorem Fr.set {n : Nat} {B : Int} {out : List Int} (h : Fr n B out) (p : Nat) (x : Int) (hx : -1 ≤ x) (hx2 : x ≤ B) (hB : -1 ≤ B) : Fr n B (out.set p x) := by
  refine ⟨by rw [List.length_set]; exact h.1, fun j => ?_⟩
  have := h.2 j
  rw [List.getD_eq_getElem?_getD, List.getElem?_set] at *
  split
  · split
    · simpa using ⟨hx, hx2⟩
    · simpa using hB
  · exact this
theorem put_bad {n : Nat} {h : Int} {out : List Int} {p : Int} (hb : (n : Int) ≤ p ∨ (0 ≤ out.getD p.toNat (-1) ∧ out.getD p.toNat (-1) ≠ h)) : put n h out p = none := by unfold put; rw [if_pos hb]
theorem put_ok {n : Nat} {h : Int} {out : List Int} {p : Int} (hb : ¬ ((n : Int) ≤ p ∨ (0 ≤ out.getD p.toNat (-1) ∧ out.getD p.toNat (-1) ≠ h))) : put n h out p = some (out.set p.toNat h) := by unfold put; rw [if_neg hb]
theorem putAll_bad {n : Nat} {h : Int} {out : List Int} {p : Int} {r : List Int} (hb : put n h out p = none) : putAll n h (p :: r) out = none := by rw [putAll, hb]
theorem putAll_go {n : Nat} {h : Int} {out o : List Int} {p : Int} {r : List Int} (hb : put n h out p = some o) : putAll n h (p :: r) out = putAll n h r o := by rw [putAll, hb]
theorem start_fr (n : Nat) : Fr n 1 (start n) := by
  unfold start
  refine Fr.set ⟨by simp, fun j => ?_⟩ 0 1 (by omega) (by omega) (by omega)
  rw [List.getD_eq_getElem?_getD, List.getElem?_replicate]
  split <;> simp
theorem step_none {l : List Ic} {i : Nat} {out : List Int} (h : out.getD i (-1) < 0) : step l i out = some out := by unfold step; rw [if_pos h]
theorem step_few {l : List Ic} {i : Nat} {out : List Int} (h : ¬ out.getD i (-1) < 0) (h1 : out.getD i (-1) < takes (l.getD i zero).op) : step l i out = none := by unfold step; rw [if_neg h, if_pos h1]
theorem step_go {l : List Ic} {i : Nat} {out : List Int} (h : ¬ out.getD i (-1) < 0) (h1 : ¬ out.getD i (-1) < takes (l.getD i zero).op) : step l i out = putAll l.length (out.getD i (-1) - takes (l.getD i zero).op + lays (l.getD i zero).op) (places (l.getD i zero) i) out := by unfold step; rw [if_neg h, if_neg h1]
theorem places_back {c : Ic} {i : Nat} (h : c.op = 15 ∨ c.op = 19) : places c i = [] := by
  unfold places ends jumps
  rcases h with h | h <;> rw [h] <;> rfl
theorem places_jump {c : Ic} {i : Nat} (h : c.op = 10) : places c i = [c.arg] := by
  unfold places ends jumps
  rw [h]; rfl
theorem places_both {c : Ic} {i : Nat} (h : c.op ≠ 10) (hj : jumps c.op = true) : places c i = [(i : Int) + 1, c.arg] := by
  have h2 : 10 ≤ c.op ∧ c.op ≤ 14 := by unfold jumps at hj; simpa using hj
  have e : ends c.op = false := by unfold ends; simp; omega
  unfold places
  rw [e, hj]; rfl
theorem places_next {c : Ic} {i : Nat} (h : ¬ (c.op = 15 ∨ c.op = 19)) (hj : jumps c.op = false) : places c i = [(i : Int) + 1] := by
  have h2 : ¬ (10 ≤ c.op ∧ c.op ≤ 14) := by unfold jumps at hj; simpa using hj
  have e : ends c.op = false := by unfold ends; simp; omega
  unfold places
  rw [e, hj]; rfl
/-- Where code without a fault goes on. -/
theorem places_bd {c : Ic} {i n : Nat} {rg : Int} (h : oneF c i n rg = 0) : ∀ p ∈ places c i, (i : Int) + 1 ≤ p ∧ p ≤ (n : Int) ∨ p = (i : Int) + 1 := by
  intro p hp
  unfold places at hp
  rw [List.mem_append] at hp
  rcases hp with hp | hp
  · right
    cases he : ends c.op with
    | true => rw [he] at hp; simp at hp
    | false => rw [he] at hp; simpa using hp
  · left
    cases hj : jumps c.op with
    | false => rw [hj] at hp; simp at hp
    | true =>
      rw [hj] at hp
      have hp : p = c.arg := by simpa using hp
      have := one_jump h hj
      omega
end Ic
/-- A row of numbers of the call's own. -/
def Iw (w : World) (g : Nat) (xs : List Int) : Prop := Own w g 2 (xs.map (Value.int .i64))
theorem Iw.cell {w : World} {g : Nat} {xs : List Int} (h : Iw w g xs) {j : Nat} (hj : j < xs.length) : w.cell? ⟨g, j, none⟩ = some (.int .i64 (xs.getD j (-1))) := by
  have := Own.cell h j
  rw [this, List.getElem?_map, List.getElem?_eq_getElem hj, List.getD_eq_getElem?_getD, List.getElem?_eq_getElem hj]
  rfl
theorem Iw.set {w : World} {g : Nat} {xs : List Int} (h : Iw w g xs) (j : Nat) (x : Int) : Iw (w.setCell ⟨g, j, none⟩ (.int .i64 x)) g (xs.set j x) := by
  have := Own.set h j (.int .i64 x)
  unfold Iw
  rw [List.map_set]
  exact this
theorem Iw.keep {w w' : World} {g : Nat} {xs : List Int} (h : Iw w g xs) (hk : w'.heap[g]? = w.heap[g]?) : Iw w' g xs := by
  obtain ⟨c, hc, e⟩ := h
  exact ⟨c, hk.trans hc, e⟩

end Go.Proofs.YtgjbibkppofjfaaDoor
