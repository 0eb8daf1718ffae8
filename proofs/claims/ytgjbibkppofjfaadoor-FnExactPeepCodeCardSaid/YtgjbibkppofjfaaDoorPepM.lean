/-
  Code looked at closely, plainly: which instructions stay, and what becomes of their Args. No word of the program is used here.
-/
import Derived.Test.YtgjbibkppofjfaaDoorInE
namespace Go.Proofs.YtgjbibkppofjfaaDoor
open Go.RowKit
set_option linter.unusedVariables false
set_option linter.unusedSimpArgs false
namespace Ic
/-- An instruction that lays one value and does nothing else. -/
def laysOne (op : Int) : Bool := op == 1 || op == 3 || op == 17
/-- A pair at i that undoes itself, and nothing jumps between. -/
def ipa (l : List Ic) (i : Nat) : Bool := laysOne (l.getD i zero).op && (decide (i + 1 < l.length) && (l.getD (i + 1) zero).op == 2)
def pairAt (l : List Ic) (i : Nat) : Bool := ipa l i && !hit l ((i : Int) + 1) l.length
/-- Is i the second of a pair that goes? -/
def snd (l : List Ic) : Nat → Bool
  | 0 => false
  | i + 1 => !snd l i && pairAt l i
def gone (l : List Ic) (i : Nat) : Bool := snd l i || pairAt l i
/-- The places below k that stay. -/
def kept (l : List Ic) : Nat → List Int
  | 0 => []
  | k + 1 => kept l k ++ (if gone l k = true then [] else [(k : Int)])
def told (l : List Ic) (c : Ic) : Ic := ⟨c.op, if jumps c.op = true then ((kept l c.arg.toNat).length : Int) else c.arg, c.val⟩
def raw (l : List Ic) (k : Nat) : List Ic := (kept l k).map fun p => l.getD p.toNat zero
def peeped (l : List Ic) : List Ic := (raw l l.length).map (told l)
/-- What PeepCode answers: code, At, instructions, registers. -/
def peepOut (l : List Ic) (rg : Int) : Int × Int × List Ic × Int := if (fault l rg).1 ≠ 0 then ((fault l rg).1, (fault l rg).2, [], 0) else (0, 0, peeped l, rg)
theorem peep_bad {l : List Ic} {rg : Int} (h : (fault l rg).1 ≠ 0) : peepOut l rg = ((fault l rg).1, (fault l rg).2, [], 0) := by unfold peepOut; rw [if_pos h]
theorem peep_ok {l : List Ic} {rg : Int} (h : (fault l rg).1 = 0) : peepOut l rg = (0, 0, peeped l, rg) := by unfold peepOut; rw [if_neg (fun e => e h)]
theorem pair_next {l : List Ic} {i : Nat} (h : pairAt l i = true) : i + 1 < l.length := by
  unfold pairAt ipa at h
  simp only [Bool.and_eq_true, decide_eq_true_eq] at h
  exact h.1.2.1
theorem go_pair {l : List Ic} {i : Nat} (hs : snd l i = false) (h : pairAt l i = true) : snd l (i + 2) = false ∧ kept l (i + 1) = kept l i ∧ kept l (i + 2) = kept l i := by
  have h1 : snd l (i + 1) = true := by rw [snd, hs, h]; rfl
  have g0 : gone l i = true := by unfold gone; rw [h]; simp
  have g1 : gone l (i + 1) = true := by unfold gone; rw [h1]; rfl
  have e1 : kept l (i + 1) = kept l i := by rw [kept, if_pos g0, List.append_nil]
  refine ⟨by rw [snd, h1]; rfl, e1, ?_⟩
  rw [kept, if_pos g1, List.append_nil, e1]
theorem go_one {l : List Ic} {i : Nat} (hs : snd l i = false) (h : pairAt l i = false) : snd l (i + 1) = false ∧ kept l (i + 1) = kept l i ++ [(i : Int)] := by
  have g0 : gone l i = false := by unfold gone; rw [hs, h]; rfl
  refine ⟨by rw [snd, hs, h]; rfl, ?_⟩
  rw [kept, if_neg (by rw [g0]; decide)]
theorem kept_mem {l : List Ic} {x : Int} : ∀ {k : Nat}, x ∈ kept l k ↔ ∃ j : Nat, x = (j : Int) ∧ j < k ∧ gone l j = false
  | 0 => ⟨fun h => (by cases h), fun ⟨j, _, h, _⟩ => (by omega)⟩
  | k + 1 => by
    rw [kept, List.mem_append, kept_mem (k := k)]
    constructor
    · rintro (⟨j, h1, h2, h3⟩ | h)
      · exact ⟨j, h1, by omega, h3⟩
      · split at h
        · cases h
        · rename_i hh; simp only [List.mem_singleton] at h; exact ⟨k, h, by omega, by simpa using hh⟩
    · rintro ⟨j, h1, h2, h3⟩
      by_cases e : j = k
      · subst e; right; rw [if_neg (by rw [h3]; decide)]; simp [h1]
      · exact Or.inl ⟨j, h1, by omega, h3⟩
theorem kept_len (l : List Ic) : ∀ k : Nat, (kept l k).length ≤ k
  | 0 => Nat.le_refl _
  | k + 1 => by
    have := kept_len l k
    rw [kept, List.length_append]
    split <;> simp <;> omega
/-- Those that stay below n are those below j and others behind them. -/
theorem kept_split (l : List Ic) (j : Nat) : ∀ n : Nat, j ≤ n → ∃ r, kept l n = kept l j ++ r ∧ ∀ x ∈ r, (j : Int) ≤ x
  | 0, h => ⟨[], by rw [show j = 0 by omega]; rfl, fun x hx => by cases hx⟩
  | n + 1, h => by
    by_cases e : j = n + 1
    · exact ⟨[], by rw [e, List.append_nil], fun x hx => by cases hx⟩
    · obtain ⟨r, h1, h2⟩ := kept_split l j n (by omega)
      refine ⟨r ++ (if gone l n = true then [] else [(n : Int)]), by rw [kept, h1, List.append_assoc], fun x hx => ?_⟩
      rcases List.mem_append.1 hx with hx | hx
      · exact h2 x hx
      · split at hx
        · cases hx
        · simp only [List.mem_singleton] at hx; omega
theorem kept_mono (l : List Ic) {j n : Nat} (h : j ≤ n) : (kept l j).length ≤ (kept l n).length := by
  obtain ⟨r, h1, _⟩ := kept_split l j n h
  rw [h1, List.length_append]; omega
/-- How many stay below j, told by how they lie in the list. -/
theorem kept_pos (l : List Ic) (j n : Nat) (h : j ≤ n) (p : Nat) (hp : p ≤ (kept l n).length) (h1 : ∀ i, i < p → (kept l n).getD i 0 < (j : Int)) (h2 : ∀ i, p ≤ i → i < (kept l n).length → (j : Int) ≤ (kept l n).getD i 0) : p = (kept l j).length := by
  obtain ⟨r, e, hr⟩ := kept_split l j n h
  have hlen : (kept l n).length = (kept l j).length + r.length := by rw [e, List.length_append]
  by_cases c : p < (kept l j).length
  · have hx := h2 p (Nat.le_refl _) (by omega)
    rw [e, List.getD_eq_getElem?_getD, List.getElem?_append_left c, List.getElem?_eq_getElem c] at hx
    obtain ⟨i, hi, hi2, _⟩ := kept_mem.1 (List.getElem_mem c)
    simp only [Option.getD_some] at hx
    omega
  · by_cases c2 : (kept l j).length < p
    · have hx := h1 (kept l j).length c2
      have hb : 0 < r.length := by omega
      rw [e, List.getD_eq_getElem?_getD, List.getElem?_append_right (Nat.le_refl _), Nat.sub_self, List.getElem?_eq_getElem hb] at hx
      have := hr _ (List.getElem_mem hb)
      simp only [Option.getD_some] at hx
      omega
    · omega
theorem raw_len (l : List Ic) (k : Nat) : (raw l k).length = (kept l k).length := by simp [raw]
theorem raw_one {l : List Ic} {i : Nat} (hs : snd l i = false) (h : pairAt l i = false) : raw l (i + 1) = raw l i ++ [l.getD i zero] := by
  unfold raw
  rw [(go_one hs h).2, List.map_append]
  simp
theorem raw_pair {l : List Ic} {i : Nat} (hs : snd l i = false) (h : pairAt l i = true) : raw l (i + 2) = raw l i := by
  unfold raw
  rw [(go_pair hs h).2.2]
/-- What stays lies among the instructions. -/
theorem raw_mem {l : List Ic} {k : Nat} (hk : k ≤ l.length) {c : Ic} (h : c ∈ raw l k) : ∃ j, j < l.length ∧ c = l.getD j zero := by
  unfold raw at h
  rw [List.mem_map] at h
  obtain ⟨p, hp, rfl⟩ := h
  obtain ⟨j, rfl, hj, _⟩ := kept_mem.1 hp
  exact ⟨j, by omega, rfl⟩
theorem lays_not {op : Int} (h1 : op ≠ 1) (h3 : op ≠ 3) (h17 : op ≠ 17) : laysOne op = false := by
  unfold laysOne
  simp [h1, h3, h17]
theorem lays_cases {op : Int} (h : laysOne op = true) : (op == 1) = true ∨ ((op == 1) = false ∧ (op == 3) = true) ∨ ((op == 1) = false ∧ (op == 3) = false ∧ (op == 17) = true) := by
  unfold laysOne at h
  cases q1 : (op == 1) <;> cases q3 : (op == 3) <;> cases q7 : (op == 17) <;> simp_all
theorem lays_no {op : Int} (h : laysOne op = false) : (op == 1) = false ∧ (op == 3) = false ∧ (op == 17) = false := by
  unfold laysOne at h
  simpa [and_assoc] using h
theorem ipa_lays {l : List Ic} {i : Nat} (h : laysOne (l.getD i zero).op = false) : ipa l i = false := by unfold ipa; rw [h]; rfl
theorem ipa_end {l : List Ic} {i : Nat} (h : ¬ i + 1 < l.length) : ipa l i = false := by unfold ipa; rw [decide_eq_false h]; simp
theorem ipa_next {l : List Ic} {i : Nat} (h : (l.getD (i + 1) zero).op ≠ 2) : ipa l i = false := by
  unfold ipa
  rw [show ((l.getD (i + 1) zero).op == 2) = false by simpa using h]; simp
theorem ipa_yes {l : List Ic} {i : Nat} (h : laysOne (l.getD i zero).op = true) (h1 : i + 1 < l.length) (h2 : (l.getD (i + 1) zero).op = 2) : ipa l i = true := by
  unfold ipa
  rw [h, decide_eq_true h1, show ((l.getD (i + 1) zero).op == 2) = true by simpa using h2]; rfl
/-- What is among the places that are jumped to. -/
theorem tg_hit {l : List Ic} {rg : Int} (hall : ∀ j, j < l.length → oneF (l.getD j zero) j l.length rg = 0) (p : Int) : p ∈ tg l l.length ↔ hit l p l.length = true := by
  rw [tg_mem]
  constructor
  · rintro ⟨j, rfl, _, h⟩; exact h
  · intro h
    obtain ⟨j, rfl, hj⟩ := hit_in hall (Nat.le_refl _) h
    exact ⟨j, rfl, hj, h⟩
theorem kept_rises (l : List Ic) : ∀ k : Nat, (kept l k).Pairwise (· < ·)
  | 0 => List.Pairwise.nil
  | k + 1 => by
    rw [kept]
    refine List.pairwise_append.2 ⟨kept_rises l k, by split <;> simp, fun a ha b hb => ?_⟩
    obtain ⟨j, h1, h2, _⟩ := kept_mem.1 ha
    split at hb
    · cases hb
    · simp only [List.mem_singleton] at hb; omega
/-- What stands at k among those that stay. -/
theorem kept_at {l : List Ic} {k : Nat} (hk : k < (kept l l.length).length) : ∃ p : Nat, (kept l l.length).getD k 0 = (p : Int) ∧ p < l.length ∧ (peeped l)[k]? = some (told l (l.getD p zero)) := by
  obtain ⟨p, h1, h2, _⟩ := kept_mem.1 (List.getElem_mem hk)
  refine ⟨p, ?_, h2, ?_⟩
  · rw [List.getD_eq_getElem?_getD, List.getElem?_eq_getElem hk]; exact h1
  · unfold peeped raw
    rw [List.getElem?_map, List.getElem?_map, List.getElem?_eq_getElem hk, h1]
    rfl
theorem peeped_len (l : List Ic) : (peeped l).length = (kept l l.length).length := by simp [peeped, raw]
end Ic

end Go.Proofs.YtgjbibkppofjfaaDoor
