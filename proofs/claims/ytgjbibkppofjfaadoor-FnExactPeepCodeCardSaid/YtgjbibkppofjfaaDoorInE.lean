/-
  The places that code jumps to, plainly; the map in which the program counts them.
-/
import Derived.Test.YtgjbibkppofjfaaDoorInC
import Derived.Test.YtgjbibkppofjfaaDoorChildT
import Derived.Lib.SlKeysI
namespace Go.Proofs.YtgjbibkppofjfaaDoor
open Go.RowKit
set_option linter.unusedVariables false
set_option linter.unusedSimpArgs false

namespace Ic
/-- Does one of the first k instructions jump to p? -/
def hit (l : List Ic) (p : Int) : Nat → Bool
  | 0 => false
  | k + 1 => hit l p k || (jumps (l.getD k zero).op && (l.getD k zero).arg == p)
/-- The places below k that are jumped to, in order. -/
def tg (l : List Ic) : Nat → List Int
  | 0 => []
  | k + 1 => tg l k ++ (if hit l (k : Int) l.length = true then [(k : Int)] else [])
def targetsOut (l : List Ic) (rg : Int) : Int × List Int := if (fault l rg).1 ≠ 0 then ((fault l rg).1, []) else (0, tg l l.length)
theorem targets_bad {l : List Ic} {rg : Int} (h : (fault l rg).1 ≠ 0) : targetsOut l rg = ((fault l rg).1, []) := by unfold targetsOut; rw [if_pos h]
theorem targets_ok {l : List Ic} {rg : Int} (h : (fault l rg).1 = 0) : targetsOut l rg = (0, tg l l.length) := by unfold targetsOut; rw [if_neg (fun e => e h)]
theorem hit_mono {l : List Ic} {p : Int} {k : Nat} (h : hit l p k = true) : ∀ n, k ≤ n → hit l p n = true := by
  intro n
  induction n with
  | zero => intro hk; rw [show k = 0 by omega] at h; exact h
  | succ n ih =>
    intro hk
    by_cases e : k = n + 1
    · rw [← e]; exact h
    · rw [hit, ih (by omega)]; rfl
theorem hit_here {l : List Ic} {p : Int} {k : Nat} (h1 : jumps (l.getD k zero).op = true) (h2 : (l.getD k zero).arg = p) : hit l p (k + 1) = true := by
  rw [hit, h1, h2]; simp
theorem hit_not {l : List Ic} {p : Int} {k : Nat} (h : ¬ (jumps (l.getD k zero).op = true ∧ (l.getD k zero).arg = p)) : hit l p (k + 1) = hit l p k := by
  rw [hit]
  cases hj : jumps (l.getD k zero).op with
  | false => simp
  | true =>
    have : ((l.getD k zero).arg == p) = false := beq_eq_false_iff_ne.2 (fun e => h ⟨hj, e⟩)
    rw [this]; simp
theorem hit_in {l : List Ic} {rg : Int} (hall : ∀ j, j < l.length → oneF (l.getD j zero) j l.length rg = 0) {p : Int} : ∀ {k : Nat}, k ≤ l.length → hit l p k = true → ∃ j : Nat, p = (j : Int) ∧ j < l.length
  | 0, _, h => by cases h
  | k + 1, hk, h => by
    by_cases hx : jumps (l.getD k zero).op = true ∧ (l.getD k zero).arg = p
    · have := one_jump (hall k (by omega)) hx.1
      exact ⟨p.toNat, by omega, by omega⟩
    · rw [hit_not hx] at h
      exact hit_in hall (by omega) h
theorem tg_mem {l : List Ic} {x : Int} : ∀ {k : Nat}, x ∈ tg l k ↔ ∃ j : Nat, x = (j : Int) ∧ j < k ∧ hit l (j : Int) l.length = true
  | 0 => ⟨fun h => (by cases h), fun ⟨j, _, h, _⟩ => (by omega)⟩
  | k + 1 => by
    rw [tg, List.mem_append, tg_mem (k := k)]
    constructor
    · rintro (⟨j, h1, h2, h3⟩ | h)
      · exact ⟨j, h1, by omega, h3⟩
      · split at h
        · rename_i hh; simp only [List.mem_singleton] at h; exact ⟨k, h, by omega, hh⟩
        · cases h
    · rintro ⟨j, h1, h2, h3⟩
      by_cases e : j = k
      · subst e; right; rw [if_pos h3]; simp [h1]
      · exact Or.inl ⟨j, h1, by omega, h3⟩
theorem tg_rises (l : List Ic) : ∀ k : Nat, (tg l k).Pairwise (· < ·)
  | 0 => List.Pairwise.nil
  | k + 1 => by
    rw [tg]
    refine List.pairwise_append.2 ⟨tg_rises l k, by split <;> simp, fun a ha b hb => ?_⟩
    obtain ⟨j, h1, h2, _⟩ := tg_mem.1 ha
    split at hb
    · simp only [List.mem_singleton] at hb; omega
    · cases hb
theorem tg_len (l : List Ic) : ∀ k : Nat, (tg l k).length ≤ k
  | 0 => Nat.le_refl _
  | k + 1 => by
    have := tg_len l k
    rw [tg, List.length_append]
    split <;> simp <;> omega
theorem tg_sorted (l : List Ic) (k : Nat) : (tg l k).mergeSort leI = tg l k :=
  List.mergeSort_of_pairwise ((tg_rises l k).imp fun h => by simp only [leI, decide_eq_true_eq]; omega)
theorem tg_once (l : List Ic) (k : Nat) : (tg l k).Nodup := (tg_rises l k).imp fun h => by omega
end Ic
open Go.Maps Go.ChangeMaps
theorem key_neI {a b : Int} (h : a ≠ b) : Lit.int .i64 a ≠ Lit.int .i64 b := by
  intro q
  simp only [Lit.int.injEq, true_and] at q
  exact h q
/-- The map holds just the places that the first k instructions jump to, each with a number of at most k. -/
structure Tm (w : World) (mb N : Nat) (l : List Ic) (k : Nat) : Prop where
  ex : ∃ D : DataW Unit, w.ownsMap Tryd.prog 2 (plainElem (H := Unit) Tryd.prog 2) mb N D ∧ IsMap D ∧ (∀ x : Int, has D (.int .i64 x) = Ic.hit l x k) ∧ (∀ x c : Int, D.atKey (.int .i64 x) (.lit (.int .i64 0)) = .lit (.int .i64 c) → 0 ≤ c ∧ c ≤ (k : Int))
theorem Tm.lt {w : World} {mb N k : Nat} {l : List Ic} (h : Tm w mb N l k) : mb < w.heap.size := by obtain ⟨D, h1, _⟩ := h; exact h1.lt
theorem Tm.keep {w w' : World} {mb N k : Nat} {l : List Ic} (h : Tm w mb N l k) (hk : w'.heap[mb]? = w.heap[mb]?) : Tm w' mb N l k := by
  obtain ⟨D, ⟨es, clock, h1, h2⟩, h3⟩ := h
  exact ⟨D, ⟨es, clock, hk.trans h1, h2⟩, h3⟩
theorem Tm.below {w w' : World} {mb N k : Nat} {l : List Ic} (h : Tm w mb N l k) (hb : Below w.heap.size w w') : Tm w' mb N l k := h.keep (hb.block mb h.lt)
theorem Tm.more {w : World} {mb N N' k : Nat} {l : List Ic} (h : Tm w mb N l k) (hN : N ≤ N') : Tm w mb N' l k := by
  obtain ⟨D, h1, h2⟩ := h
  exact ⟨D, h1.mono hN, h2⟩
theorem Tm.start (w : World) (l : List Ic) : Tm (w.alloc (.map #[] 0)) w.heap.size 0 l 0 :=
  ⟨_, World.ownsMap_made w Tryd.prog 2 _, isMap_empty, fun x => rfl, fun x c h => by
    have h2 : (DataW.lit (.int .i64 0) : DataW Unit) = .lit (.int .i64 c) := h
    simp only [DataW.lit.injEq, Lit.int.injEq, true_and] at h2
    omega⟩
theorem Tm.look {w : World} {mb N k : Nat} {l : List Ic} (h : Tm w mb N l k) (p : Nat) (hp : p ≤ 1000000) : ∃ c : Int, (Instr.lookup 65 (.map (some mb)) (.int .i64 (p : Int)) false).run Tryd.prog w = .ok (.int .i64 c) w ∧ 0 ≤ c ∧ c ≤ (k : Int) := by
  obtain ⟨D, h1, h2, h3, h4⟩ := h
  obtain ⟨c, hr, hc, _⟩ := h1.lookup_int mapK Tryd.underlying65 Tryd.underlying2 (zero64 w) (keyOf_int_mk (a := (p : Int)) Tryd.underlying2 (wf64 (by omega) (by omega)))
  exact ⟨c, hr, h4 p c hc⟩
theorem Tm.put {w : World} {mb N k : Nat} {l : List Ic} (h : Tm w mb N l k) (p : Nat) (v : Int) (hp : p ≤ 1000000) (hN : N ≤ 1000000) (h0 : 0 ≤ v) (h1 : v ≤ (k : Int) + 1) (hk : k ≤ 1000000) (hj : Ic.jumps (l.getD k Ic.zero).op = true) (ha : (l.getD k Ic.zero).arg = (p : Int)) :
    ∃ w', (Instr.mapUpdate 65 (.map (some mb)) (.int .i64 (p : Int)) (.int .i64 v)).run Tryd.prog w = .ok () w' ∧ Tm w' mb (N + 1) l (k + 1) ∧ Km w.heap.size mb w w' := by
  obtain ⟨D, g1, g2, g3, g4⟩ := h
  obtain ⟨w', hrun, ho, ht⟩ := g1.update mapK Tryd.underlying65 (by unfold maxLen; omega) (keyOf_int_mk (a := (p : Int)) Tryd.underlying2 (wf64 (by omega) (by omega))) (plainElem_int Tryd.underlying2 (a := v) (wf64 (by omega) (by omega)))
  have hkey : WideAt.IsKeyLit (.int .i64 (p : Int)) := by first | trivial | exact rfl | simp [WideAt.IsKeyLit]
  refine ⟨w', hrun, ⟨_, ho, g2.put _ _, fun x => ?_, fun x c hc => ?_⟩, Km.grown ht (Nat.le_refl _)⟩
  · by_cases e : x = (p : Int)
    · subst e
      rw [has_put_same g2 hkey, Ic.hit_here hj ha]
    · rw [has_put_other (key_neI e), g3 x, Ic.hit_not (fun q => e (by rw [← ha, q.2]))]
  · by_cases e : x = (p : Int)
    · subst e
      rw [atKey_put_same g2 hkey] at hc
      simp only [DataW.lit.injEq, Lit.int.injEq, true_and] at hc
      omega
    · rw [atKey_put_other (key_neI e)] at hc
      have := g4 x c hc
      omega
theorem Tm.skip {w : World} {mb N k : Nat} {l : List Ic} (h : Tm w mb N l k) (hj : Ic.jumps (l.getD k Ic.zero).op = false) : Tm w mb N l (k + 1) := by
  obtain ⟨D, g1, g2, g3, g4⟩ := h
  refine ⟨D, g1, g2, fun x => ?_, fun x c hc => ?_⟩
  · rw [g3 x, Ic.hit_not (fun q => by rw [q.1] at hj; cases hj)]
  · have := g4 x c hc
    omega
/-- The keys of the map, sorted. -/
theorem Tm.keys {w : World} {mb N : Nat} {l : List Ic} {rg : Int} (h : Tm w mb N l l.length) (hall : ∀ j, j < l.length → Ic.oneF (l.getD j Ic.zero) j l.length rg = 0) :
    ∃ D : DataW Unit, w.ownsMap Tryd.prog 2 (plainElem (H := Unit) Tryd.prog 2) mb N D ∧ Maps.size D ≤ N ∧ ∀ ss : List Int, ss.Perm (intKeys D) → ss.mergeSort leI = Ic.tg l l.length ∧ ss.length = (Ic.tg l l.length).length := by
  obtain ⟨D, g1, g2, g3, g4⟩ := h
  refine ⟨D, g1, g1.size_le, fun ss hp => ?_⟩
  have hc : CollectedI D (fun _ => false) (Ic.tg l l.length) := ⟨Ic.tg_once l _, fun x => by
    rw [Ic.tg_mem, g3 x]
    constructor
    · rintro ⟨j, rfl, h2, h3⟩; exact ⟨h3, rfl⟩
    · rintro ⟨h1, _⟩
      obtain ⟨j, rfl, hj⟩ := Ic.hit_in hall (Nat.le_refl _) h1
      exact ⟨j, rfl, hj, h1⟩⟩
  have hq := hc.perm g1 mapK Tryd.underlying2 (fun _ => rfl)
  have hpp := hp.trans hq.symm
  exact ⟨by rw [mergeSort_of_perm_i hpp, Ic.tg_sorted], hpp.length_eq⟩

end Go.Proofs.YtgjbibkppofjfaaDoor
