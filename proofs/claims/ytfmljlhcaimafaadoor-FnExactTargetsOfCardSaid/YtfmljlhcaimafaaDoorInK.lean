/-
  The heights that are laid at places to come, kept in a map.
-/
import Derived.Test.YtfmljlhcaimafaaDoorInN
import Derived.Test.YtfmljlhcaimafaaDoorText
import Derived.Maps.Own
import Derived.Maps.OwnSet
import Derived.Maps.Views
namespace Go.Proofs.YtfmljlhcaimafaaDoor
open Go.RowKit
set_option linter.unusedVariables false
set_option linter.unusedSimpArgs false


open Go.Maps Go.ChangeMaps
theorem key_ne {a b : Nat} (h : a ≠ b) : Lit.int .i64 (a : Int) ≠ Lit.int .i64 (b : Int) := by
  intro q
  simp only [Lit.int.injEq, true_and] at q
  omega
theorem Ic.putAll_keep {n k : Nat} {h : Int} : ∀ (ps out o : List Int), (∀ p ∈ ps, (k : Int) + 1 ≤ p) → Ic.putAll n h ps out = some o → o.length = out.length ∧ ∀ j, j ≤ k → o.getD j (-1) = out.getD j (-1) := by
  intro ps
  induction ps with
  | nil => intro out o _ e; rw [Ic.putAll] at e; injection e with e; subst e; exact ⟨rfl, fun j _ => rfl⟩
  | cons p r ih =>
    intro out o hp e
    have hpb := hp p (by simp)
    rw [Ic.putAll] at e
    cases hq : Ic.put n h out p with
    | none => rw [hq] at e; cases e
    | some o1 =>
      rw [hq] at e
      obtain ⟨h1, h2⟩ := ih o1 o (fun x hx => hp x (by simp [hx])) e
      have he : o1 = out.set p.toNat h := by
        unfold Ic.put at hq
        split at hq
        · cases hq
        · injection hq with hq; exact hq.symm
      subst he
      refine ⟨by rw [h1, List.length_set], fun j hj => ?_⟩
      rw [h2 j hj, List.getD_eq_getElem?_getD, List.getElem?_set_ne (by omega), ← List.getD_eq_getElem?_getD]
/-- Of the old blocks none but b turned. -/
structure Km (B b : Nat) (w w' : World) : Prop where
  os : w'.os = w.os
  tape : w'.tape = w.tape
  output : w'.output = w.output
  size : w.heap.size ≤ w'.heap.size
  block : ∀ k, k < B → k ≠ b → w'.heap[k]? = w.heap[k]?
theorem Km.refl (B b : Nat) (w : World) : Km B b w w := ⟨rfl, rfl, rfl, Nat.le_refl _, fun _ _ _ => rfl⟩
theorem Km.trans {B b : Nat} {u v w : World} (h : Km B b u v) (k : Km B b v w) : Km B b u w := ⟨k.os.trans h.os, k.tape.trans h.tape, k.output.trans h.output, Nat.le_trans h.size k.size, fun i hi hn => (k.block i hi hn).trans (h.block i hi hn)⟩
theorem Km.mono {B B' b : Nat} {w w' : World} (h : Km B b w w') (h1 : B' ≤ B) : Km B' b w w' := ⟨h.os, h.tape, h.output, h.size, fun k hk hn => h.block k (by omega) hn⟩
theorem Km.of_below {B b : Nat} {w w' : World} (h : Below B w w') : Km B b w w' := ⟨h.os, h.tape, h.output, h.size, fun k hk _ => h.block k hk⟩
theorem Km.below {B B' b : Nat} {w w' : World} (h : Km B b w w') (h1 : B' ≤ B) (h2 : B' ≤ b) : Below B' w w' := ⟨h.os, h.tape, h.output, h.size, fun k hk => h.block k (by omega) (by omega)⟩
theorem Km.grown {B b : Nat} {w w' : World} (h : w.grownBy w' (some b)) (hB : B ≤ w.heap.size) : Km B b w w' := ⟨h.os, h.tape, h.output, h.size, fun k hk hn => h.block k (by omega) (fun e => hn (by simpa using e))⟩
theorem Km.turned {B b : Nat} {w w' : World} (h : w.mapTurned w' b) : Km B b w w' := by
  obtain ⟨es, cl, es', cl', hb, rfl⟩ := h
  exact ⟨rfl, rfl, rfl, by simp [setBlock], fun k _ hn => heap_setBlock_other hb _ (fun e => hn e)⟩
/-- The map holds just the heights that are laid at places from k on. -/
structure Mp (w : World) (mb k N : Nat) (out : List Int) : Prop where
  ex : ∃ D : DataW Unit, w.ownsMap Tryd.prog 2 (plainElem (H := Unit) Tryd.prog 2) mb N D ∧ IsMap D ∧ (∀ j : Nat, has D (.int .i64 (j : Int)) = decide (k ≤ j ∧ 0 ≤ out.getD j (-1))) ∧ (∀ j : Nat, k ≤ j → 0 ≤ out.getD j (-1) → ∀ z, D.atKey (.int .i64 (j : Int)) z = .lit (.int .i64 (out.getD j (-1))))
theorem Mp.lt {w : World} {mb k N : Nat} {out : List Int} (h : Mp w mb k N out) : mb < w.heap.size := by obtain ⟨D, h1, _⟩ := h; exact h1.lt
theorem Mp.keep {w w' : World} {mb k N : Nat} {out : List Int} (h : Mp w mb k N out) (hk : w'.heap[mb]? = w.heap[mb]?) : Mp w' mb k N out := by
  obtain ⟨D, ⟨es, clock, h1, h2⟩, h3⟩ := h
  exact ⟨D, ⟨es, clock, hk.trans h1, h2⟩, h3⟩
theorem Mp.below {w w' : World} {mb k N : Nat} {out : List Int} (h : Mp w mb k N out) (hb : Below w.heap.size w w') : Mp w' mb k N out := h.keep (hb.block mb h.lt)
theorem mapK : Keyed Tryd.prog 2 := int_keyed Tryd.underlying2
theorem wf64 {x : Int} (h0 : -9223372036854775808 ≤ x) (h1 : x ≤ 9223372036854775807) : (Lit.int .i64 x).wf = true := by
  simp [Lit.wf, IntKind.min, IntKind.max, IntKind.signed, IntKind.bits]
  omega
theorem zero64 (w : World) : (zeroValue 2).run Tryd.prog w = .ok (.int .i64 0) w := by kernel_rfl
/-- What is laid at a place. -/
theorem Mp.look {w : World} {mb k N : Nat} {out : List Int} (h : Mp w mb k N out) (j : Nat) (hj : j ≤ 1000000) : ∃ c : Int, (Instr.lookup 74 (.map (some mb)) (.int .i64 (j : Int)) true).run Tryd.prog w = .ok (.tuple #[.int .i64 c, .bool (decide (k ≤ j ∧ 0 ≤ out.getD j (-1)))]) w ∧ (k ≤ j → 0 ≤ out.getD j (-1) → c = out.getD j (-1)) := by
  obtain ⟨D, h1, h2, h3, h4⟩ := h
  obtain ⟨v, ps, hrun, hv⟩ := h1.look_ok mapK Tryd.underlying74 (zero64 w) (zd := .lit (.int .i64 0)) (zp := []) (plainElem_int Tryd.underlying2 (by decide)) (keyOf_int_mk (a := (j : Int)) Tryd.underlying2 (wf64 (by omega) (by omega)))
  obtain ⟨c, rfl, hc, hwc⟩ := plainElem_int_inv Tryd.underlying2 hv
  rw [h3 j] at hrun
  refine ⟨c, hrun, fun hk h0 => ?_⟩
  simp only [Prod.mk.injEq] at hc
  have := hc.1
  rw [h4 j hk h0] at this
  simp only [DataW.lit.injEq, Lit.int.injEq, true_and] at this
  exact this.symm
/-- What is laid here is done with. -/
theorem Mp.del {w : World} {mb k N : Nat} {out : List Int} (h : Mp w mb k N out) (hk : k ≤ 1000000) (ty : TypeId) : ∃ w', (Builtin.delete_ #[74, 2] ty #[.map (some mb), .int .i64 (k : Int)]).run Tryd.prog w = .ok (.tuple #[]) w' ∧ Mp w' mb (k + 1) N out ∧ Km w.heap.size mb w w' := by
  obtain ⟨D, h1, h2, h3, h4⟩ := h
  obtain ⟨w', hrun, ho, ht⟩ := h1.drop mapK Tryd.underlying74 (keyOf_int_mk (a := (k : Int)) Tryd.underlying2 (wf64 (by omega) (by omega))) ty
  refine ⟨w', hrun, ⟨D.del (.int .i64 (k : Int)), ho, h2.del _, fun j => ?_, fun j hj h0 z => ?_⟩, Km.turned ht⟩
  · by_cases e : j = k
    · subst e
      rw [has_del_same]
      exact (decide_eq_false (by omega)).symm
    · rw [has_del_other (key_ne e), h3 j, decide_eq_decide]
      omega
  · rw [atKey_del_other (key_ne (by omega))]
    exact h4 j (by omega) h0 z
/-- A height laid at a place to come. -/
theorem Mp.put {w : World} {mb k N : Nat} {out : List Int} (h : Mp w mb k N out) (p : Nat) (x : Int) (hk : k ≤ p) (hp : p < out.length) (hpm : p ≤ 1000000) (hN : N ≤ 1000000) (h0 : 0 ≤ x) (h1 : x ≤ 1000000) : ∃ w', (Instr.mapUpdate 74 (.map (some mb)) (.int .i64 (p : Int)) (.int .i64 x)).run Tryd.prog w = .ok () w' ∧ Mp w' mb k (N + 1) (out.set p x) ∧ Km w.heap.size mb w w' := by
  obtain ⟨D, g1, g2, g3, g4⟩ := h
  obtain ⟨w', hrun, ho, ht⟩ := g1.update mapK Tryd.underlying74 (by unfold maxLen; omega) (keyOf_int_mk (a := (p : Int)) Tryd.underlying2 (wf64 (by omega) (by omega))) (plainElem_int Tryd.underlying2 (a := x) (wf64 (by omega) (by omega)))
  have gs : (out.set p x).getD p (-1) = x := by rw [List.getD_eq_getElem?_getD, List.getElem?_set, if_pos rfl, if_pos hp]; rfl
  have go : ∀ j, j ≠ p → (out.set p x).getD j (-1) = out.getD j (-1) := fun j hj => by rw [List.getD_eq_getElem?_getD, List.getElem?_set_ne (fun e => hj e.symm), ← List.getD_eq_getElem?_getD]
  have hkey : WideAt.IsKeyLit (.int .i64 (p : Int)) := by first | trivial | exact rfl | simp [WideAt.IsKeyLit]
  refine ⟨w', hrun, ⟨_, ho, g2.put _ _, fun j => ?_, fun j hj hz z => ?_⟩, Km.grown ht (Nat.le_refl _)⟩
  · by_cases e : j = p
    · subst e
      rw [has_put_same g2 hkey, gs]
      exact (decide_eq_true ⟨hk, h0⟩).symm
    · rw [has_put_other (key_ne e), g3 j, go j e]
  · by_cases e : j = p
    · subst e
      rw [atKey_put_same g2 hkey, gs]
    · rw [atKey_put_other (key_ne e), go j e]
      rw [go j e] at hz
      exact g4 j hj hz z
/-- Where nothing is laid the map is the same behind. -/
theorem Mp.skip {w : World} {mb k N : Nat} {out : List Int} (h : Mp w mb k N out) (hx : out.getD k (-1) < 0) : Mp w mb (k + 1) N out := by
  obtain ⟨D, h1, h2, h3, h4⟩ := h
  refine ⟨D, h1, h2, fun j => ?_, fun j hj => h4 j (by omega)⟩
  rw [h3 j, decide_eq_decide]
  by_cases e : j = k
  · subst e; omega
  · omega
theorem Mp.more {w : World} {mb k N N' : Nat} {out : List Int} (h : Mp w mb k N out) (hN : N ≤ N') : Mp w mb k N' out := by
  obtain ⟨D, h1, h2⟩ := h
  exact ⟨D, h1.mono hN, h2⟩

end Go.Proofs.YtfmljlhcaimafaaDoor
