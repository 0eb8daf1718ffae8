/-
  A reader of bytes of the program: its text and its place in memory; (*byteReader).peek and (*byteReader).take.
  How many cells the members of an object have, where they stand at places that are apart. No word of the program is used here.
  Reading a value, plainly: by fuel and depth; where it ends, and that it has no more cells than it took bytes. No word of the program is used here.
  Reading a value, plainly, step by step: what a round of a list does, what stands by then. No word of the program is used here.
-/
import Derived.Test.YtfcglmkbfdfaeaaS00
import Derived.Test.YtfcglmkbfdfaeaaS01
import Derived.Test.YtfcglmkbfdfaeaaS23
import Derived.BigQuiet
import Derived.BigRegion
import Derived.Deep.LoopGhost
import Derived.Deep.QuietTactic
import Derived.RegionTactic
namespace Go.Proofs.Ytfcglmkbfdfaeaa
open Go.RowKit
set_option linter.unusedVariables false

/-- Below block number B all but block b is as it was. -/
structure Tch (B b : Nat) (w w' : World) : Prop where
  os : w'.os = w.os
  tape : w'.tape = w.tape
  output : w'.output = w.output
  size : w.heap.size ≤ w'.heap.size
  block : ∀ k, k < B → k ≠ b → w'.heap[k]? = w.heap[k]?
theorem Tch.trans {B b : Nat} {u v w : World} (h : Tch B b u v) (k : Tch B b v w) : Tch B b u w :=
  ⟨k.os.trans h.os, k.tape.trans h.tape, k.output.trans h.output, Nat.le_trans h.size k.size, fun i h1 h2 => (k.block i h1 h2).trans (h.block i h1 h2)⟩
theorem Tch.set (B b j : Nat) (w : World) (u : Value) : Tch B b w (w.setCell ⟨b, j, none⟩ u) :=
  ⟨rfl, rfl, rfl, by simp [World.setCell], fun k _ hk => Below.heap_setCell _ _ _ _ (by simpa using hk)⟩
theorem Tch.mono {B B' b : Nat} {w w' : World} (h : Tch B b w w') (h1 : B' ≤ B) : Tch B' b w w' := ⟨h.os, h.tape, h.output, h.size, fun k hk hn => h.block k (by omega) hn⟩
theorem Tch.below {B B' b : Nat} {w w' : World} (h : Tch B b w w') (h1 : B' ≤ B) (h2 : B' ≤ b) : Below B' w w' :=
  ⟨h.os, h.tape, h.output, h.size, fun k hk => h.block k (by omega) (by omega)⟩

theorem Tch.drewN {B b : Nat} {w w' : World} (h : Tch B b w w') (k : Nat) : Tch B b w (w'.drewN k) := ⟨h.os, h.tape, h.output, h.size, h.block⟩

end Go.Proofs.Ytfcglmkbfdfaeaa

namespace Go.Proofs.Ytfcglmkbfdfaeaa
open Go.RowKit
set_option linter.unusedVariables false
namespace J
/-- Of places that are apart the lengths are no more than all of them. -/
theorem sum_le_tot (ps : List (List M.Cl)) (n : Nat) : ∀ L : List Nat, L.Nodup → (∀ x ∈ L, x < n) → n ≤ ps.length → ((L.map fun p => (ps.getD p []).length).sum) ≤ tot ps n := by
  induction n with
  | zero =>
    intro L _ h _
    cases L with
    | nil => exact Nat.zero_le _
    | cons a r => exact absurd (h a (by simp)) (by omega)
  | succ n ih =>
    intro L hnd hlt hn
    rw [tot_succ ps n (by omega)]
    by_cases hm : n ∈ L
    · have h1 := ih (L.erase n) (hnd.erase n) (fun x hx => by
        have h2 := hlt x (List.mem_of_mem_erase hx)
        have h3 : x ≠ n := fun e => by subst e; exact (List.Nodup.not_mem_erase hnd) hx
        omega) (by omega)
      have h2 : ((L.map fun p => (ps.getD p []).length).sum) = (ps.getD n []).length + (((L.erase n).map fun p => (ps.getD p []).length).sum) := by
        have hp := List.perm_cons_erase hm
        have := (hp.map fun p => (ps.getD p []).length).sum_nat
        rw [this, List.map_cons, List.sum_cons]
      omega
    · have h1 := ih L hnd (fun x hx => by
        have h2 := hlt x hx
        have h3 : x ≠ n := fun e => by subst e; exact hm hx
        omega) (by omega)
      omega
theorem stand_nodup (ks : List ByteArray) (k : Nat) : (St.stand ks k).Nodup := (St.stand_pw ks k).imp fun {a b} h e => by subst e; exact St.R.ne h rfl
end J
theorem tot_part (ps : List (List M.Cl)) (k : Nat) (hk : k < ps.length) : tot ps k + (ps.getD k []).length ≤ tot ps ps.length := by
  rw [← tot_succ ps k hk]; exact tot_le ps ps.length (k + 1) hk (Nat.le_refl _)
theorem objK_le (ks : List ByteArray) (ps : List (List M.Cl)) (L : List Nat) (hnd : L.Nodup) (hlt : ∀ x ∈ L, x < ps.length) (k : Nat) : (objK ks ps L k).length ≤ 1 + tot ps ps.length := by
  have h1 : (objK ks ps L k).length = 1 + (memK ks ps L k).length := by unfold objK; simp; omega
  have h2 : (memK ks ps L k).length = (((L.take k).map fun p => (ps.getD p []).length).sum) := by
    unfold memK
    rw [List.length_flatten, List.map_map]
    congr 1
    apply List.map_congr_left
    intro p _
    exact setKey_length _ _
  have h3 := J.sum_le_tot ps ps.length (L.take k) (hnd.sublist (List.take_sublist k L)) (fun x hx => hlt x (List.mem_of_mem_take hx)) (Nat.le_refl _)
  omega

end Go.Proofs.Ytfcglmkbfdfaeaa

namespace Go.Proofs.Ytfcglmkbfdfaeaa
open Go.RowKit
set_option linter.unusedVariables false
set_option linter.unusedSimpArgs false

namespace J
def madeV (obj : Bool) (ks : List ByteArray) (ps : List (List M.Cl)) : List M.Cl := if obj then objV ks ps else arrV ps
theorem memK_len (ks : List ByteArray) (ps : List (List M.Cl)) (L : List Nat) : (memK ks ps L L.length).length = ((L.map fun p => (ps.getD p []).length).sum) := by
  unfold memK
  rw [List.take_length, List.length_flatten, List.map_map]
  congr 1
  apply List.map_congr_left
  intro p _
  exact setKey_length _ _
theorem made_len (obj : Bool) (ks : List ByteArray) (ps : List (List M.Cl)) (h : obj = true → ks.length = ps.length) : 0 < (madeV obj ks ps).length ∧ (madeV obj ks ps).length ≤ 1 + tot ps ps.length := by
  unfold madeV
  cases obj with
  | false =>
    simp only [Bool.false_eq_true, if_false]
    have : (arrV ps).length = tot ps ps.length + 1 := arrK_length ps ps.length
    omega
  | true =>
    simp only [if_true]
    have h1 : (objV ks ps).length = 1 + (memK ks ps (St.stand ks ks.length) (St.stand ks ks.length).length).length := by unfold objV objK; simp; omega
    have h2 := memK_len ks ps (St.stand ks ks.length)
    have h3 := sum_le_tot ps ks.length (St.stand ks ks.length) (stand_nodup ks ks.length) (fun x hx => St.stand_lt ks ks.length x hx) (by rw [h rfl]; exact Nat.le_refl _)
    rw [h rfl] at h3 h2 h1
    omega
end J
end Go.Proofs.Ytfcglmkbfdfaeaa

namespace Go.Proofs.Ytfcglmkbfdfaeaa
open Go.RowKit
set_option linter.unusedVariables false

/-- A part that bears no key. -/
def Bare (p : List M.Cl) : Prop := 1 ≤ p.length ∧ setKey p ByteArray.empty = p

namespace J
theorem made_bare (obj : Bool) (ks : List ByteArray) (ps : List (List M.Cl)) : Bare (madeV obj ks ps) := by
  unfold madeV
  cases obj with
  | false => exact ⟨by simp [arrV, arrK], rfl⟩
  | true => exact ⟨by simp [objV, objK], rfl⟩
end J
end Go.Proofs.Ytfcglmkbfdfaeaa
