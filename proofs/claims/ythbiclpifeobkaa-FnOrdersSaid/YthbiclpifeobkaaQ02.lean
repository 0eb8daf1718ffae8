/-
  A reader of bytes of the program: its text and its place in memory; (*byteReader).peek and (*byteReader).take.
-/
import Derived.Test.YthbiclpifeobkaaQ00
import Derived.Test.YthbiclpifeobkaaQ01
import Derived.BigQuiet
import Derived.BigRegion
import Derived.Deep.LoopGhost
import Derived.Deep.QuietTactic
import Derived.RegionTactic
namespace Go.Proofs.Ythbiclpifeobkaa
open Go.RowKit
set_option linter.unusedVariables false

/-- Below block number B all but block b is as it was. -/
structure Tch (B b : Nat) (w w' : World) : Prop where
  os : w'.os = w.os
  tape : w'.tape = w.tape
  output : w'.output = w.output
  size : w.heap.size ≤ w'.heap.size
  block : ∀ k, k < B → k ≠ b → w'.heap[k]? = w.heap[k]?
theorem Tch.trans {B b : Nat} {u v w : World} (h : Tch B b u v) (k : Tch B b v w) : Tch B b u w :=
  ⟨k.os.trans h.os, k.tape.trans h.tape, k.output.trans h.output, Nat.le_trans h.size k.size, fun i h1 h2 => (k.block i h1 h2).trans (h.block i h1 h2)⟩
theorem Tch.set (B b j : Nat) (w : World) (u : Value) : Tch B b w (w.setCell ⟨b, j, none⟩ u) :=
  ⟨rfl, rfl, rfl, by simp [World.setCell], fun k _ hk => Below.heap_setCell _ _ _ _ (by simpa using hk)⟩
theorem Tch.mono {B B' b : Nat} {w w' : World} (h : Tch B b w w') (h1 : B' ≤ B) : Tch B' b w w' := ⟨h.os, h.tape, h.output, h.size, fun k hk hn => h.block k (by omega) hn⟩
theorem Tch.below {B B' b : Nat} {w w' : World} (h : Tch B b w w') (h1 : B' ≤ B) (h2 : B' ≤ b) : Below B' w w' :=
  ⟨h.os, h.tape, h.output, h.size, fun k hk => h.block k (by omega) (by omega)⟩

theorem Tch.drewN {B b : Nat} {w w' : World} (h : Tch B b w w') (k : Nat) : Tch B b w (w'.drewN k) := ⟨h.os, h.tape, h.output, h.size, h.block⟩

end Go.Proofs.Ythbiclpifeobkaa
