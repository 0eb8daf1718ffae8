/-
  The library's stable sort over a row of places: its parts, by their contracts.
  The comparison that the sort of places is handed, and the library's insertion sort over it.
  The library's insertion sort of a row of places.
  The library's merge of two sorted runs of places: one place on the left, and one on the right.
  The library's merge of two sorted runs of places: one place on the right.
-/
import Derived.Test.YtakdlcgiieaieaaDoorMarkC
import Derived.Test.YtakdlcgiieaieaaDoorObjM
import Derived.Deep.LoopGhost
import Derived.Deep.QuietTactic
import Derived.BigQuiet
import Derived.RegionTactic
import Derived.BigRegion
import Derived.Lib.Bytealg
namespace Go.Proofs.YtakdlcgiieaieaaDoor
open Go.RowKit
set_option linter.unusedVariables false

/-- A row of the call's own that begins with the numbers f 0, f 1, .. f (n - 1). -/
def OwnF (w : World) (b n : Nat) (f : Nat → Nat) : Prop := ∃ xs, Own w b 3 xs ∧ n ≤ xs.length ∧ ∀ i, i < n → xs[i]? = some (.int .i64 (f i))
theorem OwnF.lt {w : World} {b n : Nat} {f : Nat → Nat} (h : OwnF w b n f) : b < w.heap.size := by obtain ⟨xs, ho, _⟩ := h; exact ho.lt
theorem OwnF.below {B : Nat} {w w' : World} {b n : Nat} {f : Nat → Nat} (h : OwnF w b n f) (hb : Below B w w') (hB : b < B) : OwnF w' b n f := by
  obtain ⟨xs, ho, hw⟩ := h; exact ⟨xs, ho.below hb hB, hw⟩
theorem OwnF.cell {w : World} {b n : Nat} {f : Nat → Nat} (h : OwnF w b n f) {i : Nat} (hi : i < n) : w.cell? ⟨b, i, none⟩ = some (.int .i64 (f i)) := by
  obtain ⟨xs, ho, _, hw⟩ := h; exact (ho.cell i).trans (hw i hi)
theorem OwnF.frozen {w : World} {b n : Nat} {f : Nat → Nat} (h : OwnF w b n f) (i : Nat) : w.frozen? ⟨b, i, none⟩ = false := by
  obtain ⟨xs, ho, _⟩ := h; exact ho.frozen i
theorem OwnF.swap {w : World} {b n : Nat} {f : Nat → Nat} (h : OwnF w b n f) {i j : Nat} (hi : i < n) (hj : j < n) : OwnF ((w.setCell ⟨b, i, none⟩ (.int .i64 (f j))).setCell ⟨b, j, none⟩ (.int .i64 (f i))) b n (St.sw f i j) := by
  obtain ⟨xs, ho, hl, hw⟩ := h
  refine ⟨_, (ho.set i _).set j _, by simpa using hl, fun k hk => ?_⟩
  simp only [List.getElem?_set, List.length_set]
  unfold St.sw
  by_cases e1 : j = k
  · rw [if_pos e1, if_pos (by omega)]
    subst e1
    by_cases e2 : j = i
    · rw [if_pos e2, e2]
    · rw [if_neg e2, if_pos rfl]
  · rw [if_neg e1]
    by_cases e2 : i = k
    · rw [if_pos e2, if_pos (by omega), if_pos e2.symm]
    · rw [if_neg e2, if_neg (fun h => e2 h.symm), if_neg (fun h => e1 h.symm)]; exact hw k hk

theorem OwnF.drew {w : World} {b n : Nat} {f : Nat → Nat} (h : OwnF w b n f) : OwnF w.drew b n f := h
theorem OwnF.drewN {w : World} {b n : Nat} {f : Nat → Nat} (h : OwnF w b n f) (k : Nat) : OwnF (w.drewN k) b n f := h
theorem But.drew {B b : Nat} {w w' : World} (h : But B b w w') : But B b w w'.drew := ⟨h.os, h.tape, h.output, h.size, h.block⟩
theorem But.drewN {B b : Nat} {w w' : World} (h : But B b w w') (k : Nat) : But B b w (w'.drewN k) := ⟨h.os, h.tape, h.output, h.size, h.block⟩
theorem OwnF.second {w : World} {b n : Nat} {f : Nat → Nat} (h : OwnF w b n f) {i j : Nat} (hj : j < n) (e : i ≠ j) (u : Value) : (w.setCell ⟨b, i, none⟩ u).cell? ⟨b, j, none⟩ = some (.int .i64 (f j)) := by
  rw [World.cell?_setCell_other _ _ _ _ (by intro e'; simp only [Addr.mk.injEq] at e'; omega)]; exact h.cell hj

end Go.Proofs.YtakdlcgiieaieaaDoor

namespace Go.Proofs.YtakdlcgiieaieaaDoor
open Go.RowKit
set_option linter.unusedVariables false

namespace St
/-- Two texts, byte by byte. -/
def cmpT (a b : ByteArray) : Int := if Op.bytesLess a.toList b.toList = true then -1 else if (a.toList == b.toList) = true then 0 else 1
theorem compareBytes_eq (a b : List UInt8) : Lib.compareBytes a b = if Op.bytesLess a b = true then -1 else if (a == b) = true then 0 else 1 := by
  induction a generalizing b with
  | nil => cases b <;> simp [Lib.compareBytes, Op.bytesLess]
  | cons a x ih =>
    cases b with
    | nil => rfl
    | cons b y =>
      rw [Lib.compareBytes]
      by_cases h1 : a < b
      · rw [if_pos h1, if_pos (by simp [Op.bytesLess, h1])]
      · rw [if_neg h1]
        by_cases h2 : b < a
        · have hne : ¬ a = b := by intro h; subst h; exact h1 h2
          rw [if_pos h2, if_neg (by simp [Op.bytesLess, h1, hne]), if_neg (by simp [hne])]
        · have he : a = b := UInt8.le_antisymm (UInt8.not_lt.1 h2) (UInt8.not_lt.1 h1)
          subst he
          rw [if_neg h2, ih y]
          simp [Op.bytesLess, h1]
theorem cmpT_neg (a b : ByteArray) : decide (cmpT a b < 0) = Op.bytesLess a.toList b.toList := by
  unfold cmpT
  cases Op.bytesLess a.toList b.toList
  · rw [if_neg (by simp)]; split <;> rfl
  · rfl
def cmpP (ks : List ByteArray) (x y : Nat) : Int := cmpT (ks.getD x ByteArray.empty) (ks.getD y ByteArray.empty)
theorem cmpP_neg (ks : List ByteArray) (x y : Nat) : decide (cmpP ks x y < 0) = ptest ks x y := cmpT_neg _ _
end St

/-- What the comparison reads: a boxed slice of keys, and the keys. -/
def KeysAt (w : World) (kb g cap : Nat) (ks : List ByteArray) : Prop :=
  kb < w.heap.size ∧ g < w.heap.size ∧ w.cell? ⟨kb, 0, none⟩ = some (.slice (some ⟨g, 0, none⟩) ks.length cap) ∧ ∀ i, i < ks.length → w.cell? ⟨g, i, none⟩ = some (.string (ks.getD i ByteArray.empty))
theorem KeysAt.but {w w' : World} {kb g cap b B : Nat} {ks : List ByteArray} (h : KeysAt w kb g cap ks) (hb : But B b w w') (h1 : kb < B) (h2 : g < B) (h3 : kb ≠ b) (h4 : g ≠ b) : KeysAt w' kb g cap ks :=
  ⟨Nat.lt_of_lt_of_le h.1 hb.size, Nat.lt_of_lt_of_le h.2.1 hb.size, (World.cell?_of_block (w := w) (hb.block kb h1 h3)).trans h.2.2.1, fun i hi => (World.cell?_of_block (w := w) (hb.block g h2 h4)).trans (h.2.2.2 i hi)⟩
theorem KeysAt.drewN {w : World} {kb g cap : Nat} {ks : List ByteArray} (h : KeysAt w kb g cap ks) (k : Nat) : KeysAt (w.drewN k) kb g cap ks := h

end Go.Proofs.YtakdlcgiieaieaaDoor

namespace Go.Proofs.YtakdlcgiieaieaaDoor
open Go.RowKit
set_option linter.unusedVariables false

theorem OwnF.all {w : World} {b n : Nat} {f g : Nat → Nat} (h : OwnF w b n f) (e : f = g) : OwnF w b n g := e ▸ h

end Go.Proofs.YtakdlcgiieaieaaDoor

namespace Go.Proofs.YtakdlcgiieaieaaDoor
open Go.RowKit
set_option linter.unusedVariables false

end Go.Proofs.YtakdlcgiieaieaaDoor

namespace Go.Proofs.YtakdlcgiieaieaaDoor
open Go.RowKit
set_option linter.unusedVariables false

end Go.Proofs.YtakdlcgiieaieaaDoor
