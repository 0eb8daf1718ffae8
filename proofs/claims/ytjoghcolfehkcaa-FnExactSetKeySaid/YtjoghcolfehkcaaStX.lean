/-
  The comparison that the sort of places is handed, and the library's insertion sort over it.
-/
import Derived.Test.YtjoghcolfehkcaaStW
import Derived.Lib.Bytealg
namespace Go.Proofs.Ytjoghcolfehkcaa
open Go.RowKit
set_option linter.unusedVariables false

namespace St
/-- Two texts, byte by byte. -/
def cmpT (a b : ByteArray) : Int := if Op.bytesLess a.toList b.toList = true then -1 else if (a.toList == b.toList) = true then 0 else 1
theorem compareBytes_eq (a b : List UInt8) : Lib.compareBytes a b = if Op.bytesLess a b = true then -1 else if (a == b) = true then 0 else 1 := by
  induction a generalizing b with
  | nil => cases b <;> simp [Lib.compareBytes, Op.bytesLess]
  | cons a x ih =>
    cases b with
    | nil => rfl
    | cons b y =>
      rw [Lib.compareBytes]
      by_cases h1 : a < b
      · rw [if_pos h1, if_pos (by simp [Op.bytesLess, h1])]
      · rw [if_neg h1]
        by_cases h2 : b < a
        · have hne : ¬ a = b := by intro h; subst h; exact h1 h2
          rw [if_pos h2, if_neg (by simp [Op.bytesLess, h1, hne]), if_neg (by simp [hne])]
        · have he : a = b := UInt8.le_antisymm (UInt8.not_lt.1 h2) (UInt8.not_lt.1 h1)
          subst he
          rw [if_neg h2, ih y]
          simp [Op.bytesLess, h1]
theorem cmpstr_run (a b : ByteArray) (w : World) : (callFunc 146 #[.string a, .string b]).run Try.prog w = .ok (.value (.int .i64 (cmpT a b))) w := by
  rw [run_callFunc_extern Try.func146 (by kernel_rfl) (by kernel_rfl) (by kernel_rfl) (e := Extern.BytealgCompare.compare) (by kernel_rfl), Lib.run_compareString, compareBytes_eq]
  unfold cmpT
  rw [ByteArray.toList_eq, ByteArray.toList_eq]
  rfl
theorem cmpT_neg (a b : ByteArray) : decide (cmpT a b < 0) = Op.bytesLess a.toList b.toList := by
  unfold cmpT
  cases Op.bytesLess a.toList b.toList
  · rw [if_neg (by simp)]; split <;> rfl
  · rfl
def cmpP (ks : List ByteArray) (x y : Nat) : Int := cmpT (ks.getD x ByteArray.empty) (ks.getD y ByteArray.empty)
theorem cmpP_neg (ks : List ByteArray) (x y : Nat) : decide (cmpP ks x y < 0) = ptest ks x y := cmpT_neg _ _
end St

set_option maxHeartbeats 1000000 in
theorem stringsCompare_any (a b : ByteArray) (w : World) : Calls Try.prog 135 #[.string a, .string b] w fun e w' => e = .returned (.int .i64 (St.cmpT a b)) ∧ w' = w := by
  have hr := St.cmpstr_run a b
  generalize St.cmpT a b = q at *
  go_enter Try.func135, Try.ntmps135
  go_wp2
  go_ret
  exact ⟨rfl, rfl⟩

/-- What the comparison reads: a boxed slice of keys, and the keys. -/
def KeysAt (w : World) (kb g cap : Nat) (ks : List ByteArray) : Prop :=
  kb < w.heap.size ∧ g < w.heap.size ∧ w.cell? ⟨kb, 0, none⟩ = some (.slice (some ⟨g, 0, none⟩) ks.length cap) ∧ ∀ i, i < ks.length → w.cell? ⟨g, i, none⟩ = some (.string (ks.getD i ByteArray.empty))
theorem KeysAt.but {w w' : World} {kb g cap b B : Nat} {ks : List ByteArray} (h : KeysAt w kb g cap ks) (hb : But B b w w') (h1 : kb < B) (h2 : g < B) (h3 : kb ≠ b) (h4 : g ≠ b) : KeysAt w' kb g cap ks :=
  ⟨Nat.lt_of_lt_of_le h.1 hb.size, Nat.lt_of_lt_of_le h.2.1 hb.size, (World.cell?_of_block (w := w) (hb.block kb h1 h3)).trans h.2.2.1, fun i hi => (World.cell?_of_block (w := w) (hb.block g h2 h4)).trans (h.2.2.2 i hi)⟩
theorem KeysAt.drewN {w : World} {kb g cap : Nat} {ks : List ByteArray} (h : KeysAt w kb g cap ks) (k : Nat) : KeysAt (w.drewN k) kb g cap ks := h

def cmpFn (kb : Nat) : Value := .func (.func 134) #[] #[.pointer (some ⟨kb, 0, none⟩)]

set_option maxHeartbeats 1000000 in
theorem comparison_any (x y kb g cap : Nat) (ks : List ByteArray) (w : World) (h : KeysAt w kb g cap ks) (hx : x < ks.length) (hy : y < ks.length) (hn : ks.length ≤ 1048576) :
    Calls Try.prog 134 #[.int .i64 x, .int .i64 y, .pointer (some ⟨kb, 0, none⟩)] w fun e w' => e = .returned (.int .i64 (St.cmpP ks x y)) ∧ ∃ q, w' = w.drewN q := by
  obtain ⟨k1, k2, k3, k4⟩ := h
  have c1 := fun q => show (w.drewN q).cell? ⟨kb, 0, none⟩ = _ from k3
  have c2 := fun q => show (w.drewN q).cell? ⟨g, x, none⟩ = _ from k4 x hx
  have c3 := fun q => show (w.drewN q).cell? ⟨g, y, none⟩ = _ from k4 y hy
  unfold St.cmpP
  have hxz : (x : Int) < (ks.length : Int) := by omega
  have hyz : (y : Int) < (ks.length : Int) := by omega
  generalize ks.getD x ByteArray.empty = sx at *
  generalize ks.getD y ByteArray.empty = sy at *
  have H := stringsCompare_any sx sy
  generalize St.cmpT sx sy = c at *
  clear k3 k4
  go_enter Try.func134, Try.ntmps134
  go_wp2_with fail
  go_quiet (first | (go_at_call 135; refine Calls.quiet_of_same (H _)))
  go_wp2_with fail
  go_ret
  exact ⟨rfl, _, rfl⟩
end Go.Proofs.Ytjoghcolfehkcaa
