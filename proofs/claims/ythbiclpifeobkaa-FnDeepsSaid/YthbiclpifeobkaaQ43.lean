/-
  A slice of bytes that came in as an argument.
  Values that are drawn for a law.
  Bytes that are appended to; what the laws over drawn values call; values have one order.
-/
import Derived.Test.YthbiclpifeobkaaQ00
import Derived.Test.YthbiclpifeobkaaQ02
import Derived.Test.YthbiclpifeobkaaQ35
import Derived.Test.YthbiclpifeobkaaQ41
import Derived.Test.YthbiclpifeobkaaQ42
import Derived.Deep.Slices
import Derived.Laws.AppendOwnNone
import Derived.OpenShut
import Derived.ProofKit
namespace Go.Proofs.Ythbiclpifeobkaa
open Go.RowKit Go.ChangeShapes Go.WideShapes
set_option linter.unusedVariables false
set_option linter.unusedSimpArgs false

/-- What the walks are told of a slice of bytes. -/
def Byts (w : World) (a : Option Addr) (len cap : Nat) : Prop := len ≤ cap ∧ ∀ i, i < len → ∃ b off c : Nat, a = some ⟨b, off, none⟩ ∧ b < w.heap.size ∧ c ≤ 255 ∧ w.cell? ⟨b, off + i, none⟩ = some (.int .u8 (c : Int))
theorem cellsU8 : Try.prog.cellsOf 5 = 1 := by kernel_rfl
theorem bounds_u8 {n : Int} (h : (Lit.int .u8 n).wf = true) : 0 ≤ n ∧ n ≤ 255 := by
  simp [Lit.wf, IntKind.min, IntKind.max, IntKind.signed, IntKind.bits] at h
  omega
section
variable {H : Type} {enc : TypeId × Value → H} {w : World} {base : Nat} {spare : Nat → Bool} {held : Bool}
theorem open_byts {a : Option Addr} {len cap fuel : Nat} {x : DataW H × List MemPlace} (h : DataW.trod enc Try.prog w base spare held fuel 22 [.slice a len cap] = some x) : Byts w a len cap := by
  rcases Go.Deep.open_slice Try.underlying22 h with ⟨hcs, _⟩ | ⟨ad, len', cap', m, n, D, Pl, hcs, _, hl, hm, hmm, hx, hel⟩
  · simp only [List.cons.injEq, Value.slice.injEq, and_true] at hcs
    obtain ⟨rfl, rfl, rfl⟩ := hcs
    exact ⟨by omega, fun i hi => absurd hi (by omega)⟩
  · simp only [List.cons.injEq, Value.slice.injEq, and_true] at hcs
    obtain ⟨rfl, rfl, rfl⟩ := hcs
    rw [cellsU8] at hel
    have hlm : len ≤ m := by rw [hmm]; split <;> omega
    refine ⟨by simpa using hl, fun i hi => ?_⟩
    obtain ⟨cs', h1, h2⟩ := hel i (by omega)
    obtain ⟨c, e, _, hw⟩ := DataW.trod_int Try.underlying5 h2
    subst e
    have hb := bounds_u8 hw
    obtain ⟨b, off, spot⟩ := ad
    have c0 := (World.cells?_some h1).2.2 0 (by omega)
    have hs : spot = none := by
      obtain ⟨cs0, g1, g2⟩ := hel 0 (by omega)
      obtain ⟨c', e', _, _⟩ := DataW.trod_int Try.underlying5 g2
      subst e'
      have := World.cell?_spot (((World.cells?_some g1).2.2 0 (by omega)).trans rfl)
      simpa [Addr.add] using this
    subst hs
    have hblk : b < w.heap.size := by
      have := block_lt_of_cell (c0.trans rfl)
      rw [add_plain, add_plain] at this
      exact this
    simp only [add_plain] at c0
    refine ⟨b, off, c.toNat, rfl, hblk, by omega, ?_⟩
    rw [show ((c.toNat : Nat) : Int) = c from Int.toNat_of_nonneg hb.1]
    simpa using c0
end
theorem lwBig_any (a : Option Addr) (len cap : Nat) (w : World) : Calls Try.prog 8 #[.slice a len cap] w fun e w' => e = .returned (.bool (decide (1048576 < len))) ∧ w' = w := by
  have hd := hide (show decide ((1048576 : Int) < (len : Int)) = decide (1048576 < len) by rw [decide_eq_decide]; omega)
  go_enter Try.func8, Try.ntmps8
  go_wp2_with fail
  all_goals (go_ret; exact ⟨ret_bool (by first | exact unhide hd | (simp [*] <;> omega)), rfl⟩)

end Go.Proofs.Ythbiclpifeobkaa

namespace Go.Proofs.Ythbiclpifeobkaa
open Go.RowKit
set_option linter.unusedVariables false
set_option linter.unusedSimpArgs false

namespace Dv
/-- A value that was drawn, as the law holds it. -/
def Got (V : World) (B : Nat) (s : Value) (l : List M.Cl) : Prop := (∃ g gc, s = .slice (some ⟨g, 0, none⟩) l.length gc) ∧ Rs V B s l ∧ l.length ≤ 300 ∧ ∀ c ∈ l, c.ok
theorem Got.at {w : World} {B : Nat} {s : Value} {l : List M.Cl} (h : Got w B s l) : ∃ g gc, s = .slice (some ⟨g, 0, none⟩) l.length gc ∧ g < w.heap.size ∧ l.length ≤ gc ∧ Row w g 0 l := by
  obtain ⟨⟨g, gc, rfl⟩, hr, _, _⟩ := h
  obtain ⟨_, ⟨h1, _⟩ | ⟨b, cap, h1, h2, h3, h4⟩⟩ := hr.res
  · cases h1
  · cases h1
    exact ⟨g, gc, rfl, h4.lt, h3, h4.row⟩
end Dv
end Go.Proofs.Ythbiclpifeobkaa

namespace Go.Proofs.Ythbiclpifeobkaa
open Go.RowKit Go.ChangeShapes Go.WideShapes
set_option linter.unusedVariables false
set_option linter.unusedSimpArgs false

/-- What the walks are told of a slice of bytes that is appended. -/
def BytR (w : World) (a : Option Addr) (len cap : Nat) : Prop := Byts w a len cap ∧ (a = none → cap = 0)
section
variable {H : Type} {enc : TypeId × Value → H} {w : World} {base : Nat} {spare : Nat → Bool} {held : Bool}
theorem open_bytR {a : Option Addr} {len cap fuel : Nat} {x : DataW H × List MemPlace} (h : DataW.trod enc Try.prog w base spare held fuel 22 [.slice a len cap] = some x) : BytR w a len cap := by
  refine ⟨open_byts h, fun ha => ?_⟩
  rcases Go.Deep.open_slice Try.underlying22 h with ⟨hcs, _⟩ | ⟨ad, len', cap', m, n, D, Pl, hcs, _⟩
  · simp only [List.cons.injEq, Value.slice.injEq, and_true] at hcs
    exact hcs.2.2
  · simp only [List.cons.injEq, Value.slice.injEq, and_true] at hcs
    rw [hcs.1] at ha
    cases ha
end
namespace Dv
section
variable {W V : World} {B B' : Nat} {s s' : Value} {l l' : List M.Cl}
end
end Dv
namespace Od
variable {A C D : List M.Cl}
theorem out_eq (hA : M.valueFault A = 0) (hC : M.valueFault C = 0) {f : Nat} (hf : A.length ≤ f) : cmpOut A C = cmpL f A C := by
  unfold cmpOut
  rw [if_pos ⟨hA, hC⟩]
  exact cmpL_fuel _ _ _ _ hA (Nat.le_refl _) hf
theorem out_neg (hA : M.valueFault A = 0) (hC : M.valueFault C = 0) : cmpOut C A = - cmpOut A C := by
  rw [out_eq hA hC (f := A.length + C.length) (by omega), out_eq hC hA (f := A.length + C.length) (by omega)]
  exact cmpL_neg _ _ _ hC hA (by omega) (by omega)
theorem out_self (hA : M.valueFault A = 0) : cmpOut A A = 0 := by
  have := out_neg hA hA
  omega
theorem same_eq (hA : M.valueFault A = 0) (hC : M.valueFault C = 0) : sameOut A C = (cmpOut A C == 0) := by
  unfold sameOut cmpOut
  rw [if_pos ⟨hA, hC⟩]
  by_cases h : cmpL A.length A C = 0
  · simp [hA, hC, h]
  · simp [hA, hC, h]
end Od

end Go.Proofs.Ythbiclpifeobkaa
