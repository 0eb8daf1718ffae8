/-
  Values that are drawn for a law.
  Both CompareValues and both SameValues.
  Bytes that are appended to; what the laws over drawn values call; values have one order.
-/
import Derived.Test.YtfcglmkbfdfaeaaS02
import Derived.Test.YtfcglmkbfdfaeaaS39
import Derived.Test.YtfcglmkbfdfaeaaS44
import Derived.Laws.AppendOwnNone
namespace Go.Proofs.Ytfcglmkbfdfaeaa
open Go.RowKit
set_option linter.unusedVariables false
set_option linter.unusedSimpArgs false

namespace Dv
/-- A value that was drawn, as the law holds it. -/
def Got (V : World) (B : Nat) (s : Value) (l : List M.Cl) : Prop := (∃ g gc, s = .slice (some ⟨g, 0, none⟩) l.length gc) ∧ Rs V B s l ∧ l.length ≤ 300 ∧ ∀ c ∈ l, c.ok
theorem rs_below {w w' : World} {B : Nat} {s : Value} {l : List M.Cl} (h : Rs w B s l) (hb : Below w.heap.size w w') : Rs w' B s l := rs_kept h fun b _ h2 => hb.block b h2
theorem Got.below {w w' : World} {B : Nat} {s : Value} {l : List M.Cl} (h : Got w B s l) (hb : Below w.heap.size w w') : Got w' B s l := ⟨h.1, rs_below h.2.1 hb, h.2.2.1, h.2.2.2⟩
theorem Got.mono {w : World} {B B' : Nat} {s : Value} {l : List M.Cl} (h : Got w B s l) (hB : B' ≤ B) : Got w B' s l := ⟨h.1, h.2.1.mono hB, h.2.2.1, h.2.2.2⟩
theorem Got.at {w : World} {B : Nat} {s : Value} {l : List M.Cl} (h : Got w B s l) : ∃ g gc, s = .slice (some ⟨g, 0, none⟩) l.length gc ∧ g < w.heap.size ∧ l.length ≤ gc ∧ Row w g 0 l := by
  obtain ⟨⟨g, gc, rfl⟩, hr, _, _⟩ := h
  obtain ⟨_, ⟨h1, _⟩ | ⟨b, cap, h1, h2, h3, h4⟩⟩ := hr.res
  · cases h1
  · cases h1
    exact ⟨g, gc, rfl, h4.lt, h3, h4.row⟩
end Dv
end Go.Proofs.Ytfcglmkbfdfaeaa

namespace Go.Proofs.Ytfcglmkbfdfaeaa
open Go.RowKit
set_option linter.unusedVariables false

section
variable (A C : List M.Cl) (b off cap b' off' cap' : Nat) (w : World) (hr : Row w b off A) (hb : b < w.heap.size) (hn : A.length ≤ 1048576) (hcap : A.length ≤ cap) (hok : ∀ c ∈ A, c.ok) (hr' : Row w b' off' C) (hb' : b' < w.heap.size) (hn' : C.length ≤ 1048576) (hcap' : C.length ≤ cap') (hok' : ∀ c ∈ C, c.ok)
include hr hb hn hcap hok hr' hb' hn' hcap' hok'

set_option maxHeartbeats 1000000 in
theorem implSame_any : Calls Try.prog 11 #[.slice (some ⟨b, off, none⟩) A.length cap, .slice (some ⟨b', off', none⟩) C.length cap'] w fun e w' => e = .returned (.bool (sameOut A C)) ∧ Below w.heap.size w w' := by
  have OK := hide hok
  have OK' := hide hok'
  have HR := hide hr
  have HR' := hide hr'
  clear hok hok' hr hr'
  go_enter Try.func11, Try.ntmps11
  go_wp2_with fail
  refine (implFault_any A b off cap _ (unhide HR) hb hn hcap (unhide OK)).mono ?_
  rintro e1 w1 ⟨rfl, hb1⟩
  by_cases hz : M.valueFault A = 0
  · rw [hz]
    have HV := hide hz
    clear hz
    go_wp2_with fail
    refine (implFault_any C b' off' cap' _ ((unhide HR').below hb1 hb') (Nat.lt_of_lt_of_le hb' hb1.size) hn' hcap' (unhide OK')).mono ?_
    rintro e2 w2 ⟨rfl, hb2⟩
    have B2 : Below w.heap.size w w2 := hb1.trans (hb2.mono hb1.size)
    clear hb1 hb2
    by_cases hz : M.valueFault C = 0
    · rw [hz]
      have HU := hide hz
      clear hz
      have fin := hide (show sameOut A C = (cmpL A.length (part A 0) (part C 0) == 0) by
        unfold sameOut
        rw [cmpL_whole (unhide HV) (unhide HU), unhide HV, unhide HU]
        by_cases e : cmpL A.length A C = 0
        · rw [e]; rfl
        · simp [e])
      have h1 := (M.fault_zero (unhide HV)).1
      have h2 := (M.fault_zero (unhide HU)).1
      have h3 := part_len (unhide HV) (show 0 < A.length by omega)
      have h4 := (end_gt (unhide HV) (show 0 < A.length by omega)).2
      go_wp2_with fail
      refine (compareAt_any A C b off cap b' off' cap' A.length (unhide HV) (unhide HU) hcap hcap' 0 0 _ (by omega) (by omega) (by omega) ((unhide HR).below B2 hb) (Nat.lt_of_lt_of_le hb B2.size) ((unhide HR').below B2 hb') (Nat.lt_of_lt_of_le hb' B2.size)).mono ?_
      rintro e3 w3 ⟨rfl, hb3⟩
      have B3 : Below w.heap.size w w3 := B2.trans (hb3.mono B2.size)
      clear hb3 B2 h3 h4
      generalize cmpL A.length (part A 0) (part C 0) = q at *
      go_wp2_with fail
      go_ret
      exact ⟨ret_bool (unhide fin).symm, B3⟩
    · have fin := hide (show sameOut A C = false by unfold sameOut; exact decide_eq_false (fun g => hz g.2.1))
      have hz' : (M.valueFault C == 0) = false := by simp [hz]
      generalize M.valueFault C = q at *
      go_wp2_with fail
      go_ret
      exact ⟨ret_bool (unhide fin).symm, B2⟩
  · have fin := hide (show sameOut A C = false by unfold sameOut; exact decide_eq_false (fun g => hz g.1))
    have hz' : (M.valueFault A == 0) = false := by simp [hz]
    generalize M.valueFault A = q at *
    go_wp2_with fail
    go_ret
    exact ⟨ret_bool (unhide fin).symm, hb1⟩
end
end Go.Proofs.Ytfcglmkbfdfaeaa

namespace Go.Proofs.Ytfcglmkbfdfaeaa
open Go.RowKit Go.ChangeShapes Go.WideShapes
set_option linter.unusedVariables false
set_option linter.unusedSimpArgs false

/-- What the walks are told of a slice of bytes that is appended. -/
def BytR (w : World) (a : Option Addr) (len cap : Nat) : Prop := Byts w a len cap ∧ (a = none → cap = 0)
section
variable {H : Type} {enc : TypeId × Value → H} {w : World} {base : Nat} {spare : Nat → Bool} {held : Bool}
theorem open_bytR {a : Option Addr} {len cap fuel : Nat} {x : DataW H × List MemPlace} (h : DataW.trod enc Try.prog w base spare held fuel 22 [.slice a len cap] = some x) : BytR w a len cap := by
  refine ⟨open_byts h, fun ha => ?_⟩
  rcases Go.Deep.open_slice Try.underlying22 h with ⟨hcs, _⟩ | ⟨ad, len', cap', m, n, D, Pl, hcs, _⟩
  · simp only [List.cons.injEq, Value.slice.injEq, and_true] at hcs
    exact hcs.2.2
  · simp only [List.cons.injEq, Value.slice.injEq, and_true] at hcs
    rw [hcs.1] at ha
    cases ha
end
namespace Dv
section
variable {W V : World} {B B' : Nat} {s s' : Value} {l l' : List M.Cl}
end
end Dv
namespace Od
variable {A C D : List M.Cl}
theorem out_eq (hA : M.valueFault A = 0) (hC : M.valueFault C = 0) {f : Nat} (hf : A.length ≤ f) : cmpOut A C = cmpL f A C := by
  unfold cmpOut
  rw [if_pos ⟨hA, hC⟩]
  exact cmpL_fuel _ _ _ _ hA (Nat.le_refl _) hf
theorem out_neg (hA : M.valueFault A = 0) (hC : M.valueFault C = 0) : cmpOut C A = - cmpOut A C := by
  rw [out_eq hA hC (f := A.length + C.length) (by omega), out_eq hC hA (f := A.length + C.length) (by omega)]
  exact cmpL_neg _ _ _ hC hA (by omega) (by omega)
theorem out_self (hA : M.valueFault A = 0) : cmpOut A A = 0 := by
  have := out_neg hA hA
  omega
theorem same_eq (hA : M.valueFault A = 0) (hC : M.valueFault C = 0) : sameOut A C = (cmpOut A C == 0) := by
  unfold sameOut cmpOut
  rw [if_pos ⟨hA, hC⟩]
  by_cases h : cmpL A.length A C = 0
  · simp [hA, hC, h]
  · simp [hA, hC, h]
end Od

end Go.Proofs.Ytfcglmkbfdfaeaa
