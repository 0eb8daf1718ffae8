/-
  Reading a value, plainly: by fuel and depth; where it ends, and that it has no more cells than it took bytes. No word of the program is used here.
  Reading a value, plainly, step by step: what a round of a list does, what stands by then. No word of the program is used here.
-/
import Derived.Test.YtlmibdddfjbbdaaM00
import Derived.Test.YtlmibdddfjbbdaaM01
import Derived.Test.YtlmibdddfjbbdaaM25
import Derived.BigQuiet
import Derived.BigRegion
import Derived.Deep.LoopGhost
import Derived.Deep.QuietTactic
import Derived.RegionTactic
namespace Go.Proofs.Ytlmibdddfjbbdaa
open Go.RowKit
set_option linter.unusedVariables false
set_option linter.unusedSimpArgs false

namespace J
def madeV (obj : Bool) (ks : List ByteArray) (ps : List (List M.Cl)) : List M.Cl := if obj then objV ks ps else arrV ps
theorem memK_len (ks : List ByteArray) (ps : List (List M.Cl)) (L : List Nat) : (memK ks ps L L.length).length = ((L.map fun p => (ps.getD p []).length).sum) := by
  unfold memK
  rw [List.take_length, List.length_flatten, List.map_map]
  congr 1
  apply List.map_congr_left
  intro p _
  exact setKey_length _ _
theorem made_len (obj : Bool) (ks : List ByteArray) (ps : List (List M.Cl)) (h : obj = true → ks.length = ps.length) : 0 < (madeV obj ks ps).length ∧ (madeV obj ks ps).length ≤ 1 + tot ps ps.length := by
  unfold madeV
  cases obj with
  | false =>
    simp only [Bool.false_eq_true, if_false]
    have : (arrV ps).length = tot ps ps.length + 1 := arrK_length ps ps.length
    omega
  | true =>
    simp only [if_true]
    have h1 : (objV ks ps).length = 1 + (memK ks ps (St.stand ks ks.length) (St.stand ks ks.length).length).length := by unfold objV objK; simp; omega
    have h2 := memK_len ks ps (St.stand ks ks.length)
    have h3 := sum_le_tot ps ks.length (St.stand ks ks.length) (stand_nodup ks ks.length) (fun x hx => St.stand_lt ks ks.length x hx) (by rw [h rfl]; exact Nat.le_refl _)
    rw [h rfl] at h3 h2 h1
    omega
end J
end Go.Proofs.Ytlmibdddfjbbdaa

namespace Go.Proofs.Ytlmibdddfjbbdaa
open Go.RowKit
set_option linter.unusedVariables false

/-- A part that bears no key. -/
def Bare (p : List M.Cl) : Prop := 1 ≤ p.length ∧ setKey p ByteArray.empty = p

namespace J
theorem made_bare (obj : Bool) (ks : List ByteArray) (ps : List (List M.Cl)) : Bare (madeV obj ks ps) := by
  unfold madeV
  cases obj with
  | false => exact ⟨by simp [arrV, arrK], rfl⟩
  | true => exact ⟨by simp [objV, objK], rfl⟩
end J
end Go.Proofs.Ytlmibdddfjbbdaa
