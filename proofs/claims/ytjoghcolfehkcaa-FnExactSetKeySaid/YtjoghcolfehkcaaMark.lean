/-
  The laws' marks: laws.markText, laws.markCellS write told numbers into a row of the call's own; laws.heldCellS finds them there.
-/
import Derived.Test.YtjoghcolfehkcaaEq
import Derived.Deep.LoopGhost
import Derived.Laws.IdiomStrings
namespace Go.Proofs.Ytjoghcolfehkcaa
open Go.RowKit
set_option linter.unusedVariables false

theorem ret_str {a b : ByteArray} (h : a = b) : Ending.returned (.string a) = .returned (.string b) := by rw [h]

/-- The decimal digits of q ahead of o, f rounds at most. -/
def mtGo : Nat → Int → ByteArray → ByteArray
  | 0, _, o => o
  | f + 1, q, o => if 0 < q then mtGo f (q / 10) (⟨#[UInt8.ofNat (48 + q % 10).toNat]⟩ ++ o) else o
/-- What laws.markText answers. -/
def mt (k : Int) : ByteArray := if k ≤ 0 then ⟨#[109, 48]⟩ else ⟨#[109]⟩ ++ mtGo k.toNat k ByteArray.empty

theorem mtGo_zero (f : Nat) (q : Int) (o : ByteArray) (h : q ≤ 0) : mtGo f q o = o := by
  cases f with
  | zero => rfl
  | succ f => rw [mtGo, if_neg (by omega)]
theorem mtGo_step (f : Nat) (q : Int) (o : ByteArray) (h : 0 < q) (hf : 0 < f) : mtGo f q o = mtGo (f - 1) (q / 10) (⟨#[UInt8.ofNat (48 + q % 10).toNat]⟩ ++ o) := by
  cases f with
  | zero => omega
  | succ f => rw [mtGo, if_pos h]; rfl

theorem conv_digit (w : World) (x : Int) (h0 : 0 ≤ x) (h1 : x ≤ 255) :
    (convert 85 9 (.slice (some ⟨w.heap.size, 0, none⟩) 1 1)).run Try.prog (w.alloc (.cells #[.int .u8 x] 5)) = .ok (.string ⟨#[UInt8.ofNat x.toNat]⟩) (w.alloc (.cells #[.int .u8 x] 5)) := by
  have := run_convert_bytes_back (P := Try.prog) (w.alloc (.cells #[.int .u8 x] 5)) 85 9 5 ⟨w.heap.size, 0, none⟩ 1 [UInt8.ofNat x.toNat] Try.underlying85 Try.underlying5 Try.underlying9 (by
    intro j hj
    simp only [List.length_cons, List.length_nil] at hj
    obtain rfl : j = 0 := by omega
    have e : ((UInt8.ofNat x.toNat).toNat : Int) = x := by
      rw [UInt8.toNat_ofNat']; omega
    simp only [List.getElem_cons_zero, e]
    have a0 : (⟨w.heap.size, 0, none⟩ : Addr).add 0 = ⟨w.heap.size, 0, none⟩ := by simp [Addr.add]
    rw [a0]
    exact World.cell?_alloc_mark w #[.int .u8 x] 5 (0, 0) 0)
  exact this

set_option maxHeartbeats 400000 in
theorem markText_any (k : Int) (w : World) (h1 : k ≤ 1000000000000) :
    Calls Try.prog 59 #[.int .i64 k] w fun e w' => e = .returned (.string (mt k)) ∧ Below w.heap.size w w' := by
  by_cases h0 : k ≤ 0
  · have fin := hide (show mt k = ⟨#[109, 48]⟩ by unfold mt; rw [if_pos h0])
    go_enter Try.func59, Try.ntmps59
    go_wp2_with fail
    go_ret
    exact ⟨ret_str (unhide fin).symm, Below.refl _ _⟩
  have fin := hide (show mt k = ⟨#[109]⟩ ++ mtGo k.toNat k ByteArray.empty by unfold mt; rw [if_neg h0])
  have d0 : decide (k ≤ 0) = false := decide_eq_false h0
  have hk0 : 0 < k := by omega
  clear h0
  go_enter Try.func59, Try.ntmps59
  go_wp2_with fail
  go_loopg [0, 3] k.toNat (fun g s0 s3 wr => ∃ (q : Int) (o : ByteArray), s0 = .int .i64 q ∧ s3 = .string o ∧ 0 ≤ q ∧ q ≤ 1000000000000 ∧ Hid (q.toNat ≤ g ∧ g ≤ k.toNat) ∧ o.size ≤ 1000000000000 - q.toNat ∧ Hid (mtGo k.toNat k ByteArray.empty = mtGo g q o) ∧ Below w.heap.size w wr)
  case atStart => exact ⟨k, ByteArray.empty, rfl, rfl, by omega, h1, ⟨Nat.le_refl _, Nat.le_refl _⟩, by show 0 ≤ _; omega, rfl, Below.refl _ _⟩
  case round =>
    obtain ⟨q, o, rfl, rfl, hq, hq2, hg, ho, hm, hbel⟩ := hrel
    by_cases hlt : 0 < q
    · have hcv := conv_digit wr (48 + q % 10) (by omega) (by omega)
      have hst := hide (mtGo_step gk q o hlt (by have := hg.out.1; omega))
      have hsz : (⟨#[UInt8.ofNat (48 + q % 10).toNat]⟩ : ByteArray).size = 1 := rfl
      obtain ⟨D, hD⟩ : ∃ D : ByteArray, D = ⟨#[UInt8.ofNat (48 + q % 10).toNat]⟩ := ⟨_, rfl⟩
      rw [← hD] at hcv hst hsz
      have hs2 : D.size + o.size ≤ 9223372036854775807 := by omega
      have HS := hide hsz
      clear hD hsz
      go_wp2_with fail
      go_roundg (gk - 1)
      case rel =>
        refine ⟨_, _, rfl, rfl, by omega, by omega, ⟨?_, ?_⟩, ?_, ?_, hbel.alloc hbel.size _⟩
        · have := hg.out.1; omega
        · have := hg.out.2; omega
        · have h1 := unhide HS
          rw [ByteArray.size_append]
          omega
        · exact hm.out.trans (unhide hst)
      case measure => have := hg.out.1; omega
    · have hz := hide (mtGo_zero gk q o (by omega))
      have hs2 : (⟨#[109]⟩ : ByteArray).size + o.size ≤ 9223372036854775807 := by show 1 + _ ≤ _; omega
      go_wp2_with fail
      go_ret
      exact ⟨ret_str (by rw [unhide fin, hm.out, unhide hz]), hbel⟩

end Go.Proofs.Ytjoghcolfehkcaa
