/-
  impl.nodeFault tells the code of a node.
-/
import Derived.Test.YtkjmnkbiflkpdaaTreA
import Derived.Test.YtkjmnkbiflkpdaaTreB
import Derived.Test.YtkjmnkbiflkpdaaTreN
import Derived.Test.YtkjmnkbiflkpdaaNdM
namespace Go.Proofs.Ytkjmnkbiflkpdaa
open Go.RowKit
set_option linter.unusedVariables false
set_option linter.unusedSimpArgs false

theorem linksFit_any (n : Nd) (at_ ks : Nat) (hk : ks ≤ 3) (lo hi : Int) (fv : Value) (hfv : fv.oneCell' = true) (w : World) : Calls Try.prog 60 #[.agg #[.int .i64 ks, .int .i64 lo, .int .i64 hi, fv], .agg #[.int .i64 n.a, .int .i64 n.b, .int .i64 n.c], .int .i64 at_] w fun e w' => e = .returned (.bool (Tr.linksOk ks n.a n.b n.c at_)) ∧ Below w.heap.size w w' := by
  match ks, hk with
  | 0, _ =>
    by_cases p0 : n.a = 0
    case neg =>
      have e : Tr.linksOk 0 n.a n.b n.c at_ = false := by simp [Tr.linksOk, Tr.one] <;> omega
      rw [e]; exact links_0_0_zero n at_ lo hi fv hfv w  p0
    case pos =>
      by_cases p1 : n.b = 0
      case neg =>
        have e : Tr.linksOk 0 n.a n.b n.c at_ = false := by simp [Tr.linksOk, Tr.one] <;> omega
        rw [e]; exact links_0_1_zero n at_ lo hi fv hfv w p0 p1
      case pos =>
        by_cases p2 : n.c = 0
        case neg =>
          have e : Tr.linksOk 0 n.a n.b n.c at_ = false := by simp [Tr.linksOk, Tr.one] <;> omega
          rw [e]; exact links_0_2_zero n at_ lo hi fv hfv w p0 p1 p2
        case pos =>
          have e : Tr.linksOk 0 n.a n.b n.c at_ = true := by simp [Tr.linksOk, Tr.one] <;> omega
          rw [e]; exact links_0_3_ok n at_ lo hi fv hfv w p0 p1 p2
  | 1, _ =>
    by_cases p0 : n.a < 0
    · have e : Tr.linksOk 1 n.a n.b n.c at_ = false := by simp [Tr.linksOk, Tr.one] <;> omega
      rw [e]; exact links_1_0_low n at_ lo hi fv hfv w  p0
    by_cases q0 : (at_ : Int) ≤ n.a
    · have e : Tr.linksOk 1 n.a n.b n.c at_ = false := by simp [Tr.linksOk, Tr.one] <;> omega
      rw [e]; exact links_1_0_high n at_ lo hi fv hfv w  (by omega) q0
    by_cases p1 : n.b = 0
    case neg =>
      have e : Tr.linksOk 1 n.a n.b n.c at_ = false := by simp [Tr.linksOk, Tr.one] <;> omega
      rw [e]; exact links_1_1_zero n at_ lo hi fv hfv w (by omega) (by omega) p1
    case pos =>
      by_cases p2 : n.c = 0
      case neg =>
        have e : Tr.linksOk 1 n.a n.b n.c at_ = false := by simp [Tr.linksOk, Tr.one] <;> omega
        rw [e]; exact links_1_2_zero n at_ lo hi fv hfv w (by omega) (by omega) p1 p2
      case pos =>
        have e : Tr.linksOk 1 n.a n.b n.c at_ = true := by simp [Tr.linksOk, Tr.one] <;> omega
        rw [e]; exact links_1_3_ok n at_ lo hi fv hfv w (by omega) (by omega) p1 p2
  | 2, _ =>
    by_cases p0 : n.a < 0
    · have e : Tr.linksOk 2 n.a n.b n.c at_ = false := by simp [Tr.linksOk, Tr.one] <;> omega
      rw [e]; exact links_2_0_low n at_ lo hi fv hfv w  p0
    by_cases q0 : (at_ : Int) ≤ n.a
    · have e : Tr.linksOk 2 n.a n.b n.c at_ = false := by simp [Tr.linksOk, Tr.one] <;> omega
      rw [e]; exact links_2_0_high n at_ lo hi fv hfv w  (by omega) q0
    by_cases p1 : n.b < 0
    · have e : Tr.linksOk 2 n.a n.b n.c at_ = false := by simp [Tr.linksOk, Tr.one] <;> omega
      rw [e]; exact links_2_1_low n at_ lo hi fv hfv w (by omega) (by omega) p1
    by_cases q1 : (at_ : Int) ≤ n.b
    · have e : Tr.linksOk 2 n.a n.b n.c at_ = false := by simp [Tr.linksOk, Tr.one] <;> omega
      rw [e]; exact links_2_1_high n at_ lo hi fv hfv w (by omega) (by omega) (by omega) q1
    by_cases p2 : n.c = 0
    case neg =>
      have e : Tr.linksOk 2 n.a n.b n.c at_ = false := by simp [Tr.linksOk, Tr.one] <;> omega
      rw [e]; exact links_2_2_zero n at_ lo hi fv hfv w (by omega) (by omega) (by omega) (by omega) p2
    case pos =>
      have e : Tr.linksOk 2 n.a n.b n.c at_ = true := by simp [Tr.linksOk, Tr.one] <;> omega
      rw [e]; exact links_2_3_ok n at_ lo hi fv hfv w (by omega) (by omega) (by omega) (by omega) p2
  | 3, _ =>
    by_cases p0 : n.a < 0
    · have e : Tr.linksOk 3 n.a n.b n.c at_ = false := by simp [Tr.linksOk, Tr.one] <;> omega
      rw [e]; exact links_3_0_low n at_ lo hi fv hfv w  p0
    by_cases q0 : (at_ : Int) ≤ n.a
    · have e : Tr.linksOk 3 n.a n.b n.c at_ = false := by simp [Tr.linksOk, Tr.one] <;> omega
      rw [e]; exact links_3_0_high n at_ lo hi fv hfv w  (by omega) q0
    by_cases p1 : n.b < 0
    · have e : Tr.linksOk 3 n.a n.b n.c at_ = false := by simp [Tr.linksOk, Tr.one] <;> omega
      rw [e]; exact links_3_1_low n at_ lo hi fv hfv w (by omega) (by omega) p1
    by_cases q1 : (at_ : Int) ≤ n.b
    · have e : Tr.linksOk 3 n.a n.b n.c at_ = false := by simp [Tr.linksOk, Tr.one] <;> omega
      rw [e]; exact links_3_1_high n at_ lo hi fv hfv w (by omega) (by omega) (by omega) q1
    by_cases p2 : n.c < 0
    · have e : Tr.linksOk 3 n.a n.b n.c at_ = false := by simp [Tr.linksOk, Tr.one] <;> omega
      rw [e]; exact links_3_2_low n at_ lo hi fv hfv w (by omega) (by omega) (by omega) (by omega) p2
    by_cases q2 : (at_ : Int) ≤ n.c
    · have e : Tr.linksOk 3 n.a n.b n.c at_ = false := by simp [Tr.linksOk, Tr.one] <;> omega
      rw [e]; exact links_3_2_high n at_ lo hi fv hfv w (by omega) (by omega) (by omega) (by omega) (by omega) q2
    have e : Tr.linksOk 3 n.a n.b n.c at_ = true := by simp [Tr.linksOk, Tr.one] <;> omega
    rw [e]; exact links_3_3_ok n at_ lo hi fv hfv w (by omega) (by omega) (by omega) (by omega) (by omega) (by omega)

end Go.Proofs.Ytkjmnkbiflkpdaa
