/-
  The places of a value: whether a place is one, and where the value at it ends, by the program and by its model.
-/
import Derived.Test.YtlmibdddfjbbdaaM11
import Derived.Test.YtlmibdddfjbbdaaM12
namespace Go.Proofs.Ytlmibdddfjbbdaa
open Go.RowKit
set_option linter.unusedVariables false

set_option maxHeartbeats 1000000 in
theorem l1End_any (v : List M.Cl) (b off cap a : Nat) (w : World) (hv : M.valueFault v = 0) (ha : a < v.length) (hrow : Row w b off v) (hb : b < w.heap.size) (hcap : v.length ≤ cap) (hok : ∀ c ∈ v, c.ok) :
    Calls Try.prog 53 #[.slice (some ⟨b, off, none⟩) v.length cap, .int .i64 a] w fun e w' => e = .returned (.int .i64 (M.endOf v a)) ∧ Below w.heap.size w w' := by
  obtain ⟨d, h1, h2, h3, h4⟩ := M.endOf_spec hv a ha
  have hl := (M.fault_zero hv).2.1
  have IH := hide (l1Shape_any v b off cap hl hcap hok v.length (by omega))
  clear hok hv
  have H1 := hide h1
  clear h1
  go_enter Try.func53, Try.ntmps53
  go_wp2_with fail
  refine ((unhide IH) a 0 _ (by omega) ha (by omega) (by omega) hrow hb).mono ?_
  rintro e1 w1 ⟨rfl, hb1⟩
  rw [unhide H1]
  simp only [shOut]
  go_wp2_with fail
  go_ret
  exact ⟨rfl, hb1⟩

set_option maxHeartbeats 1000000 in
theorem endOf_any (v : List M.Cl) (b off cap a : Nat) (w : World) (hv : M.valueFault v = 0) (ha : a < v.length) (hrow : Row w b off v) (hb : b < w.heap.size) (hcap : v.length ≤ cap) :
    Calls Try.prog 67 #[.slice (some ⟨b, off, none⟩) v.length cap, .int .i64 a] w fun e w' => e = .returned (.int .i64 (M.endOf v a)) ∧ w' = w := by
  obtain ⟨d, h1, h2, h3, h4⟩ := M.endOf_spec hv a ha
  have hl := (M.fault_zero hv).2.1
  have hfit := hide (M.fits_of hv)
  have how := hide (M.walk_owe (M.fits_of hv) v.length a _ d h1)
  clear hv h1
  generalize M.endOf v a = z at *
  go_enter Try.func67, Try.ntmps67
  go_wp2_with fail
  go_loop [1, 5] (fun s1 s5 => ∃ (p : Nat) (q : Int), s1 = .int .i64 p ∧ s5 = .int .i64 q ∧ a ≤ p ∧ p ≤ z ∧ Hid (q = 1 + M.owe v a (p - a))) (fun s1 _ => z - (intOf s1).toNat)
  case atStart => exact ⟨a, 1, rfl, rfl, Nat.le_refl _, by omega, by simp [Hid, M.owe]⟩
  case round =>
    obtain ⟨p, q, rfl, rfl, hp1, hp2, hq⟩ := hrel
    by_cases hlt : p < z
    · have hpos := (unhide how).2.2 p hp1 hlt
      have q0 : 0 < q := by have := hq.out; omega
      have q1 : q ≤ 40000 := by have := hq.out; have := (M.owe_bd (unhide hfit) a (p - a)).2; omega
      have hN := M.fits_getD (unhide hfit) p
      obtain ⟨f0, f1, f2, f3, f4⟩ := hrow p (by omega)
      clear f0 f1 f2 f3
      have hstep : M.owe v a (p + 1 - a) = M.owe v a (p - a) + ((v.getD p M.zero).n - 1) := by
        rw [show p + 1 - a = (p - a) + 1 from by omega, M.owe, show a + (p - a) = p from by omega]
      have hs := hide hstep
      clear hstep hpos
      generalize v.getD p M.zero = c at *
      obtain ⟨n0, n1⟩ := hN
      go_wp2
      go_round
      case rel => exact ⟨p + 1, _, by go_num, rfl, by omega, by omega, by show _ = _; rw [unhide hs]; have := hq.out; omega⟩
      case measure => simp [intOf]; omega
    · have hpz : p = z := by omega
      have q0 : q = 0 := by have := hq.out; have := (unhide how).2.1; rw [hpz] at *; omega
      subst q0
      subst hpz
      go_wp2
      go_ret
      exact ⟨rfl, rfl⟩

end Go.Proofs.Ytlmibdddfjbbdaa
