/-
  laws.eqCell and laws.eqCellS: cells that are alike are told alike.
-/
import Derived.Test.YtjoghcolfehkcaaCopy
namespace Go.Proofs.Ytjoghcolfehkcaa
open Go.RowKit
set_option linter.unusedVariables false

set_option maxHeartbeats 400000 in
theorem eqCell_same (kind num n : Int) (text key : ByteArray) (w : World) :
    Calls Try.prog 58 #[.agg #[.int .i64 kind, .int .i64 num, .string text, .string key, .int .i64 n], .agg #[.int .i64 kind, .int .i64 num, .string text, .string key, .int .i64 n]] w fun e w' => e = .returned (.bool true) ∧ Below w.heap.size w w' := by
  go_enter Try.func58, Try.ntmps58
  go_wp2
  go_ret
  exact ⟨rfl, ((Below.refl _ _).alloc (Nat.le_refl _) _).alloc (by simp) _⟩

set_option maxHeartbeats 800000 in
theorem eqCellS_same (b off cap b' off' cap' : Nat) (l : List M.Cl) (w : World) (hrow : Row w b off l) (hb : b < w.heap.size) (hrow' : Row w b' off' l) (hb' : b' < w.heap.size) (hcap : l.length ≤ 1048576) (h1 : l.length ≤ cap) (h2 : l.length ≤ cap') :
    Calls Try.prog 21 #[.slice (some ⟨b, off, none⟩) l.length cap, .slice (some ⟨b', off', none⟩) l.length cap'] w fun e w' => e = .returned (.bool true) ∧ Below w.heap.size w w' := by
  go_enter Try.func21, Try.ntmps21
  go_wp2_with fail
  go_loopw [5] (fun i wr => ∃ k : Nat, k ≤ l.length ∧ i = .int .i64 k ∧ Below w.heap.size w wr) (fun i _ => l.length - (intOf i).toNat)
  case atStart => exact ⟨0, by omega, rfl, Below.refl _ _⟩
  case round =>
    obtain ⟨k, hk, rfl, hbel⟩ := hrel
    by_cases hlt : k < l.length
    · obtain ⟨c, hc⟩ : ∃ c, c = l.getD k M.zero := ⟨_, rfl⟩
      obtain ⟨f0, f1, f2, f3, f4⟩ := (hrow.below hbel hb) k hlt
      obtain ⟨g0, g1, g2, g3, g4⟩ := (hrow'.below hbel hb') k hlt
      rw [← hc] at f0 f1 f2 f3 f4 g0 g1 g2 g3 g4
      clear hc
      go_wp2_with fail
      go_region_with (go_at_call 58; refine (eqCell_same c.kind c.num c.n c.text c.key _).mono ?_; rintro e w1 ⟨rfl, hb1⟩)
      all_goals
        go_wp2_with fail
        go_roundw
        case rel => exact ⟨k + 1, by omega, by go_num, hbel.drew.trans (hb1.mono (by exact hbel.size))⟩
        case measure => simp [intOf]; omega
    · go_wp2_with fail
      go_ret
      exact ⟨rfl, hbel⟩

end Go.Proofs.Ytjoghcolfehkcaa
