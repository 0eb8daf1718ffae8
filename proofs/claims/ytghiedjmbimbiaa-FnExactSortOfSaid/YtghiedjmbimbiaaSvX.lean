/-
  The comparison of the sort of lists.
-/
import Derived.Test.YtghiedjmbimbiaaSvW
namespace Go.Proofs.Ytghiedjmbimbiaa
open Go.RowKit
set_option linter.unusedVariables false

/-- What the comparison reads: the lists, each in its block, none of them b. -/
def PartsAt (w : World) (b : Nat) (β ν γ : Nat → Nat) (ps : List (List M.Cl)) : Prop :=
  ∀ i, i < ps.length → M.valueFault (ps.getD i []) = 0 ∧ (∀ c ∈ ps.getD i [], c.ok) ∧ ν i = (ps.getD i []).length ∧ ν i ≤ γ i ∧ β i < w.heap.size ∧ β i ≠ b ∧ Row w (β i) 0 (ps.getD i [])
theorem PartsAt.but {w w' : World} {b : Nat} {β ν γ : Nat → Nat} {ps : List (List M.Cl)} (h : PartsAt w b β ν γ ps) (hb : But w.heap.size b w w') : PartsAt w' b β ν γ ps := by
  intro i hi
  obtain ⟨h1, h2, h3, h4, h5, h6, h7⟩ := h i hi
  refine ⟨h1, h2, h3, h4, Nat.lt_of_lt_of_le h5 hb.size, h6, fun j hj => ?_⟩
  obtain ⟨c0, c1, c2, c3, c4⟩ := h7 j hj
  have e : ∀ o, w'.cell? ⟨β i, o, none⟩ = w.cell? ⟨β i, o, none⟩ := fun o => World.cell?_of_block (w := w) (hb.block _ h5 h6)
  exact ⟨(e _).trans c0, (e _).trans c1, (e _).trans c2, (e _).trans c3, (e _).trans c4⟩

set_option maxHeartbeats 1000000 in
theorem orderOf_srt (v : List M.Cl) (b off cap : Nat) (u : List M.Cl) (b' off' cap' : Nat) (w : World) (hv : M.valueFault v = 0) (hu : M.valueFault u = 0) (hrow : Row w b off v) (hb : b < w.heap.size) (hcap : v.length ≤ cap) (hrow' : Row w b' off' u) (hb' : b' < w.heap.size) (hcap' : u.length ≤ cap') :
    Calls Try.prog 28 #[.slice (some ⟨b, off, none⟩) v.length cap, .slice (some ⟨b', off', none⟩) u.length cap'] w fun e w' => e = .returned (.int .i64 (cmpL v.length v u)) ∧ Below w.heap.size w w' := by
  have h1 := (M.fault_zero hv).1
  have h2 := (M.fault_zero hu).1
  have HC := hide (compareAt_any v u b off cap b' off' cap' v.length hv hu hcap hcap' 0 0 w (by omega) (by omega) (by have h3 := part_len hv (show 0 < v.length by omega); have h4 := (end_gt hv (show 0 < v.length by omega)).2; omega) hrow hb hrow' hb')
  rw [cmpL_whole hv hu] at HC
  clear hv hu hrow hrow'
  generalize cmpL v.length v u = c at *
  go_enter Try.func28, Try.ntmps28
  go_wp2_with fail
  refine (unhide HC).mono ?_
  rintro e1 w1 ⟨rfl, hb1⟩
  go_wp2_with fail
  go_ret
  exact ⟨rfl, hb1⟩

set_option maxHeartbeats 1000000 in
theorem cmpS_any (x y b : Nat) (β ν γ : Nat → Nat) (ps : List (List M.Cl)) (w : World) (h : PartsAt w b β ν γ ps) (hx : x < ps.length) (hy : y < ps.length) (hn : ps.length ≤ 1048576) :
    Calls Try.prog 27 #[.slice (some ⟨β x, 0, none⟩) (ν x) (γ x), .slice (some ⟨β y, 0, none⟩) (ν y) (γ y)] w fun e w' => e = .returned (.int .i64 (St.cmpV ps x y)) ∧ Below w.heap.size w w' := by
  obtain ⟨x1, _, x3, x4, x5, _, x7⟩ := h x hx
  obtain ⟨y1, _, y3, y4, y5, _, y7⟩ := h y hy
  have HO := hide (orderOf_srt _ (β x) 0 (γ x) _ (β y) 0 (γ y) w x1 y1 x7 x5 (by omega) y7 y5 (by omega))
  have e : cmpL (ps.getD x []).length (ps.getD x []) (ps.getD y []) = St.cmpV ps x y := by unfold St.cmpV; rw [St.vOf_eq x1, St.vOf_eq y1]
  rw [e, ← x3, ← y3] at HO
  clear e x1 x3 x4 x5 x7 y1 y3 y4 y5 y7 h
  generalize St.cmpV ps x y = c at *
  go_enter Try.func27, Try.ntmps27
  go_wp2_with fail
  refine (unhide HO).mono ?_
  rintro e1 w1 ⟨rfl, hb1⟩
  go_wp2_with fail
  go_ret
  exact ⟨rfl, hb1⟩
end Go.Proofs.Ytghiedjmbimbiaa
