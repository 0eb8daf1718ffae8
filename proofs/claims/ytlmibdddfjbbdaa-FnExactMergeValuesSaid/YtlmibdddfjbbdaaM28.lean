/-
  Answers that tell a code and a value, and the small makers of them.
-/
import Derived.Test.YtlmibdddfjbbdaaM07
import Derived.Test.YtlmibdddfjbbdaaM27
namespace Go.Proofs.Ytlmibdddfjbbdaa
open Go.RowKit
set_option linter.unusedVariables false

/-- The call told the code and the cells of out, these in memory of their own. -/
def Ans (w : World) (out : Int × List M.Cl) (e : Ending) (w' : World) : Prop := ∃ s, e = .returned (.agg #[.int .i64 out.1, s]) ∧ Res w' w.heap.size s out.2 ∧ Below w.heap.size w w'
theorem ans_of {w w' : World} {out : Int × List M.Cl} {c : Int} {s : Value} {l : List M.Cl} (fin : out = (c, l)) (hr : Res w' w.heap.size s l) (hb : Below w.heap.size w w') : Ans w out (.returned (.agg #[.int .i64 c, s])) w' := by
  subst fin; exact ⟨s, rfl, hr, hb⟩
theorem resNil (w : World) (B : Nat) : Res w B (.slice none 0 0) [] := ⟨by simp, .inl ⟨rfl, rfl⟩⟩
/-- What was told is stored into the call's own answer. -/
theorem Ans.store {w w1 w2 : World} {s : Value} {l : List M.Cl} (hr : Res w2 w1.heap.size s l) (B1 : Below w.heap.size w w1) (hsz : w.heap.size < w1.heap.size) (hb : Below w1.heap.size w1 w2) (x y : Value) :
    Res ((w2.setCell ⟨w.heap.size, 0, none⟩ x).setCell ⟨w.heap.size, 1, none⟩ y) w.heap.size s l ∧ Below w.heap.size w ((w2.setCell ⟨w.heap.size, 0, none⟩ x).setCell ⟨w.heap.size, 1, none⟩ y) := by
  have hne : ∀ b, s.ownBlock = some b → b ≠ w.heap.size := fun b h => by have := hr.base b h; omega
  exact ⟨((hr.mono B1.size).setOther _ _ hne).setOther _ _ hne, ((B1.trans (hb.mono B1.size)).setCell (Nat.le_refl _) _).setCell (Nat.le_refl _) _⟩
theorem store_below {w w1 : World} (B1 : Below w.heap.size w w1) (x y : Value) : Below w.heap.size w ((w1.setCell ⟨w.heap.size, 0, none⟩ x).setCell ⟨w.heap.size, 1, none⟩ y) := (B1.setCell (Nat.le_refl _) _).setCell (Nat.le_refl _) _

/-- A row of one cell, laid by a literal. -/
theorem one_cell (w : World) (B b : Nat) (c : M.Cl) (hb : b = w.heap.size) (hB : B ≤ w.heap.size) : Res (w.alloc (.cells #[.int .i64 c.kind, .int .i64 c.num, .string c.text, .string c.key, .int .i64 c.n] 41)) B (.slice (some ⟨b, 0, none⟩) 1 1) [c] := by
  subst hb
  refine ⟨by simp, .inr ⟨w.heap.size, 1, rfl, hB, by simp, ⟨_, ⟨_, heap_alloc_new _ _, rfl⟩, by simp, fun i hi => ?_⟩⟩⟩
  simp only [List.length_cons, List.length_nil] at hi
  obtain rfl : i = 0 := by omega
  exact ⟨rfl, rfl, rfl, rfl, rfl⟩

set_option maxHeartbeats 400000 in
theorem l3Bad_any (c : Int) (w : World) : Calls Try.prog 15 #[.int .i64 c] w (Ans w (c, [])) := by
  go_enter Try.func15, Try.ntmps15
  go_wp2_with fail
  refine bodyPost_ret (v := .agg #[.int .i64 c, .slice none 0 0]) (by simp [results, Try.results15, go_sem]) rfl (ans_of rfl (resNil _ _) ((Below.refl _ _).alloc (Nat.le_refl _) _))

set_option maxHeartbeats 400000 in
theorem l3Null_any (w : World) : Calls Try.prog 29 #[] w fun e w' => ∃ s, e = .returned s ∧ Res w' w.heap.size s [M.zero] ∧ Below w.heap.size w w' := by
  go_enter Try.func29, Try.ntmps29
  go_wp2_with fail
  go_ret
  exact ⟨_, rfl, one_cell w w.heap.size w.heap.size M.zero rfl (Nat.le_refl _), (Below.refl _ _).alloc (Nat.le_refl _) _⟩
set_option maxHeartbeats 400000 in
theorem nullResult_any (w : World) : Calls Try.prog 49 #[] w (Ans w (0, [M.zero])) := by
  go_enter Try.func49, Try.ntmps49
  go_wp2_with fail
  refine bodyPost_ret (v := .agg #[.int .i64 0, .slice (some ⟨w.heap.size + 1, 0, none⟩) 1 1]) (by simp [results, Try.results49, go_sem]) rfl (ans_of rfl ?_ ?_)
  · exact one_cell (w.alloc _) w.heap.size (w.heap.size + 1) M.zero (by simp) (by simp)
  · exact ((Below.refl _ _).alloc (Nat.le_refl _) _).alloc (by simp) _

end Go.Proofs.Ytlmibdddfjbbdaa
