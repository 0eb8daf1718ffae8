/-
  spec.EachOf and impl.EachOf.
-/
import Derived.Test.YtghiedjmbimbiaaGreatEachM
import Derived.Test.YtghiedjmbimbiaaGreatCellB
import Derived.Test.YtghiedjmbimbiaaGreatAns
namespace Go.Proofs.YtghiedjmbimbiaaGreat
open Go.RowKit
set_option linter.unusedVariables false

def eachOut (v : List M.Cl) : Int × List (List M.Cl) := if M.valueFault v ≠ 0 then (M.valueFault v, []) else if (v.getD 0 M.zero).kind = 5 ∨ (v.getD 0 M.zero).kind = 6 then (0, subs v 0) else (6, [])
theorem each_bad {v : List M.Cl} (h : M.valueFault v ≠ 0) : eachOut v = (M.valueFault v, []) := if_pos h
theorem each_ok {v : List M.Cl} (h : M.valueFault v = 0) (hk : (v.getD 0 M.zero).kind = 5 ∨ (v.getD 0 M.zero).kind = 6) : eachOut v = (0, subs v 0) := by unfold eachOut; rw [if_neg (by simp [h]), if_pos hk]
theorem each_no {v : List M.Cl} (h : M.valueFault v = 0) (hk : ¬ ((v.getD 0 M.zero).kind = 5 ∨ (v.getD 0 M.zero).kind = 6)) : eachOut v = (6, []) := by unfold eachOut; rw [if_neg (by simp [h]), if_neg hk]
/-- The lists that are told are few and small. -/
theorem each_small (v : List M.Cl) (hok : ∀ c ∈ v, c.ok) : (eachOut v).2.length ≤ 200 ∧ tot (eachOut v).2 (eachOut v).2.length ≤ 1048576 ∧ ∀ i, i < (eachOut v).2.length → ((eachOut v).2.getD i []).length ≤ 1048576 := by
  by_cases h : M.valueFault v = 0
  · by_cases hk : (v.getD 0 M.zero).kind = 5 ∨ (v.getD 0 M.zero).kind = 6
    · rw [each_ok h hk]
      have hall := subs_all h hok
      have hsm := tot_small (subs v 0) (subs v 0).length (Nat.le_refl _) (fun j hj => (fault_len (hall.2.1 j hj)).2)
      exact ⟨hall.1, by have := hall.1; simp only; omega, fun i hi => by have := (fault_len (hall.2.1 i hi)).2; simp only; omega⟩
    · rw [each_no h hk]; exact ⟨by simp, by simp [tot], fun i hi => by simp at hi⟩
  · rw [each_bad h]; exact ⟨by simp, by simp [tot], fun i hi => by simp at hi⟩
/-- The call told the code and the lists of out. -/
def AnsS (w : World) (out : Int × List (List M.Cl)) (e : Ending) (w' : World) : Prop := ∃ s, e = .returned (.agg #[.int .i64 out.1, s]) ∧ PS w' w.heap.size w'.heap.size s out.2 ∧ Below w.heap.size w w'
def AnsR (w : World) (out : Int × List (List M.Cl)) (e : Ending) (w' : World) : Prop := ∃ s, e = .returned (.agg #[.int .i64 out.1, s]) ∧ PR w' w.heap.size w'.heap.size s out.2 ∧ Below w.heap.size w w'
theorem ansS_of {w w' : World} {out : Int × List (List M.Cl)} {c : Int} {s : Value} {l : List (List M.Cl)} (fin : out = (c, l)) (hr : PS w' w.heap.size w'.heap.size s l) (hb : Below w.heap.size w w') : AnsS w out (.returned (.agg #[.int .i64 c, s])) w' := by
  subst fin; exact ⟨s, rfl, hr, hb⟩
theorem ansR_of {w w' : World} {out : Int × List (List M.Cl)} {c : Int} {s : Value} {l : List (List M.Cl)} (fin : out = (c, l)) (hr : PR w' w.heap.size w'.heap.size s l) (hb : Below w.heap.size w w') : AnsR w out (.returned (.agg #[.int .i64 c, s])) w' := by
  subst fin; exact ⟨s, rfl, hr, hb⟩
theorem size_setCell2 (w : World) (p q : Addr) (x y : Value) : ((w.setCell p x).setCell q y).heap.size = w.heap.size := by simp
theorem heap_setCell2 (w : World) (b : Nat) (x y : Value) (k : Nat) (hk : k ≠ b) : ((w.setCell ⟨b, 0, none⟩ x).setCell ⟨b, 1, none⟩ y).heap[k]? = w.heap[k]? := (heap_setCell_other _ ⟨b, 1, none⟩ k y hk).trans (heap_setCell_other _ ⟨b, 0, none⟩ k x hk)
theorem PS.stored {w w1 w2 : World} {s : Value} {l : List (List M.Cl)} (hr : PS w2 w1.heap.size w2.heap.size s l) (B1 : Below w.heap.size w w1) (hsz : w.heap.size < w1.heap.size) (hb : Below w1.heap.size w1 w2) (x y : Value) :
    PS ((w2.setCell ⟨w.heap.size, 0, none⟩ x).setCell ⟨w.heap.size, 1, none⟩ y) w.heap.size ((w2.setCell ⟨w.heap.size, 0, none⟩ x).setCell ⟨w.heap.size, 1, none⟩ y).heap.size s l ∧ Below w.heap.size w ((w2.setCell ⟨w.heap.size, 0, none⟩ x).setCell ⟨w.heap.size, 1, none⟩ y) := by
  refine ⟨?_, ((B1.trans (hb.mono B1.size)).setCell (Nat.le_refl _) _).setCell (Nat.le_refl _) _⟩
  rw [size_setCell2]
  exact (hr.keep fun k h1 _ _ => heap_setCell2 w2 _ x y k (by omega)).mono (by omega) (Nat.le_refl _)
theorem PR.mono {w : World} {lo hi lo' hi' : Nat} {v : Value} {ps : List (List M.Cl)} (h : PR w lo hi v ps) (h1 : lo' ≤ lo) (h2 : hi ≤ hi') : PR w lo' hi' v ps := by
  rcases h with h | ⟨g, cap, xs, β, γ, q1, q2, q3, q4, q5, q6, q7⟩
  · exact .inl h
  · exact .inr ⟨g, cap, xs, β, γ, q1, q2, by omega, by omega, q5, fun i hi => ⟨(q6 i hi).1, (q6 i hi).2.1, by have := (q6 i hi).2.2.1; omega, by have := (q6 i hi).2.2.2.1; omega, (q6 i hi).2.2.2.2⟩, q7⟩
theorem PR.stored {w w1 w2 : World} {s : Value} {l : List (List M.Cl)} (hr : PR w2 w1.heap.size w2.heap.size s l) (B1 : Below w.heap.size w w1) (hsz : w.heap.size < w1.heap.size) (hb : Below w1.heap.size w1 w2) (x y : Value) :
    PR ((w2.setCell ⟨w.heap.size, 0, none⟩ x).setCell ⟨w.heap.size, 1, none⟩ y) w.heap.size ((w2.setCell ⟨w.heap.size, 0, none⟩ x).setCell ⟨w.heap.size, 1, none⟩ y).heap.size s l ∧ Below w.heap.size w ((w2.setCell ⟨w.heap.size, 0, none⟩ x).setCell ⟨w.heap.size, 1, none⟩ y) := by
  refine ⟨?_, ((B1.trans (hb.mono B1.size)).setCell (Nat.le_refl _) _).setCell (Nat.le_refl _) _⟩
  rw [size_setCell2]
  exact (hr.keep fun k h1 _ _ => heap_setCell2 w2 _ x y k (by omega)).mono (by omega) (Nat.le_refl _)

end Go.Proofs.YtghiedjmbimbiaaGreat
