/-
  spec.l5Order: the nodes below one in their order, cut where there are too many.
-/
import Derived.Test.YtkjmnkbiflkpdaaTreQ
namespace Go.Proofs.Ytkjmnkbiflkpdaa
open Go.RowKit
set_option linter.unusedVariables false

namespace Tr
/-- The order so far, behind the first j that a node names. -/
def cutK (f : Nat) (l : List Nd) (n : Nd) (out : List Int) (j : Nat) : List Int := ((links n).take j).foldl (fun o x => if o.length ≤ l.length then cutF f l o x.toNat else o) out
theorem cutK_zero (f : Nat) (l : List Nd) (n : Nd) (out : List Int) : cutK f l n out 0 = out := rfl
theorem cutK_succ (f : Nat) (l : List Nd) (n : Nd) (out : List Int) (j : Nat) (hj : j < kids n.op) : cutK f l n out (j + 1) = if (cutK f l n out j).length ≤ l.length then cutF f l (cutK f l n out j) (kidAt n j).toNat else cutK f l n out j := by
  unfold cutK
  have h : j < (links n).length := by rw [links_length]; exact hj
  have e : (links n)[j] = kidAt n j := by
    have := links_getD n j hj
    rw [List.getD_eq_getElem?_getD, List.getElem?_eq_getElem h] at this
    exact this
  rw [List.take_succ_eq_append_getElem h, List.foldl_append, e]
  rfl
theorem cutK_stop (f : Nat) (l : List Nd) (n : Nd) (out : List Int) (j m : Nat) (hj : ¬ (cutK f l n out j).length ≤ l.length) (hm : j ≤ m) (hk : m ≤ kids n.op) : cutK f l n out m = cutK f l n out j := by
  induction m with
  | zero => have : j = 0 := by omega
            rw [this]
  | succ m ih =>
    by_cases e : j = m + 1
    · rw [e]
    · rw [cutK_succ f l n out m (by omega), ih (by omega) (by omega), if_neg hj]
theorem cutK_all (f : Nat) (l : List Nd) (out : List Int) (i : Nat) : cutF (f + 1) l out i = cutK f l (l.getD i Nd.zero) out (kids (l.getD i Nd.zero).op) ++ [(i : Int)] := by
  rw [cutF]
  unfold cutK
  rw [List.take_of_length_le (by rw [links_length]; exact Nat.le_refl _)]
theorem cutK_le (f : Nat) (l : List Nd) (n : Nd) (out : List Int) (m : Nat) (ho : out.length ≤ m + f) (hl : l.length ≤ m) (j : Nat) : (cutK f l n out j).length ≤ m + f := by
  have key : ∀ (ls out : List Int), out.length ≤ m + f → (ls.foldl (fun o x => if o.length ≤ l.length then cutF f l o x.toNat else o) out).length ≤ m + f := by
    intro ls
    induction ls with
    | nil => intro o h; exact h
    | cons x xs ih2 =>
      intro o h
      rw [List.foldl_cons]
      refine ih2 _ ?_
      split
      · rename_i h3; exact cutF_le f l o _ m (by omega) hl
      · exact h
  exact key _ out ho
/-- The blocks below a base are kept, and of the others that were there all but rows of numbers. -/
def Kp (B : Nat) (w w' : World) : Prop := Below B w w' ∧ ∀ b, b < w.heap.size → (∀ c fz, w.heap[b]? ≠ some (.cells c 2 fz)) → w'.heap[b]? = w.heap[b]?
theorem Kp.refl (B : Nat) (w : World) : Kp B w w := ⟨Below.refl _ _, fun _ _ _ => rfl⟩
theorem Kp.trans {B : Nat} {w w1 w2 : World} (h : Kp B w w1) (h' : Kp B w1 w2) : Kp B w w2 := by
  refine ⟨h.1.trans h'.1, fun b hb hn => ?_⟩
  have e := h.2 b hb hn
  rw [← e]
  refine h'.2 b (Nat.lt_of_lt_of_le hb h.1.size) ?_
  rw [e]; exact hn
theorem Kp.of_below {B : Nat} {w w' : World} (h : Below w.heap.size w w') (hB : B ≤ w.heap.size) : Kp B w w' := ⟨h.mono hB, fun b hb _ => h.block b hb⟩
theorem Kp.grown {B : Nat} {w w' : World} {v : Value} {n : Nat} {xs : List Value} (ho : w.ownsRow B 2 1 v n xs) (hg : w.grownBy w' v.ownBlock) (hB : B ≤ w.heap.size) : Kp B w w' := by
  refine ⟨(Below.refl _ _).grown hg hB (owns_base ho), fun b hb hn => ?_⟩
  refine hg.block b hb fun e => ?_
  obtain ⟨_, ⟨rfl, _⟩ | ⟨g, cap, cur, rfl, _, hh, _⟩⟩ := ho
  · simp [Value.ownBlock] at e
  · simp only [Value.ownBlock, Option.some.injEq] at e
    subst e
    exact hn _ _ hh
theorem Kp.own {B b : Nat} {w w' : World} {t : TypeId} {xs : List Value} (h : Kp B w w') (ho : Own w b t xs) (ht : t ≠ 2) : Own w' b t xs := by
  obtain ⟨c, hc, e⟩ := ho
  refine ⟨c, (h.2 b (Array.getElem?_eq_some_iff.1 hc).1 ?_).trans hc, e⟩
  intro c' fz hcc
  rw [hc] at hcc
  simp only [Option.some.injEq, Obj.cells.injEq] at hcc
  exact ht hcc.2.1
theorem owns_slice {w : World} {base : Nat} {e : TypeId} {size : Nat} {v : Value} {n : Nat} {xs : List Value} (h : w.ownsRow base e size v n xs) : ∃ a c, v = .slice a n c := by
  obtain ⟨_, ⟨rfl, rfl⟩ | ⟨g, cap, cur, rfl, _⟩⟩ := h
  · exact ⟨_, _, rfl⟩
  · exact ⟨_, _, rfl⟩
end Tr

end Go.Proofs.Ytkjmnkbiflkpdaa
