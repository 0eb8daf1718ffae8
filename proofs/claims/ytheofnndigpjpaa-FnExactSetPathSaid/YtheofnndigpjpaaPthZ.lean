/-
  A call in a drawn region, the only operation that may come up. No word of the program is used here.
-/
import Derived.Test.YtheofnndigpjpaaAnyZ
namespace Go.Proofs.Ytheofnndigpjpaa
open Go.RowKit
set_option linter.unusedVariables false

theorem Z.only {P : Program} {ops : Array Oper} {Q : Exit → Act → World → Prop} {md : Region.Mode} {S : World → Prop} {z i d : Nat} {oi : Oper} {fuel : Nat} {listed : Array Bool} {a : Act} {w : World} (hi : ops[i]? = some oi) (hd : oi.dst = some d) (hr : Region.ready md ops listed = [i])
    (hw : Region.wanted oi (yielded ops a.tmps) = true) (h : ∀ K : Act → World → Prop, Shut (∀ v w', S w' → Z.any P md ops Q S z fuel (listed.setIfInBounds i true) (a.put (some d) v) w' → K (a.put (some d) v) w') → Oper.wp P oi a w K Q) : Z.any P md ops Q S z (fuel + 1) listed a w :=
  Z.ready hr (by simp) (Z.All.cons hi (fun K hK => by
    rw [if_pos hw]
    exact h K (fun v w' hS hW => hK.out _ _ (fun _ => hS) hW)) Z.All.nil)
end Go.Proofs.Ytheofnndigpjpaa
