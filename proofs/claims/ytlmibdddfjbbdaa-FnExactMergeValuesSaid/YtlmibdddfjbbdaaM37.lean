/-
  A drawn region whose last operation breaks what held till then: an order of operations, where S holds behind each operation that is carried out ahead of number z. No word of the program is used here.
  A call in a drawn region, the only operation that may come up. No word of the program is used here.
-/
import Derived.Test.YtlmibdddfjbbdaaM00
import Derived.Deep.RegionHeld
namespace Go.Proofs.Ytlmibdddfjbbdaa
open Go.RowKit
set_option linter.unusedVariables false
namespace Z
section
variable {P : Program} {ops : Array Oper} {Q : Exit → Act → World → Prop} {md : Region.Mode} {S : World → Prop} {z : Nat}

/-- Whatever order is picked from here on; behind every operation S holds, as long as z has not come up. -/
def any (P : Program) (md : Region.Mode) (ops : Array Oper) (Q : Exit → Act → World → Prop) (S : World → Prop) (z : Nat) : Nat → Array Bool → Act → World → Prop
  | 0, listed, a, w => Region.ready md ops listed = [] ∧ Q .normal a w
  | fuel + 1, listed, a, w =>
    (Region.ready md ops listed = [] → Q .normal a w) ∧
    ∀ i ∈ Region.ready md ops listed, wpOp P ops Q i (fun a' w' => (i ≠ z → S w') ∧ any P md ops Q S z fuel (listed.setIfInBounds i true) a' w') a w

theorem any_is : ∀ (fuel : Nat) (listed : Array Bool) (a : Act) (w : World), any P md ops Q S z fuel listed a w → wpAny P md ops Q fuel listed a w
  | 0, _, _, _, h => h
  | fuel + 1, _, _, _, h => ⟨h.1, fun i hi => wpOp_mono (fun a' w' h' => any_is fuel _ a' w' h'.2) (h.2 i hi)⟩

/-- z waits for i. -/
def waits (md : Region.Mode) (ops : Array Oper) (z i : Nat) : Bool := match ops[z]? with
  | some oz => oz.after.any fun e => Region.binds md e && e.on == i
  | none => false

/-- Two that may both come up: neither waits for the other. -/
theorem both_up {listed : Array Bool} {i j : Nat} (hi : i ∈ Region.ready md ops listed) (hj : j ∈ Region.ready md ops listed) :
    ∃ oj, ops[j]? = some oj ∧ listed.getD j true = false ∧ ∀ e ∈ oj.after, Region.binds md e = true → e.on ≠ i := by
  obtain ⟨u, o, ho, hall⟩ := mem_ready.1 hj
  refine ⟨o, ho, u, ?_⟩
  rintro e he hb rfl
  have x := hall e he hb
  have y := (mem_ready.1 hi).1
  cases q : listed[e.on]? with
  | none => simp [q] at x
  | some t => cases t <;> simp [q] at x y
/-- Whatever has not come up and does not wait for i is apart from it. -/
def Apart (md : Region.Mode) (ops : Array Oper) (i : Nat) (oi : Oper) (listed : Array Bool) : Prop :=
  ∀ j oj, ops[j]? = some oj → j ≠ i → listed.getD j true = false → (∀ e ∈ oj.after, Region.binds md e = true → e.on ≠ i) → oi.apart ops oj = true
theorem Apart.more {i : Nat} {oi : Oper} {listed : Array Bool} (h : Apart md ops i oi listed) (j : Nat) (hj : listed.getD j true = false) : Apart md ops i oi (listed.setIfInBounds j true) := by
  intro k ok hk hki hun
  rcases Nat.decEq j k with hjk | rfl
  · exact h k ok hk hki (by rwa [getD_set_ne true hjk] at hun)
  · exact h j ok hk hki hj

theorem first {i : Nat} {oi : Oper} {v : Value} (hi : ops[i]? = some oi) (hsel : ∀ (j : Nat) (o : Oper) cs b, ops[j]? = some o → o.op ≠ .select cs b)
    (hQ : ∀ c a w, Q (.panic c) (a.put oi.dst v) w → Q (.panic c) a w) (hz : waits md ops z i = true) (fuel : Nat) :
    ∀ (listed : Array Bool) (a : Act) (w : World), Apart md ops i oi listed → i ∈ Region.ready md ops listed → YieldsIf P ops S oi v a → S w →
      any P md ops Q S z fuel (listed.setIfInBounds i true) (a.put oi.dst v) w → any P md ops Q S z (fuel + 1) listed a w := by
  induction fuel with
  | zero =>
    intro listed a w _ up hy hS H
    refine ⟨fun none => absurd up (by rw [none]; simp), fun j hj => ?_⟩
    rcases Nat.decEq j i with ne | rfl
    · exact absurd (ready_mono hj ne) (by rw [H.1]; simp)
    · exact hy.wpOp hi hS ⟨fun _ => hS, H⟩
  | succ fuel ih =>
    intro listed a w hap up hy hS H
    refine ⟨fun none => absurd up (by rw [none]; simp), fun j hj => ?_⟩
    rcases Nat.decEq j i with ne | rfl
    · obtain ⟨oj, hoj, hun, hno⟩ := both_up up hj
      have hjz : j ≠ z := by
        rintro rfl
        unfold waits at hz
        rw [hoj] at hz
        simp only [Array.any_eq_true', Bool.and_eq_true, beq_iff_eq] at hz
        obtain ⟨e, he, hb, ho⟩ := hz
        exact hno e he hb ho
      have step := wpOp_putIf hoj (hap j oj hoj ne hun hno) (fun cs b => hsel i oi cs b hi) (fun cs b => hsel j oj cs b hoj) hQ hy (H.2 j (ready_mono hj ne))
      refine wpOp_mono (fun a' w' ⟨y', s', rest⟩ => ⟨s', ih _ a' w' (hap.more j hun) (ready_mono up (Ne.symm ne)) y' (s' hjz) ?_⟩) step
      rwa [Array.setIfInBounds_comm _ _ ne]
    · exact hy.wpOp hi hS ⟨fun _ => hS, H⟩

/-- An operation that only reads, taken first. -/
theorem take {i d : Nat} {oi : Oper} {v : Value} {fuel : Nat} {listed : Array Bool} {a : Act} {w : World} (hi : ops[i]? = some oi) (hd : oi.dst = some d)
    (hs : Region.noSelect ops = true) (hf : Region.free md ops listed i = true) (hr : (Region.ready md ops listed).contains i = true) (hz : waits md ops z i = true)
    (hQ : ∀ c a w, Q (.panic c) (a.put (some d) v) w → Q (.panic c) a w) (hy : YieldsIf P ops S oi v a) (hS : S w)
    (h : any P md ops Q S z fuel (listed.setIfInBounds i true) (a.put (some d) v) w) : any P md ops Q S z (fuel + 1) listed a w :=
  first hi (Region.noSelect_spec hs) (by rw [hd]; exact hQ) hz fuel listed a w (Region.free_spec hi hf) (by simpa using hr) hy hS (by rw [hd]; exact h)

/-- Each of those that may come up comes up next. -/
def All (P : Program) (md : Region.Mode) (ops : Array Oper) (Q : Exit → Act → World → Prop) (S : World → Prop) (z : Nat) (fuel : Nat) (listed : Array Bool) (a : Act) (w : World) (rs : List Nat) : Prop :=
  ∀ i ∈ rs, wpOp P ops Q i (fun a' w' => (i ≠ z → S w') ∧ any P md ops Q S z fuel (listed.setIfInBounds i true) a' w') a w
theorem All.nil {fuel : Nat} {listed : Array Bool} {a : Act} {w : World} : All P md ops Q S z fuel listed a w [] := fun _ h => by cases h
theorem All.cons {fuel : Nat} {listed : Array Bool} {a : Act} {w : World} {i : Nat} {o : Oper} {rs : List Nat} (ho : ops[i]? = some o)
    (h : ∀ K' : Act → World → Prop, Shut (∀ a w, (i ≠ z → S w) → any P md ops Q S z fuel (listed.setIfInBounds i true) a w → K' a w) → if Region.wanted o (yielded ops a.tmps) = true then Oper.wp P o a w K' Q else K' (a.put o.dst undef) w)
    (hs : All P md ops Q S z fuel listed a w rs) : All P md ops Q S z fuel listed a w (i :: rs) := fun j hj => by
  rcases List.mem_cons.1 hj with rfl | hj
  · exact wpOp_step ho (fun K' hK => h K' (fun a w hS hW => hK a w ⟨hS, hW⟩))
  · exact hs j hj
theorem ready {rs : List Nat} {fuel : Nat} {listed : Array Bool} {a : Act} {w : World} (hr : Region.ready md ops listed = rs) (hne : rs ≠ [])
    (h : All P md ops Q S z fuel listed a w rs) : any P md ops Q S z (fuel + 1) listed a w := ⟨fun h0 => absurd (hr ▸ h0) hne, hr ▸ h⟩
theorem done {listed : Array Bool} {a : Act} {w : World} (hr : Region.ready md ops listed = []) (h : Q .normal a w) : ∀ fuel, any P md ops Q S z fuel listed a w
  | 0 => ⟨hr, h⟩
  | _ + 1 => ⟨fun _ => h, by rw [hr]; simp⟩
/-- An operation of those that may come up, run to its end in the world at hand. -/
theorem run_cons {i : Nat} {oi : Oper} {fuel : Nat} {listed : Array Bool} {a a' : Act} {w w' : World} {rs : List Nat} (hi : ops[i]? = some oi)
    (hw : Region.wanted oi (yielded ops a.tmps) = true) (hrun : ∀ K : Act → World → Prop, Shut (K a' w') → Oper.wp P oi a w K Q) (hS : i ≠ z → S w')
    (h : any P md ops Q S z fuel (listed.setIfInBounds i true) a' w') (hs : All P md ops Q S z fuel listed a w rs) : All P md ops Q S z fuel listed a w (i :: rs) :=
  All.cons hi (fun K hK => by
    rw [if_pos hw]
    exact hrun K (hK.out _ _ hS h)) hs
theorem val_cons {i d : Nat} {oi : Oper} {v : Value} {fuel : Nat} {listed : Array Bool} {a : Act} {w w' : World} {rs : List Nat} (hi : ops[i]? = some oi)
    (hw : Region.wanted oi (yielded ops a.tmps) = true) (hrun : ∀ K : Act → World → Prop, Shut (K (a.put (some d) v) w') → Oper.wp P oi a w K Q) (hS : i ≠ z → S w')
    (h : any P md ops Q S z fuel (listed.setIfInBounds i true) (a.put (some d) v) w') (hs : All P md ops Q S z fuel listed a w rs) : All P md ops Q S z fuel listed a w (i :: rs) :=
  run_cons hi hw hrun hS h hs
/-- The beginning: from the world behind the draw. -/
theorem region {id : Nat} {a : Act} {w : World} (z : Nat) (S : World → Prop) (hm : P.follows .mixedOrders = true) (hS : S w.drew)
    (h : S w.drew → any P .any ops Q S z ops.size (Array.replicate ops.size false) a w.drew) : (Code.region id ops true).wp P Q a w :=
  wp_region_any hm (any_is _ _ _ _ (h hS))
end
end Z
end Go.Proofs.Ytlmibdddfjbbdaa

namespace Go.Proofs.Ytlmibdddfjbbdaa
open Go.RowKit
set_option linter.unusedVariables false

theorem Z.only {P : Program} {ops : Array Oper} {Q : Exit → Act → World → Prop} {md : Region.Mode} {S : World → Prop} {z i d : Nat} {oi : Oper} {fuel : Nat} {listed : Array Bool} {a : Act} {w : World} (hi : ops[i]? = some oi) (hd : oi.dst = some d) (hr : Region.ready md ops listed = [i])
    (hw : Region.wanted oi (yielded ops a.tmps) = true) (h : ∀ K : Act → World → Prop, Shut (∀ v w', S w' → Z.any P md ops Q S z fuel (listed.setIfInBounds i true) (a.put (some d) v) w' → K (a.put (some d) v) w') → Oper.wp P oi a w K Q) : Z.any P md ops Q S z (fuel + 1) listed a w :=
  Z.ready hr (by simp) (Z.All.cons hi (fun K hK => by
    rw [if_pos hw]
    exact h K (fun v w' hS hW => hK.out _ _ (fun _ => hS) hW)) Z.All.nil)
end Go.Proofs.Ytlmibdddfjbbdaa
