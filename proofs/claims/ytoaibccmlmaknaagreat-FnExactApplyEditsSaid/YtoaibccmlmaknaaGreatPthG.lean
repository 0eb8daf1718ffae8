/-
  slices.Clone and impl.areBoth.
  A drawn region whose last operation breaks what held till then: an order of operations, where S holds behind each operation that is carried out ahead of number z. No word of the program is used here.
  A call in a drawn region, the only operation that may come up. No word of the program is used here.
  impl.GetPath and spec.GetPath.
-/
import Derived.Test.YtoaibccmlmaknaaGreatAdd0
import Derived.Test.YtoaibccmlmaknaaGreatMem
import Derived.Test.YtoaibccmlmaknaaGreatPthF
import Derived.BigQuiet
import Derived.Lib.SliceRun
import Derived.Deep.RegionHeld
import Derived.Deep.Cut
import Derived.Deep.CutRange
namespace Go.Proofs.YtoaibccmlmaknaaGreat
open Go.RowKit
set_option linter.unusedVariables false

set_option maxRecDepth 100000 in
set_option maxHeartbeats 1000000 in
theorem clone_any (l : List M.Cl) (b off cap : Nat) (w : World) (hrow : Row w b off l) (hb : b < w.heap.size) (hn : l.length ≤ 1048576) :
    Calls Tryz.prog 28 #[.slice (some ⟨b, off, none⟩) l.length cap] w fun e w' => ∃ s, e = .returned s ∧ Res w' w.heap.size s l ∧ Below w.heap.size w w' := by
  obtain ⟨i0, hi, hz0, hz1, hz2⟩ := info_parts Tryz.info56
  have hnews := hide (fun o => row_words (hrow.below ((Below.refl w.heap.size w).alloc (Nat.le_refl _) o) hb))
  have hone := hide (flat_one l)
  have HFL := hide (flat_length l)
  have hoe := hide (owns_empty5 w 56)
  have hb63 : 0 + l.length ≤ maxLen := by unfold maxLen; omega
  have hby : (0 + l.length) * 56 ≤ 140737488355328 := by omega
  have heq : ∀ w', (binOp .eql 26 (.slice (some ⟨b, off, none⟩) l.length cap) (.slice none 0 0)).run Tryz.prog w' = .ok (.bool false) w' := fun w' => Lib.run_eql_slice_nil w' 26 56 (some ⟨b, off, none⟩) l.length cap 0 0 Tryz.underlying26
  go_enter Tryz.func28, Tryz.ntmps28
  go_wp2_with (at_builtin; refine wpList_append_own _ rfl (.tmp 5) (.tmp 6) 26 rfl w.heap.size 56 i0 _ 5 56 Tryz.underlying26 hi hz0 hz1 hz2 rfl (by decide) _ 0 [] rfl (unhide hoe) ⟨b, off, none⟩ l.length cap (flat l) rfl (unhide HFL) ((unhide hnews) _) (unhide hone) hb63 hby (by simp) ?_)
  intro v' w' ho hg _
  have hB : Below w.heap.size w w' := ((Below.refl _ w).alloc (Nat.le_refl _) _).grown hg (by simp) (fun q hq => by simp only [Value.ownBlock, Option.some.injEq] at hq; omega)
  have hr := hide (res_of_owns (l := l) (by simpa using ho) hn)
  clear ho hg
  go_wp2_with fail
  go_ret
  exact ⟨_, rfl, unhide hr, hB⟩

end Go.Proofs.YtoaibccmlmaknaaGreat

namespace Go.Proofs.YtoaibccmlmaknaaGreat
open Go.RowKit
set_option linter.unusedVariables false
namespace Z
section
variable {P : Program} {ops : Array Oper} {Q : Exit → Act → World → Prop} {md : Region.Mode} {S : World → Prop} {z : Nat}

/-- Whatever order is picked from here on; behind every operation S holds, as long as z has not come up. -/
def any (P : Program) (md : Region.Mode) (ops : Array Oper) (Q : Exit → Act → World → Prop) (S : World → Prop) (z : Nat) : Nat → Array Bool → Act → World → Prop
  | 0, listed, a, w => Region.ready md ops listed = [] ∧ Q .normal a w
  | fuel + 1, listed, a, w =>
    (Region.ready md ops listed = [] → Q .normal a w) ∧
    ∀ i ∈ Region.ready md ops listed, wpOp P ops Q i (fun a' w' => (i ≠ z → S w') ∧ any P md ops Q S z fuel (listed.setIfInBounds i true) a' w') a w

theorem any_is : ∀ (fuel : Nat) (listed : Array Bool) (a : Act) (w : World), any P md ops Q S z fuel listed a w → wpAny P md ops Q fuel listed a w
  | 0, _, _, _, h => h
  | fuel + 1, _, _, _, h => ⟨h.1, fun i hi => wpOp_mono (fun a' w' h' => any_is fuel _ a' w' h'.2) (h.2 i hi)⟩

/-- z waits for i. -/
def waits (md : Region.Mode) (ops : Array Oper) (z i : Nat) : Bool := match ops[z]? with
  | some oz => oz.after.any fun e => Region.binds md e && e.on == i
  | none => false

/-- Two that may both come up: neither waits for the other. -/
theorem both_up {listed : Array Bool} {i j : Nat} (hi : i ∈ Region.ready md ops listed) (hj : j ∈ Region.ready md ops listed) :
    ∃ oj, ops[j]? = some oj ∧ listed.getD j true = false ∧ ∀ e ∈ oj.after, Region.binds md e = true → e.on ≠ i := by
  obtain ⟨u, o, ho, hall⟩ := mem_ready.1 hj
  refine ⟨o, ho, u, ?_⟩
  rintro e he hb rfl
  have x := hall e he hb
  have y := (mem_ready.1 hi).1
  cases q : listed[e.on]? with
  | none => simp [q] at x
  | some t => cases t <;> simp [q] at x y
/-- Whatever has not come up and does not wait for i is apart from it. -/
def Apart (md : Region.Mode) (ops : Array Oper) (i : Nat) (oi : Oper) (listed : Array Bool) : Prop :=
  ∀ j oj, ops[j]? = some oj → j ≠ i → listed.getD j true = false → (∀ e ∈ oj.after, Region.binds md e = true → e.on ≠ i) → oi.apart ops oj = true
theorem Apart.more {i : Nat} {oi : Oper} {listed : Array Bool} (h : Apart md ops i oi listed) (j : Nat) (hj : listed.getD j true = false) : Apart md ops i oi (listed.setIfInBounds j true) := by
  intro k ok hk hki hun
  rcases Nat.decEq j k with hjk | rfl
  · exact h k ok hk hki (by rwa [getD_set_ne true hjk] at hun)
  · exact h j ok hk hki hj

theorem first {i : Nat} {oi : Oper} {v : Value} (hi : ops[i]? = some oi) (hsel : ∀ (j : Nat) (o : Oper) cs b, ops[j]? = some o → o.op ≠ .select cs b)
    (hQ : ∀ c a w, Q (.panic c) (a.put oi.dst v) w → Q (.panic c) a w) (hz : waits md ops z i = true) (fuel : Nat) :
    ∀ (listed : Array Bool) (a : Act) (w : World), Apart md ops i oi listed → i ∈ Region.ready md ops listed → YieldsIf P ops S oi v a → S w →
      any P md ops Q S z fuel (listed.setIfInBounds i true) (a.put oi.dst v) w → any P md ops Q S z (fuel + 1) listed a w := by
  induction fuel with
  | zero =>
    intro listed a w _ up hy hS H
    refine ⟨fun none => absurd up (by rw [none]; simp), fun j hj => ?_⟩
    rcases Nat.decEq j i with ne | rfl
    · exact absurd (ready_mono hj ne) (by rw [H.1]; simp)
    · exact hy.wpOp hi hS ⟨fun _ => hS, H⟩
  | succ fuel ih =>
    intro listed a w hap up hy hS H
    refine ⟨fun none => absurd up (by rw [none]; simp), fun j hj => ?_⟩
    rcases Nat.decEq j i with ne | rfl
    · obtain ⟨oj, hoj, hun, hno⟩ := both_up up hj
      have hjz : j ≠ z := by
        rintro rfl
        unfold waits at hz
        rw [hoj] at hz
        simp only [Array.any_eq_true', Bool.and_eq_true, beq_iff_eq] at hz
        obtain ⟨e, he, hb, ho⟩ := hz
        exact hno e he hb ho
      have step := wpOp_putIf hoj (hap j oj hoj ne hun hno) (fun cs b => hsel i oi cs b hi) (fun cs b => hsel j oj cs b hoj) hQ hy (H.2 j (ready_mono hj ne))
      refine wpOp_mono (fun a' w' ⟨y', s', rest⟩ => ⟨s', ih _ a' w' (hap.more j hun) (ready_mono up (Ne.symm ne)) y' (s' hjz) ?_⟩) step
      rwa [Array.setIfInBounds_comm _ _ ne]
    · exact hy.wpOp hi hS ⟨fun _ => hS, H⟩

/-- An operation that only reads, taken first. -/
theorem take {i d : Nat} {oi : Oper} {v : Value} {fuel : Nat} {listed : Array Bool} {a : Act} {w : World} (hi : ops[i]? = some oi) (hd : oi.dst = some d)
    (hs : Region.noSelect ops = true) (hf : Region.free md ops listed i = true) (hr : (Region.ready md ops listed).contains i = true) (hz : waits md ops z i = true)
    (hQ : ∀ c a w, Q (.panic c) (a.put (some d) v) w → Q (.panic c) a w) (hy : YieldsIf P ops S oi v a) (hS : S w)
    (h : any P md ops Q S z fuel (listed.setIfInBounds i true) (a.put (some d) v) w) : any P md ops Q S z (fuel + 1) listed a w :=
  first hi (Region.noSelect_spec hs) (by rw [hd]; exact hQ) hz fuel listed a w (Region.free_spec hi hf) (by simpa using hr) hy hS (by rw [hd]; exact h)

/-- Each of those that may come up comes up next. -/
def All (P : Program) (md : Region.Mode) (ops : Array Oper) (Q : Exit → Act → World → Prop) (S : World → Prop) (z : Nat) (fuel : Nat) (listed : Array Bool) (a : Act) (w : World) (rs : List Nat) : Prop :=
  ∀ i ∈ rs, wpOp P ops Q i (fun a' w' => (i ≠ z → S w') ∧ any P md ops Q S z fuel (listed.setIfInBounds i true) a' w') a w
theorem All.nil {fuel : Nat} {listed : Array Bool} {a : Act} {w : World} : All P md ops Q S z fuel listed a w [] := fun _ h => by cases h
theorem All.cons {fuel : Nat} {listed : Array Bool} {a : Act} {w : World} {i : Nat} {o : Oper} {rs : List Nat} (ho : ops[i]? = some o)
    (h : ∀ K' : Act → World → Prop, Shut (∀ a w, (i ≠ z → S w) → any P md ops Q S z fuel (listed.setIfInBounds i true) a w → K' a w) → if Region.wanted o (yielded ops a.tmps) = true then Oper.wp P o a w K' Q else K' (a.put o.dst undef) w)
    (hs : All P md ops Q S z fuel listed a w rs) : All P md ops Q S z fuel listed a w (i :: rs) := fun j hj => by
  rcases List.mem_cons.1 hj with rfl | hj
  · exact wpOp_step ho (fun K' hK => h K' (fun a w hS hW => hK a w ⟨hS, hW⟩))
  · exact hs j hj
theorem ready {rs : List Nat} {fuel : Nat} {listed : Array Bool} {a : Act} {w : World} (hr : Region.ready md ops listed = rs) (hne : rs ≠ [])
    (h : All P md ops Q S z fuel listed a w rs) : any P md ops Q S z (fuel + 1) listed a w := ⟨fun h0 => absurd (hr ▸ h0) hne, hr ▸ h⟩
theorem done {listed : Array Bool} {a : Act} {w : World} (hr : Region.ready md ops listed = []) (h : Q .normal a w) : ∀ fuel, any P md ops Q S z fuel listed a w
  | 0 => ⟨hr, h⟩
  | _ + 1 => ⟨fun _ => h, by rw [hr]; simp⟩
/-- An operation of those that may come up, run to its end in the world at hand. -/
theorem run_cons {i : Nat} {oi : Oper} {fuel : Nat} {listed : Array Bool} {a a' : Act} {w w' : World} {rs : List Nat} (hi : ops[i]? = some oi)
    (hw : Region.wanted oi (yielded ops a.tmps) = true) (hrun : ∀ K : Act → World → Prop, Shut (K a' w') → Oper.wp P oi a w K Q) (hS : i ≠ z → S w')
    (h : any P md ops Q S z fuel (listed.setIfInBounds i true) a' w') (hs : All P md ops Q S z fuel listed a w rs) : All P md ops Q S z fuel listed a w (i :: rs) :=
  All.cons hi (fun K hK => by
    rw [if_pos hw]
    exact hrun K (hK.out _ _ hS h)) hs
theorem val_cons {i d : Nat} {oi : Oper} {v : Value} {fuel : Nat} {listed : Array Bool} {a : Act} {w w' : World} {rs : List Nat} (hi : ops[i]? = some oi)
    (hw : Region.wanted oi (yielded ops a.tmps) = true) (hrun : ∀ K : Act → World → Prop, Shut (K (a.put (some d) v) w') → Oper.wp P oi a w K Q) (hS : i ≠ z → S w')
    (h : any P md ops Q S z fuel (listed.setIfInBounds i true) (a.put (some d) v) w') (hs : All P md ops Q S z fuel listed a w rs) : All P md ops Q S z fuel listed a w (i :: rs) :=
  run_cons hi hw hrun hS h hs
theorem last_at {oz : Oper} {fuel : Nat} {listed : Array Bool} {a : Act} {w w' : World} (hi : ops[z]? = some oz) (hr : Region.ready md ops listed = [z])
    (hw : Region.wanted oz (yielded ops a.tmps) = true) (hrun : ∀ K : Act → World → Prop, Shut (K a w') → Oper.wp P oz a w K Q)
    (h : any P md ops Q S z fuel (listed.setIfInBounds z true) a w') : any P md ops Q S z (fuel + 1) listed a w :=
  ready hr (by simp) (run_cons hi hw hrun (fun h => absurd rfl h) h All.nil)
/-- A call (or an append), whose world behind is told by a law. -/
theorem call_cons {i : Nat} {oi : Oper} {fuel : Nat} {listed : Array Bool} {a : Act} {w : World} {rs : List Nat} (hi : ops[i]? = some oi)
    (hw : Region.wanted oi (yielded ops a.tmps) = true) (h : ∀ K : Act → World → Prop, Shut (∀ a' w', (i ≠ z → S w') → any P md ops Q S z fuel (listed.setIfInBounds i true) a' w' → K a' w') → Oper.wp P oi a w K Q)
    (hs : All P md ops Q S z fuel listed a w rs) : All P md ops Q S z fuel listed a w (i :: rs) :=
  All.cons hi (fun K hK => by
    rw [if_pos hw]
    exact h K hK) hs
/-- The beginning: from the world behind the draw. -/
theorem region {id : Nat} {a : Act} {w : World} (z : Nat) (S : World → Prop) (hm : P.follows .mixedOrders = true) (hS : S w.drew)
    (h : S w.drew → any P .any ops Q S z ops.size (Array.replicate ops.size false) a w.drew) : (Code.region id ops true).wp P Q a w :=
  wp_region_any hm (any_is _ _ _ _ (h hS))
end
end Z
end Go.Proofs.YtoaibccmlmaknaaGreat

namespace Go.Proofs.YtoaibccmlmaknaaGreat
open Go.RowKit
set_option linter.unusedVariables false

theorem Z.only {P : Program} {ops : Array Oper} {Q : Exit → Act → World → Prop} {md : Region.Mode} {S : World → Prop} {z i d : Nat} {oi : Oper} {fuel : Nat} {listed : Array Bool} {a : Act} {w : World} (hi : ops[i]? = some oi) (hd : oi.dst = some d) (hr : Region.ready md ops listed = [i])
    (hw : Region.wanted oi (yielded ops a.tmps) = true) (h : ∀ K : Act → World → Prop, Shut (∀ v w', S w' → Z.any P md ops Q S z fuel (listed.setIfInBounds i true) (a.put (some d) v) w' → K (a.put (some d) v) w') → Oper.wp P oi a w K Q) : Z.any P md ops Q S z (fuel + 1) listed a w :=
  Z.ready hr (by simp) (Z.All.cons hi (fun K hK => by
    rw [if_pos hw]
    exact h K (fun v w' hS hW => hK.out _ _ (fun _ => hS) hW)) Z.All.nil)
end Go.Proofs.YtoaibccmlmaknaaGreat

namespace Go.Proofs.YtoaibccmlmaknaaGreat
open Go.RowKit
set_option linter.unusedVariables false

theorem Res.rowedQ {w : World} {B : Nat} {s : Value} {l : List M.Cl} (h : Res w B s l) (hne : l ≠ []) : ∃ b cap, s = .slice (some ⟨b, 0, none⟩) l.length cap ∧ l.length ≤ cap ∧ B ≤ b ∧ b < w.heap.size ∧ Row w b 0 l := by
  obtain ⟨_, ⟨_, h2⟩ | ⟨c, cc, h3, h4, h5, h6⟩⟩ := h
  · exact absurd h2 hne
  · exact ⟨c, cc, h3, h5, h4, h6.lt, h6.row⟩
theorem Pth.val_ne {v : List M.Cl} (h : M.valueFault v = 0) : v ≠ [] := by intro e; have := (Pth.lens h).1; rw [e] at this; simp at this
theorem Pth.ga {u : List M.Cl} {c : M.Cl} (hu : M.valueFault u = 0) (hc : Pth.Stp c) : gaOut u [c] = atIn u c := ga_ok (by unfold bothOut; rw [if_neg (by simp [hu])]; exact hc.val)

/-- What lies in memory while the steps of a path are gone: the answer's own block, and the block of what was got. -/
structure Pth.Lg (w wr : World) (gb : Nat) (sv : Value) (u : List M.Cl) : Prop where
  bel : Below w.heap.size w wr
  rs : Own wr w.heap.size 49 [.int .i64 0, .slice none 0 0]
  gt : Own wr gb 49 [.int .i64 0, sv]
  lo : w.heap.size < gb
  rv : Res wr w.heap.size sv u
  va : M.valueFault u = 0
theorem Pth.Lg.start {w w1 : World} {sv : Value} {v : List M.Cl} (hv : M.valueFault v = 0) (hb : Below (w.heap.size + 1) (w.alloc (.cells #[.int .i64 0, .slice none 0 0] 49)) w1) (hr : Res w1 (w.heap.size + 1) sv v) : Pth.Lg w (w1.alloc (.cells #[.int .i64 0, sv] 49)) w1.heap.size sv v := by
  have hsz := hb.size
  simp only [World.size_alloc] at hsz
  refine ⟨(((Below.refl _ _).alloc (Nat.le_refl _) _).trans (hb.mono (by omega))).alloc (by omega) _, ?_, ⟨_, heap_alloc_new _ _, rfl⟩, by omega, (hr.alloc _).mono (by omega), hv⟩
  exact Own.alloc (Own.below ⟨_, heap_alloc_new _ _, rfl⟩ hb (by omega)) _
theorem Pth.Lg.call {w wr w2 : World} {gb : Nat} {sv : Value} {u : List M.Cl} (h : Pth.Lg w wr gb sv u) (hb : Below wr.heap.size wr w2) : Pth.Lg w w2 gb sv u :=
  ⟨h.bel.trans (hb.mono h.bel.size), h.rs.below hb h.rs.lt, h.gt.below hb h.gt.lt, h.lo, h.rv.below hb, h.va⟩
theorem Pth.Lg.put {w wr w2 : World} {gb : Nat} {sv s2 : Value} {u u2 : List M.Cl} (h : Pth.Lg w wr gb sv u) (hb : Below wr.heap.size wr w2) (hr : Res w2 wr.heap.size s2 u2) (hv : M.valueFault u2 = 0) : Pth.Lg w ((w2.setCell ⟨gb, 0, none⟩ (.int .i64 0)).setCell ⟨gb, 1, none⟩ s2) gb s2 u2 := by
  have h2 := h.call hb
  have hne : ∀ b, s2.ownBlock = some b → b ≠ gb := fun b hq => by have := hr.base b hq; have := h.gt.lt; omega
  have hl := h.lo
  refine ⟨(h2.bel.setCell (by show w.heap.size ≤ gb; omega) _).setCell (by show w.heap.size ≤ gb; omega) _, (h2.rs.setOther _ _ (by simp; omega)).setOther _ _ (by simp; omega), ?_, hl, ((hr.mono h.bel.size).setOther _ _ hne).setOther _ _ hne, hv⟩
  have := (h2.gt.set 0 (.int .i64 0)).set 1 s2
  simpa using this
/-- A code was met: what was got is put as the answer. -/
theorem Pth.Lg.fin {w wr w2 : World} {gb : Nat} {sv s2 : Value} {u u2 : List M.Cl} (h : Pth.Lg w wr gb sv u) (hb : Below wr.heap.size wr w2) (hr : Res w2 wr.heap.size s2 u2) (x y x' y' : Value) :
    Res ((((w2.setCell ⟨gb, 0, none⟩ x).setCell ⟨gb, 1, none⟩ y).setCell ⟨w.heap.size, 0, none⟩ x').setCell ⟨w.heap.size, 1, none⟩ y') w.heap.size s2 u2 ∧ Below w.heap.size w ((((w2.setCell ⟨gb, 0, none⟩ x).setCell ⟨gb, 1, none⟩ y).setCell ⟨w.heap.size, 0, none⟩ x').setCell ⟨w.heap.size, 1, none⟩ y') := by
  have h2 := h.call hb
  have hl := h.lo
  have hne : ∀ b, s2.ownBlock = some b → b ≠ gb := fun b hq => by have := hr.base b hq; have := h.gt.lt; omega
  have hne2 : ∀ b, s2.ownBlock = some b → b ≠ w.heap.size := fun b hq => by have := hr.base b hq; have := h.rs.lt; omega
  exact ⟨((((hr.mono h.bel.size).setOther _ _ hne).setOther _ _ hne).setOther _ _ hne2).setOther _ _ hne2, (((h2.bel.setCell (by show w.heap.size ≤ gb; omega) _).setCell (by show w.heap.size ≤ gb; omega) _).setCell (Nat.le_refl _) _).setCell (Nat.le_refl _) _⟩
theorem Pth.Lg.done {w wr : World} {gb : Nat} {sv : Value} {u : List M.Cl} (h : Pth.Lg w wr gb sv u) (x' y' : Value) (hne2 : ∀ b, sv.ownBlock = some b → b ≠ w.heap.size) :
    Res ((wr.setCell ⟨w.heap.size, 0, none⟩ x').setCell ⟨w.heap.size, 1, none⟩ y') w.heap.size sv u ∧ Below w.heap.size w ((wr.setCell ⟨w.heap.size, 0, none⟩ x').setCell ⟨w.heap.size, 1, none⟩ y') :=
  ⟨(h.rv.setOther _ _ hne2).setOther _ _ hne2, (h.bel.setCell (Nat.le_refl _) _).setCell (Nat.le_refl _) _⟩
theorem Pth.Lg.apart {w wr : World} {gb : Nat} {sv : Value} {u : List M.Cl} (h : Pth.Lg w wr gb sv u) : ∀ b, sv.ownBlock = some b → b ≠ w.heap.size := by
  intro b hq e
  subst e
  obtain ⟨_, ⟨h1, h2⟩ | ⟨c, cc, h3, h4, h5, ⟨xs, h6, _⟩⟩⟩ := h.rv
  · exact Pth.val_ne h.va h2
  · rw [h3] at hq
    simp only [Value.ownBlock, Option.some.injEq] at hq
    subst hq
    obtain ⟨c1, q1, _⟩ := h.rs
    obtain ⟨c2, q2, _⟩ := h6
    rw [q1] at q2
    simp at q2

end Go.Proofs.YtoaibccmlmaknaaGreat
