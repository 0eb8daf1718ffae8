/-
  slices.Clone and impl.areBoth.
  A drawn region whose last operation breaks what held till then: an order of operations, where S holds behind each operation that is carried out ahead of number z. No word of the program is used here.
  A call in a drawn region, the only operation that may come up. No word of the program is used here.
  impl.GetPath and spec.GetPath.
-/
import Derived.Test.YtlbmpldknfcfhaaDoorU00
import Derived.Test.YtlbmpldknfcfhaaDoorU23
import Derived.Test.YtlbmpldknfcfhaaDoorU26
import Derived.BigQuiet
import Derived.Deep.Cut
import Derived.Deep.CutRange
import Derived.Deep.RegionHeld
import Derived.Lib.SliceRun
namespace Go.Proofs.YtlbmpldknfcfhaaDoor
open Go.RowKit
set_option linter.unusedVariables false

set_option maxRecDepth 100000 in
set_option maxHeartbeats 1000000 in
theorem clone_any (l : List M.Cl) (b off cap : Nat) (w : World) (hrow : Row w b off l) (hb : b < w.heap.size) (hn : l.length ≤ 1048576) :
    Calls Tryd.prog 72 #[.slice (some ⟨b, off, none⟩) l.length cap] w fun e w' => ∃ s, e = .returned s ∧ Res w' w.heap.size s l ∧ Below w.heap.size w w' := by
  obtain ⟨i0, hi, hz0, hz1, hz2⟩ := info_parts Tryd.info44
  have hnews := hide (fun o => row_words (hrow.below ((Below.refl w.heap.size w).alloc (Nat.le_refl _) o) hb))
  have hone := hide (flat_one l)
  have HFL := hide (flat_length l)
  have hoe := hide (owns_empty5 w 44)
  have hb63 : 0 + l.length ≤ maxLen := by unfold maxLen; omega
  have hby : (0 + l.length) * 56 ≤ 140737488355328 := by omega
  have heq : ∀ w', (binOp .eql 27 (.slice (some ⟨b, off, none⟩) l.length cap) (.slice none 0 0)).run Tryd.prog w' = .ok (.bool false) w' := fun w' => Lib.run_eql_slice_nil w' 27 44 (some ⟨b, off, none⟩) l.length cap 0 0 Tryd.underlying27
  go_enter Tryd.func72, Tryd.ntmps72
  go_wp2_with (at_builtin; refine wpList_append_own _ rfl (.tmp 5) (.tmp 6) 27 rfl w.heap.size 44 i0 _ 5 56 Tryd.underlying27 hi hz0 hz1 hz2 rfl (by decide) _ 0 [] rfl (unhide hoe) ⟨b, off, none⟩ l.length cap (flat l) rfl (unhide HFL) ((unhide hnews) _) (unhide hone) hb63 hby (by simp) ?_)
  intro v' w' ho hg _
  have hB : Below w.heap.size w w' := ((Below.refl _ w).alloc (Nat.le_refl _) _).grown hg (by simp) (fun q hq => by simp only [Value.ownBlock, Option.some.injEq] at hq; omega)
  have hr := hide (res_of_owns (l := l) (by simpa using ho) hn)
  clear ho hg
  go_wp2_with fail
  go_ret
  exact ⟨_, rfl, unhide hr, hB⟩

end Go.Proofs.YtlbmpldknfcfhaaDoor

namespace Go.Proofs.YtlbmpldknfcfhaaDoor
open Go.RowKit
set_option linter.unusedVariables false
namespace Z
section
variable {P : Program} {ops : Array Oper} {Q : Exit → Act → World → Prop} {md : Region.Mode} {S : World → Prop} {z : Nat}

/-- Whatever order is picked from here on; behind every operation S holds, as long as z has not come up. -/
def any (P : Program) (md : Region.Mode) (ops : Array Oper) (Q : Exit → Act → World → Prop) (S : World → Prop) (z : Nat) : Nat → Array Bool → Act → World → Prop
  | 0, listed, a, w => Region.ready md ops listed = [] ∧ Q .normal a w
  | fuel + 1, listed, a, w =>
    (Region.ready md ops listed = [] → Q .normal a w) ∧
    ∀ i ∈ Region.ready md ops listed, wpOp P ops Q i (fun a' w' => (i ≠ z → S w') ∧ any P md ops Q S z fuel (listed.setIfInBounds i true) a' w') a w

theorem any_is : ∀ (fuel : Nat) (listed : Array Bool) (a : Act) (w : World), any P md ops Q S z fuel listed a w → wpAny P md ops Q fuel listed a w
  | 0, _, _, _, h => h
  | fuel + 1, _, _, _, h => ⟨h.1, fun i hi => wpOp_mono (fun a' w' h' => any_is fuel _ a' w' h'.2) (h.2 i hi)⟩

/-- z waits for i. -/
def waits (md : Region.Mode) (ops : Array Oper) (z i : Nat) : Bool := match ops[z]? with
  | some oz => oz.after.any fun e => Region.binds md e && e.on == i
  | none => false

/-- Two that may both come up: neither waits for the other. -/
theorem both_up {listed : Array Bool} {i j : Nat} (hi : i ∈ Region.ready md ops listed) (hj : j ∈ Region.ready md ops listed) :
    ∃ oj, ops[j]? = some oj ∧ listed.getD j true = false ∧ ∀ e ∈ oj.after, Region.binds md e = true → e.on ≠ i := by
  obtain ⟨u, o, ho, hall⟩ := mem_ready.1 hj
  refine ⟨o, ho, u, ?_⟩
  rintro e he hb rfl
  have x := hall e he hb
  have y := (mem_ready.1 hi).1
  cases q : listed[e.on]? with
  | none => simp [q] at x
  | some t => cases t <;> simp [q] at x y
/-- Whatever has not come up and does not wait for i is apart from it. -/
def Apart (md : Region.Mode) (ops : Array Oper) (i : Nat) (oi : Oper) (listed : Array Bool) : Prop :=
  ∀ j oj, ops[j]? = some oj → j ≠ i → listed.getD j true = false → (∀ e ∈ oj.after, Region.binds md e = true → e.on ≠ i) → oi.apart ops oj = true
theorem Apart.more {i : Nat} {oi : Oper} {listed : Array Bool} (h : Apart md ops i oi listed) (j : Nat) (hj : listed.getD j true = false) : Apart md ops i oi (listed.setIfInBounds j true) := by
  intro k ok hk hki hun
  rcases Nat.decEq j k with hjk | rfl
  · exact h k ok hk hki (by rwa [getD_set_ne true hjk] at hun)
  · exact h j ok hk hki hj

theorem first {i : Nat} {oi : Oper} {v : Value} (hi : ops[i]? = some oi) (hsel : ∀ (j : Nat) (o : Oper) cs b, ops[j]? = some o → o.op ≠ .select cs b)
    (hQ : ∀ c a w, Q (.panic c) (a.put oi.dst v) w → Q (.panic c) a w) (hz : waits md ops z i = true) (fuel : Nat) :
    ∀ (listed : Array Bool) (a : Act) (w : World), Apart md ops i oi listed → i ∈ Region.ready md ops listed → YieldsIf P ops S oi v a → S w →
      any P md ops Q S z fuel (listed.setIfInBounds i true) (a.put oi.dst v) w → any P md ops Q S z (fuel + 1) listed a w := by
  induction fuel with
  | zero =>
    intro listed a w _ up hy hS H
    refine ⟨fun none => absurd up (by rw [none]; simp), fun j hj => ?_⟩
    rcases Nat.decEq j i with ne | rfl
    · exact absurd (ready_mono hj ne) (by rw [H.1]; simp)
    · exact hy.wpOp hi hS ⟨fun _ => hS, H⟩
  | succ fuel ih =>
    intro listed a w hap up hy hS H
    refine ⟨fun none => absurd up (by rw [none]; simp), fun j hj => ?_⟩
    rcases Nat.decEq j i with ne | rfl
    · obtain ⟨oj, hoj, hun, hno⟩ := both_up up hj
      have hjz : j ≠ z := by
        rintro rfl
        unfold waits at hz
        rw [hoj] at hz
        simp only [Array.any_eq_true', Bool.and_eq_true, beq_iff_eq] at hz
        obtain ⟨e, he, hb, ho⟩ := hz
        exact hno e he hb ho
      have step := wpOp_putIf hoj (hap j oj hoj ne hun hno) (fun cs b => hsel i oi cs b hi) (fun cs b => hsel j oj cs b hoj) hQ hy (H.2 j (ready_mono hj ne))
      refine wpOp_mono (fun a' w' ⟨y', s', rest⟩ => ⟨s', ih _ a' w' (hap.more j hun) (ready_mono up (Ne.symm ne)) y' (s' hjz) ?_⟩) step
      rwa [Array.setIfInBounds_comm _ _ ne]
    · exact hy.wpOp hi hS ⟨fun _ => hS, H⟩

/-- An operation that only reads, taken first. -/
theorem take {i d : Nat} {oi : Oper} {v : Value} {fuel : Nat} {listed : Array Bool} {a : Act} {w : World} (hi : ops[i]? = some oi) (hd : oi.dst = some d)
    (hs : Region.noSelect ops = true) (hf : Region.free md ops listed i = true) (hr : (Region.ready md ops listed).contains i = true) (hz : waits md ops z i = true)
    (hQ : ∀ c a w, Q (.panic c) (a.put (some d) v) w → Q (.panic c) a w) (hy : YieldsIf P ops S oi v a) (hS : S w)
    (h : any P md ops Q S z fuel (listed.setIfInBounds i true) (a.put (some d) v) w) : any P md ops Q S z (fuel + 1) listed a w :=
  first hi (Region.noSelect_spec hs) (by rw [hd]; exact hQ) hz fuel listed a w (Region.free_spec hi hf) (by simpa using hr) hy hS (by rw [hd]; exact h)

/-- Each of those that may come up comes up next. -/
def All (P : Program) (md : Region.Mode) (ops : Array Oper) (Q : Exit → Act → World → Prop) (S : World → Prop) (z : Nat) (fuel : Nat) (listed : Array Bool) (a : Act) (w : World) (rs : List Nat) : Prop :=
  ∀ i ∈ rs, wpOp P ops Q i (fun a' w' => (i ≠ z → S w') ∧ any P md ops Q S z fuel (listed.setIfInBounds i true) a' w') a w
theorem All.nil {fuel : Nat} {listed : Array Bool} {a : Act} {w : World} : All P md ops Q S z fuel listed a w [] := fun _ h => by cases h
theorem All.cons {fuel : Nat} {listed : Array Bool} {a : Act} {w : World} {i : Nat} {o : Oper} {rs : List Nat} (ho : ops[i]? = some o)
    (h : ∀ K' : Act → World → Prop, Shut (∀ a w, (i ≠ z → S w) → any P md ops Q S z fuel (listed.setIfInBounds i true) a w → K' a w) → if Region.wanted o (yielded ops a.tmps) = true then Oper.wp P o a w K' Q else K' (a.put o.dst undef) w)
    (hs : All P md ops Q S z fuel listed a w rs) : All P md ops Q S z fuel listed a w (i :: rs) := fun j hj => by
  rcases List.mem_cons.1 hj with rfl | hj
  · exact wpOp_step ho (fun K' hK => h K' (fun a w hS hW => hK a w ⟨hS, hW⟩))
  · exact hs j hj
theorem ready {rs : List Nat} {fuel : Nat} {listed : Array Bool} {a : Act} {w : World} (hr : Region.ready md ops listed = rs) (hne : rs ≠ [])
    (h : All P md ops Q S z fuel listed a w rs) : any P md ops Q S z (fuel + 1) listed a w := ⟨fun h0 => absurd (hr ▸ h0) hne, hr ▸ h⟩
theorem done {listed : Array Bool} {a : Act} {w : World} (hr : Region.ready md ops listed = []) (h : Q .normal a w) : ∀ fuel, any P md ops Q S z fuel listed a w
  | 0 => ⟨hr, h⟩
  | _ + 1 => ⟨fun _ => h, by rw [hr]; simp⟩
/-- An operation of those that may come up, run to its end in the world at hand. -/
theorem run_cons {i : Nat} {oi : Oper} {fuel : Nat} {listed : Array Bool} {a a' : Act} {w w' : World} {rs : List Nat} (hi : ops[i]? = some oi)
    (hw : Region.wanted oi (yielded ops a.tmps) = true) (hrun : ∀ K : Act → World → Prop, Shut (K a' w') → Oper.wp P oi a w K Q) (hS : i ≠ z → S w')
    (h : any P md ops Q S z fuel (listed.setIfInBounds i true) a' w') (hs : All P md ops Q S z fuel listed a w rs) : All P md ops Q S z fuel listed a w (i :: rs) :=
  All.cons hi (fun K hK => by
    rw [if_pos hw]
    exact hrun K (hK.out _ _ hS h)) hs
theorem val_cons {i d : Nat} {oi : Oper} {v : Value} {fuel : Nat} {listed : Array Bool} {a : Act} {w w' : World} {rs : List Nat} (hi : ops[i]? = some oi)
    (hw : Region.wanted oi (yielded ops a.tmps) = true) (hrun : ∀ K : Act → World → Prop, Shut (K (a.put (some d) v) w') → Oper.wp P oi a w K Q) (hS : i ≠ z → S w')
    (h : any P md ops Q S z fuel (listed.setIfInBounds i true) (a.put (some d) v) w') (hs : All P md ops Q S z fuel listed a w rs) : All P md ops Q S z fuel listed a w (i :: rs) :=
  run_cons hi hw hrun hS h hs
theorem last_at {oz : Oper} {fuel : Nat} {listed : Array Bool} {a : Act} {w w' : World} (hi : ops[z]? = some oz) (hr : Region.ready md ops listed = [z])
    (hw : Region.wanted oz (yielded ops a.tmps) = true) (hrun : ∀ K : Act → World → Prop, Shut (K a w') → Oper.wp P oz a w K Q)
    (h : any P md ops Q S z fuel (listed.setIfInBounds z true) a w') : any P md ops Q S z (fuel + 1) listed a w :=
  ready hr (by simp) (run_cons hi hw hrun (fun h => absurd rfl h) h All.nil)
/-- A call (or an append), whose world behind is told by a law. -/
theorem call_cons {i : Nat} {oi : Oper} {fuel : Nat} {listed : Array Bool} {a : Act} {w : World} {rs : List Nat} (hi : ops[i]? = some oi)
    (hw : Region.wanted oi (yielded ops a.tmps) = true) (h : ∀ K : Act → World → Prop, Shut (∀ a' w', (i ≠ z → S w') → any P md ops Q S z fuel (listed.setIfInBounds i true) a' w' → K a' w') → Oper.wp P oi a w K Q)
    (hs : All P md ops Q S z fuel listed a w rs) : All P md ops Q S z fuel listed a w (i :: rs) :=
  All.cons hi (fun K hK => by
    rw [if_pos hw]
    exact h K hK) hs
/-- The beginning: from the world behind the draw. -/
theorem region {id : Nat} {a : Act} {w : World} (z : Nat) (S : World → Prop) (hm : P.follows .mixedOrders = true) (hS : S w.drew)
    (h : S w.drew → any P .any ops Q S z ops.size (Array.replicate ops.size false) a w.drew) : (Code.region id ops true).wp P Q a w :=
  wp_region_any hm (any_is _ _ _ _ (h hS))
end
end Z
end Go.Proofs.YtlbmpldknfcfhaaDoor

namespace Go.Proofs.YtlbmpldknfcfhaaDoor
open Go.RowKit
set_option linter.unusedVariables false

theorem Z.only {P : Program} {ops : Array Oper} {Q : Exit → Act → World → Prop} {md : Region.Mode} {S : World → Prop} {z i d : Nat} {oi : Oper} {fuel : Nat} {listed : Array Bool} {a : Act} {w : World} (hi : ops[i]? = some oi) (hd : oi.dst = some d) (hr : Region.ready md ops listed = [i])
    (hw : Region.wanted oi (yielded ops a.tmps) = true) (h : ∀ K : Act → World → Prop, Shut (∀ v w', S w' → Z.any P md ops Q S z fuel (listed.setIfInBounds i true) (a.put (some d) v) w' → K (a.put (some d) v) w') → Oper.wp P oi a w K Q) : Z.any P md ops Q S z (fuel + 1) listed a w :=
  Z.ready hr (by simp) (Z.All.cons hi (fun K hK => by
    rw [if_pos hw]
    exact h K (fun v w' hS hW => hK.out _ _ (fun _ => hS) hW)) Z.All.nil)
end Go.Proofs.YtlbmpldknfcfhaaDoor

namespace Go.Proofs.YtlbmpldknfcfhaaDoor
open Go.RowKit
set_option linter.unusedVariables false

theorem Res.rowedQ {w : World} {B : Nat} {s : Value} {l : List M.Cl} (h : Res w B s l) (hne : l ≠ []) : ∃ b cap, s = .slice (some ⟨b, 0, none⟩) l.length cap ∧ l.length ≤ cap ∧ B ≤ b ∧ b < w.heap.size ∧ Row w b 0 l := by
  obtain ⟨_, ⟨_, h2⟩ | ⟨c, cc, h3, h4, h5, h6⟩⟩ := h
  · exact absurd h2 hne
  · exact ⟨c, cc, h3, h5, h4, h6.lt, h6.row⟩
theorem Pth.val_ne {v : List M.Cl} (h : M.valueFault v = 0) : v ≠ [] := by intro e; have := (Pth.lens h).1; rw [e] at this; simp at this
theorem Pth.ga {u : List M.Cl} {c : M.Cl} (hu : M.valueFault u = 0) (hc : Pth.Stp c) : gaOut u [c] = atIn u c := ga_ok (by unfold bothOut; rw [if_neg (by simp [hu])]; exact hc.val)

/-- What lies in memory while the steps of a path are gone: the answer's own block, and the block of what was got. -/
structure Pth.Lg (w wr : World) (gb : Nat) (sv : Value) (u : List M.Cl) : Prop where
  bel : Below w.heap.size w wr
  rs : Own wr w.heap.size 56 [.int .i64 0, .slice none 0 0]
  gt : Own wr gb 56 [.int .i64 0, sv]
  lo : w.heap.size < gb
  rv : Res wr w.heap.size sv u
  va : M.valueFault u = 0
theorem Pth.Lg.start {w w1 : World} {sv : Value} {v : List M.Cl} (hv : M.valueFault v = 0) (hb : Below (w.heap.size + 1) (w.alloc (.cells #[.int .i64 0, .slice none 0 0] 56)) w1) (hr : Res w1 (w.heap.size + 1) sv v) : Pth.Lg w (w1.alloc (.cells #[.int .i64 0, sv] 56)) w1.heap.size sv v := by
  have hsz := hb.size
  simp only [World.size_alloc] at hsz
  refine ⟨(((Below.refl _ _).alloc (Nat.le_refl _) _).trans (hb.mono (by omega))).alloc (by omega) _, ?_, ⟨_, heap_alloc_new _ _, rfl⟩, by omega, (hr.alloc _).mono (by omega), hv⟩
  exact Own.alloc (Own.below ⟨_, heap_alloc_new _ _, rfl⟩ hb (by omega)) _
theorem Pth.Lg.call {w wr w2 : World} {gb : Nat} {sv : Value} {u : List M.Cl} (h : Pth.Lg w wr gb sv u) (hb : Below wr.heap.size wr w2) : Pth.Lg w w2 gb sv u :=
  ⟨h.bel.trans (hb.mono h.bel.size), h.rs.below hb h.rs.lt, h.gt.below hb h.gt.lt, h.lo, h.rv.below hb, h.va⟩
theorem Pth.Lg.put {w wr w2 : World} {gb : Nat} {sv s2 : Value} {u u2 : List M.Cl} (h : Pth.Lg w wr gb sv u) (hb : Below wr.heap.size wr w2) (hr : Res w2 wr.heap.size s2 u2) (hv : M.valueFault u2 = 0) : Pth.Lg w ((w2.setCell ⟨gb, 0, none⟩ (.int .i64 0)).setCell ⟨gb, 1, none⟩ s2) gb s2 u2 := by
  have h2 := h.call hb
  have hne : ∀ b, s2.ownBlock = some b → b ≠ gb := fun b hq => by have := hr.base b hq; have := h.gt.lt; omega
  have hl := h.lo
  refine ⟨(h2.bel.setCell (by show w.heap.size ≤ gb; omega) _).setCell (by show w.heap.size ≤ gb; omega) _, (h2.rs.setOther _ _ (by simp; omega)).setOther _ _ (by simp; omega), ?_, hl, ((hr.mono h.bel.size).setOther _ _ hne).setOther _ _ hne, hv⟩
  have := (h2.gt.set 0 (.int .i64 0)).set 1 s2
  simpa using this
/-- A code was met: what was got is put as the answer. -/
theorem Pth.Lg.fin {w wr w2 : World} {gb : Nat} {sv s2 : Value} {u u2 : List M.Cl} (h : Pth.Lg w wr gb sv u) (hb : Below wr.heap.size wr w2) (hr : Res w2 wr.heap.size s2 u2) (x y x' y' : Value) :
    Res ((((w2.setCell ⟨gb, 0, none⟩ x).setCell ⟨gb, 1, none⟩ y).setCell ⟨w.heap.size, 0, none⟩ x').setCell ⟨w.heap.size, 1, none⟩ y') w.heap.size s2 u2 ∧ Below w.heap.size w ((((w2.setCell ⟨gb, 0, none⟩ x).setCell ⟨gb, 1, none⟩ y).setCell ⟨w.heap.size, 0, none⟩ x').setCell ⟨w.heap.size, 1, none⟩ y') := by
  have h2 := h.call hb
  have hl := h.lo
  have hne : ∀ b, s2.ownBlock = some b → b ≠ gb := fun b hq => by have := hr.base b hq; have := h.gt.lt; omega
  have hne2 : ∀ b, s2.ownBlock = some b → b ≠ w.heap.size := fun b hq => by have := hr.base b hq; have := h.rs.lt; omega
  exact ⟨((((hr.mono h.bel.size).setOther _ _ hne).setOther _ _ hne).setOther _ _ hne2).setOther _ _ hne2, (((h2.bel.setCell (by show w.heap.size ≤ gb; omega) _).setCell (by show w.heap.size ≤ gb; omega) _).setCell (Nat.le_refl _) _).setCell (Nat.le_refl _) _⟩
theorem Pth.Lg.done {w wr : World} {gb : Nat} {sv : Value} {u : List M.Cl} (h : Pth.Lg w wr gb sv u) (x' y' : Value) (hne2 : ∀ b, sv.ownBlock = some b → b ≠ w.heap.size) :
    Res ((wr.setCell ⟨w.heap.size, 0, none⟩ x').setCell ⟨w.heap.size, 1, none⟩ y') w.heap.size sv u ∧ Below w.heap.size w ((wr.setCell ⟨w.heap.size, 0, none⟩ x').setCell ⟨w.heap.size, 1, none⟩ y') :=
  ⟨(h.rv.setOther _ _ hne2).setOther _ _ hne2, (h.bel.setCell (Nat.le_refl _) _).setCell (Nat.le_refl _) _⟩
theorem Pth.Lg.apart {w wr : World} {gb : Nat} {sv : Value} {u : List M.Cl} (h : Pth.Lg w wr gb sv u) : ∀ b, sv.ownBlock = some b → b ≠ w.heap.size := by
  intro b hq e
  subst e
  obtain ⟨_, ⟨h1, h2⟩ | ⟨c, cc, h3, h4, h5, ⟨xs, h6, _⟩⟩⟩ := h.rv
  · exact Pth.val_ne h.va h2
  · rw [h3] at hq
    simp only [Value.ownBlock, Option.some.injEq] at hq
    subst hq
    obtain ⟨c1, q1, _⟩ := h.rs
    obtain ⟨c2, q2, _⟩ := h6
    rw [q1] at q2
    simp at q2

set_option maxRecDepth 100000 in
set_option maxHeartbeats 1000000 in
theorem getSteps_any (v : List M.Cl) (b off cap : Nat) (cs : List M.Cl) (b' o cap' : Nat) (w : World) (hv : M.valueFault v = 0) (hrow : Row w b off v) (hb : b < w.heap.size) (hcap : v.length ≤ cap) (hs : ∀ c ∈ cs, Pth.Stp c) (hrow' : Row w b' o cs) (hb' : b' < w.heap.size) (hn' : cs.length ≤ 200) (hcap' : cs.length ≤ cap') (hc : cap' ≤ 9223372036854775807) :
    Calls Tryd.prog 52 #[.slice (some ⟨b, off, none⟩) v.length cap, .slice (some ⟨b', o, none⟩) cs.length cap'] w (Ans w (Pth.getS v cs)) := by
  have HC := hide (fun w' r hb'' => clone_any v b off cap w' r hb'' (by have := (Pth.lens hv).2; omega))
  have HV := hide hv
  have HS := hide hs
  have HR' := hide hrow'
  have B0 : ∀ o, Below w.heap.size w (w.alloc o) := fun o => (Below.refl _ _).alloc (Nat.le_refl _) o
  have R0 := hide (fun x => hrow.below (B0 x) hb)
  clear hv hs hrow hrow' B0
  go_enter Tryd.func52, Tryd.ntmps52
  go_wp2_with fail
  refine ((unhide HC) _ ((unhide R0) _) (by simp; omega)).mono ?_
  rintro e w1 ⟨sv, rfl, hr1, hb1⟩
  simp only [World.size_alloc] at hr1 hb1
  obtain ⟨va, vn, vc, rfl⟩ := hr1.shape
  have L0 := hide (Pth.Lg.start (unhide HV) hb1 hr1)
  generalize hgb : w1.heap.size = gb at *
  clear hr1 hb1 HC R0
  go_wp2_with fail
  generalize w1.alloc (.cells #[.int .i64 0, .slice va vn vc] 56) = w3 at *
  clear hgb w1
  go_loopg [12] cs.length (fun g s12 wr => ∃ (k : Nat) (u : List M.Cl) (ua : Option Addr) (un uc : Nat), Hid (g = cs.length - k) ∧ s12 = .int .i64 k ∧ k ≤ cs.length ∧ Hid (Pth.getS v (cs.take k) = (0, u)) ∧ Hid (Pth.Lg w wr gb (.slice ua un uc) u))
  case atStart => exact ⟨0, v, va, vn, vc, rfl, rfl, by omega, by rw [List.take_zero]; rfl, unhide L0⟩
  case round =>
    clear L0
    obtain ⟨k, u, ua, un, uc, hg, rfl, hk, hgs, hL⟩ := hrel
    by_cases hlt : k < cs.length
    · have hst := (unhide HS) _ (getD_mem cs k hlt)
      have hgs2 := hide (fun h => Pth.get_take hlt hgs.out (cs := cs) |>.trans (if_pos h))
      have hstop := hide (fun h => Pth.get_stop hlt hgs.out (cs := cs) h)
      have hu := hL.out.va
      obtain ⟨ub, ucp, hsh, huc, hul, hub, hur⟩ := hL.out.rv.rowedQ (Pth.val_ne hu)
      simp only [Value.slice.injEq] at hsh
      obtain ⟨rfl, rfl, rfl⟩ := hsh
      have hrc : Row wr b' (o + k * 5) [cs.getD k M.zero] := by
        intro i hi
        have hi0 : i = 0 := by simp at hi; exact hi
        subst hi0
        exact ((unhide HR').below hL.out.bel hb') k hlt
      have hlen := (Pth.lens hu).2
      have hb2 : b' < wr.heap.size := Nat.lt_of_lt_of_le hb' hL.out.bel.size
      have hga := hide (Pth.ga hu hst)
      have HGA := hide (fun W (hW : Below wr.heap.size wr W) => implGetAt_any u ub 0 uc [cs.getD k M.zero] b' (o + k * 5) (cap' - k) W (hur.below hW hub) (Nat.lt_of_lt_of_le hub hW.size) (by omega) huc (Pth.oks hu) (hrc.below hW hb2) (Nat.lt_of_lt_of_le hb2 hW.size) (by simp) (by simp; omega) (Pth.oks hst.val))
      rw [unhide hga] at HGA
      have hgd := hide (Pth.at_gd hu (cs.getD k M.zero))
      clear hga hrc hst hur hul hgs
      generalize cs.getD k M.zero = c at *
      generalize hR : atIn u c = R at *
      clear hR
      obtain ⟨rc, rl⟩ := R
      simp only at hgs2 hstop hgd
      have g1 := hL.out.gt.cell 1
      simp only [List.getElem?_cons_zero, List.getElem?_cons_succ] at g1
      have B0 := Below.refl wr.heap.size wr
      have KEEP := hide (show ∀ W, Below wr.heap.size wr W → W.cell? ⟨gb, 1, none⟩ = some (.slice (some ⟨ub, 0, none⟩) u.length uc) ∧ Below wr.heap.size wr W from fun W hW => ⟨(hW.cell hL.out.gt.lt).trans g1, hW⟩)
      clear g1
      have s0 : (0 : Int) ≤ (k : Int) := by omega
      have s1 : (k : Int) ≤ (k : Int) + 1 := by omega
      have s2 : (k : Int) + 1 ≤ (cap' : Int) := by omega
      have s3 : IntKind.i64.wrap ((k : Int) + 1) = (k : Int) + 1 := IntWalk.i64_in _ ⟨by omega, by omega⟩
      have s4 : k < cap' := by omega
      go_upto_region 5 with fail
      refine Z.region 8 (fun w' => Below wr.heap.size wr w') (by kernel_rfl) B0.drew (fun hHeld => ?_)
      refine Z.take (i := 0) (d := 15) (v := .pointer (some ⟨gb, 1, none⟩)) rfl rfl (by kernel_rfl) (by kernel_rfl) (by kernel_rfl) (by kernel_rfl) (fun _ _ _ h => h) (Or.inl ⟨by rfl, ?_⟩) hHeld ?_
      · intro w' hSw; go_simp
      simp only [Act.put, List.setIfInBounds_toArray, List.set_cons_zero, List.set_cons_succ]
      refine Z.take (i := 1) (d := 16) (v := .slice (some ⟨ub, 0, none⟩) u.length uc) rfl rfl (by kernel_rfl) (by kernel_rfl) (by kernel_rfl) (by kernel_rfl) (fun _ _ _ h => h) (Or.inl ⟨by rfl, ?_⟩) hHeld ?_
      · intro w' hSw; have g1 := ((unhide KEEP) _ hSw).1; go_simp
      simp only [Act.put, List.setIfInBounds_toArray, List.set_cons_zero, List.set_cons_succ]
      refine Z.take (i := 2) (d := 17) (v := .slice (some ⟨b', o, none⟩) cs.length cap') rfl rfl (by kernel_rfl) (by kernel_rfl) (by kernel_rfl) (by kernel_rfl) (fun _ _ _ h => h) (Or.inl ⟨by rfl, ?_⟩) hHeld ?_
      · intro w' hSw; go_simp
      simp only [Act.put, List.setIfInBounds_toArray, List.set_cons_zero, List.set_cons_succ]
      refine Z.take (i := 3) (d := 18) (v := .int .i64 (k : Int)) rfl rfl (by kernel_rfl) (by kernel_rfl) (by kernel_rfl) (by kernel_rfl) (fun _ _ _ h => h) (Or.inl ⟨by rfl, ?_⟩) hHeld ?_
      · intro w' hSw; go_simp
      simp only [Act.put, List.setIfInBounds_toArray, List.set_cons_zero, List.set_cons_succ]
      refine Z.take (i := 4) (d := 19) (v := .int .i64 (k : Int)) rfl rfl (by kernel_rfl) (by kernel_rfl) (by kernel_rfl) (by kernel_rfl) (fun _ _ _ h => h) (Or.inl ⟨by rfl, ?_⟩) hHeld ?_
      · intro w' hSw; go_simp
      simp only [Act.put, List.setIfInBounds_toArray, List.set_cons_zero, List.set_cons_succ]
      refine Z.take (i := 5) (d := 20) (v := .int .i64 ((k : Int) + 1)) rfl rfl (by kernel_rfl) (by kernel_rfl) (by kernel_rfl) (by kernel_rfl) (fun _ _ _ h => h) (Or.inl ⟨by rfl, ?_⟩) hHeld ?_
      · intro w' hSw; go_simp
      simp only [Act.put, List.setIfInBounds_toArray, List.set_cons_zero, List.set_cons_succ]
      refine Z.take (i := 6) (d := 21) (v := .slice (some ⟨b', o + k * 5, none⟩) 1 (cap' - k)) rfl rfl (by kernel_rfl) (by kernel_rfl) (by kernel_rfl) (by kernel_rfl) (fun _ _ _ h => h) (Or.inl ⟨by rfl, ?_⟩) hHeld ?_
      · intro w' hSw; go_simp; omega
      simp only [Act.put, List.setIfInBounds_toArray, List.set_cons_zero, List.set_cons_succ]
      refine Z.only (i := 7) (d := 22) rfl rfl (by kernel_rfl) (by rfl) (fun K hK => ?_)
      go_simp
      refine ((unhide HGA) _ B0.drew).mono ?_
      rintro e w2 ⟨s2, rfl, hr2, hb2⟩
      have hb2' : Below wr.heap.size wr w2 := B0.drew.trans (hb2.mono (Nat.le_refl _))
      go_simp
      refine hK.out (.agg #[.int .i64 rc, s2]) _ hb2' ?_
      clear hK K
      simp only [Act.put, List.setIfInBounds_toArray, List.set_cons_zero, List.set_cons_succ]
      have hL2 := hL.out.call hb2'
      have c0 := hL2.gt.cell 0
      have c1 := hL2.gt.cell 1
      have z0 := hL2.gt.frozen 0
      have z1 := hL2.gt.frozen 1
      simp only [List.getElem?_cons_zero, List.getElem?_cons_succ] at c0 c1
      have hr2' : Res w2 wr.heap.size s2 rl := hr2
      obtain ⟨sa, sn, sc, rfl⟩ := hr2'.shape
      refine Z.last_at (w' := (w2.setCell ⟨gb, 0, none⟩ (.int .i64 rc)).setCell ⟨gb, 1, none⟩ (.slice sa sn sc)) rfl (by kernel_rfl) (by rfl) (fun K hK => ?_) ?_
      · go_simp
        exact hK.out
      refine Z.done (by kernel_rfl) ?_ _
      have G2 := hide ((hL2.gt.set 0 (.int .i64 rc)).set 1 (.slice sa sn sc))
      have R2 := hide ((hL2.rs.setOther ⟨gb, 0, none⟩ (.int .i64 rc) (by have := hL.out.lo; show w.heap.size ≠ gb; omega)).setOther ⟨gb, 1, none⟩ (.slice sa sn sc) (by have := hL.out.lo; show w.heap.size ≠ gb; omega))
      clear c0 c1 z0 z1 hL2 hb2 hr2
      have FINB := hide (hL.out.fin hb2' hr2' (.int .i64 rc) (.slice sa sn sc))
      have NEXT := hide (fun (h : rc = 0) => hL.out.put hb2' hr2' (hgd.out.ok h))
      clear hL hb2' hr2' B0 KEEP HGA
      generalize hWW : (w2.setCell ⟨gb, 0, none⟩ (.int .i64 rc)).setCell ⟨gb, 1, none⟩ (.slice sa sn sc) = WW at *
      have q0 := (unhide G2).cell 0
      have q1 := (unhide G2).cell 1
      have p0 := (unhide R2).cell 0
      have p1 := (unhide R2).cell 1
      have y0 := (unhide R2).frozen 0
      have y1 := (unhide R2).frozen 1
      simp only [List.set_cons_zero, List.set_cons_succ, List.getElem?_cons_zero, List.getElem?_cons_succ] at q0 q1 p0 p1
      by_cases hz : rc = 0
      · subst hz
        have N := hide ((unhide NEXT) rfl)
        have E := hide ((unhide hgs2) rfl)
        rw [hWW] at N
        clear hWW NEXT FINB hgs2 hstop hgd
        go_wp2_with fail
        go_roundg (cs.length - (k + 1))
        case rel => exact ⟨k + 1, rl, sa, sn, sc, rfl, by go_num, by omega, unhide E, unhide N⟩
        case measure => have := hg.out; omega
      · have E := hide ((unhide hstop) hz)
        have hz' : (rc == 0) = false := by simp [hz]
        have F := hide ((unhide FINB) (.int .i64 rc) (.slice sa sn sc))
        clear hWW NEXT FINB hgs2 hstop hgd hz
        go_wp2_with fail
        refine bodyPost_ret (v := .agg #[.int .i64 rc, .slice sa sn sc]) (by simp [results, Tryd.results52, go_sem, p0, p1]) rfl (ans_of (unhide E) (unhide F).1 (unhide F).2)
    · have hke : k = cs.length := by omega
      have E := hide (show Pth.getS v cs = (0, u) by have := hgs.out; rwa [hke, List.take_length] at this)
      have D := hide (fun x y => hL.out.done x y hL.out.apart)
      have q0 := hL.out.gt.cell 0
      have q1 := hL.out.gt.cell 1
      have p0 := hL.out.rs.cell 0
      have p1 := hL.out.rs.cell 1
      have y0 := hL.out.rs.frozen 0
      have y1 := hL.out.rs.frozen 1
      simp only [List.getElem?_cons_zero, List.getElem?_cons_succ] at q0 q1 p0 p1
      clear hke hgs hL
      go_wp2_with fail
      refine bodyPost_ret (v := .agg #[.int .i64 0, .slice ua un uc]) (by simp [results, Tryd.results52, go_sem, p0, p1]) rfl (ans_of (unhide E) ((unhide D) _ _).1 ((unhide D) _ _).2)

set_option maxRecDepth 100000 in
set_option maxHeartbeats 1000000 in
theorem l13Get_any (v : List M.Cl) (b off cap : Nat) (cs : List M.Cl) (ps : List (List M.Cl)) (a : Option Addr) (cap' : Nat) (w : World) (hv : M.valueFault v = 0) (hrow : Row w b off v) (hb : b < w.heap.size) (hcap : v.length ≤ cap) (hs : ∀ c ∈ cs, Pth.Stp c) (hpl : ps.length = cs.length) (hps : ∀ j, j < cs.length → ps.getD j [] = [cs.getD j M.zero]) (hlv : LV w a ps) (hn' : cs.length ≤ 200) (hcap' : cs.length ≤ cap') (hc : cap' ≤ 9223372036854775807) :
    Calls Tryd.prog 46 #[.slice (some ⟨b, off, none⟩) v.length cap, .slice a cs.length cap'] w (Ans w (Pth.getS v cs)) := by
  have hvl := (Pth.lens hv).2
  have HV := hide hv
  have HS := hide hs
  have HL := hide hlv
  have HPL := hide hpl
  have HPS := hide hps
  obtain ⟨i0, hi, hz0, hz1, hz2⟩ := info_parts Tryd.info44
  obtain ⟨W0, hW0⟩ : ∃ W0, W0 = w.alloc (.cells #[.int .i64 0, .slice none 0 0] 56) := ⟨_, rfl⟩
  have B0 : Below w.heap.size w W0 := by rw [hW0]; exact (Below.refl _ _).alloc (Nat.le_refl _) _
  have SZ : Hid (W0.heap.size = w.heap.size + 1) := hide (by rw [hW0]; simp)
  have hnews := hide (fun o => row_words ((hrow.below B0 hb).below ((Below.refl W0.heap.size W0).alloc (Nat.le_refl _) o) (by have := SZ.out; omega)))
  have hone := hide (flat_one v)
  have HFL := hide (flat_length v)
  have hoe := hide (owns_empty5 W0 44)
  have hb63 : 0 + v.length ≤ maxLen := by unfold maxLen; omega
  have hby : (0 + v.length) * 56 ≤ 140737488355328 := by omega
  have LST := hide (fun w1 sv hb1 hr1 => Pth.Lg.start (w := w) (w1 := w1) (sv := sv) hv hb1 hr1)
  rw [← hW0] at LST
  clear hv hs hrow hlv hpl hps
  go_enter Tryd.func46, Tryd.ntmps46
  go_upto_region 1 with fail
  rw [← hW0]
  clear hW0
  go_wp2_with (at_builtin; refine wpList_append_own _ rfl (.tmp 7) (.tmp 8) 27 rfl W0.heap.size 44 i0 _ 5 56 Tryd.underlying27 hi hz0 hz1 hz2 rfl (by decide) _ 0 [] rfl (unhide hoe) ⟨b, off, none⟩ v.length cap (flat v) rfl (unhide HFL) ((unhide hnews) _) (unhide hone) hb63 hby (by simp) ?_)
  intro sv w1 ho hg _
  have hB : Below W0.heap.size W0 w1 := ((Below.refl _ W0).alloc (Nat.le_refl _) _).grown hg (by simp) (fun q hq => by simp only [Value.ownBlock, Option.some.injEq] at hq; omega)
  have hr1 : Res w1 W0.heap.size sv v := res_of_owns (l := v) (by simpa using ho) (by omega)
  rw [SZ.out] at hB hr1
  obtain ⟨va, vn, vc, rfl⟩ := hr1.shape
  have L0 := hide ((unhide LST) w1 _ hB hr1)
  clear ho hg hB hr1 hnews hone HFL hoe hb63 hby LST
  generalize hgb : w1.heap.size = gb at *
  go_wp2_with fail
  generalize w1.alloc (.cells #[.int .i64 0, .slice va vn vc] 56) = w3 at *
  clear hgb w1
  go_loopg [6] cs.length (fun g s6 wr => ∃ (k : Nat) (u : List M.Cl) (ua : Option Addr) (un uc : Nat), Hid (g = cs.length - k) ∧ s6 = .int .i64 k ∧ k ≤ cs.length ∧ Hid (Pth.getS v (cs.take k) = (0, u)) ∧ Hid (Pth.Lg w wr gb (.slice ua un uc) u))
  case atStart => exact ⟨0, v, va, vn, vc, rfl, rfl, by omega, by rw [List.take_zero]; rfl, unhide L0⟩
  case round =>
    clear L0
    obtain ⟨k, u, ua, un, uc, hg, rfl, hk, hgs, hL⟩ := hrel
    by_cases hlt : k < cs.length
    · have hst := (unhide HS) _ (getD_mem cs k hlt)
      have hgs2 := hide (fun h => Pth.get_take hlt hgs.out (cs := cs) |>.trans (if_pos h))
      have hstop := hide (fun h => Pth.get_stop hlt hgs.out (cs := cs) h)
      have hu := hL.out.va
      obtain ⟨ub, ucp, hsh, huc, hul, hub, hur⟩ := hL.out.rv.rowedQ (Pth.val_ne hu)
      simp only [Value.slice.injEq] at hsh
      obtain ⟨rfl, rfl, rfl⟩ := hsh
      obtain ⟨pg, pb, po, pc, rfl, hpg, f0, hpc, hpb, hrc⟩ := (unhide HL) k (by rw [unhide HPL]; exact hlt)
      rw [(unhide HPS) k hlt] at f0 hpc hrc
      simp only [List.length_cons, List.length_nil, Nat.zero_add] at f0 hpc
      have hlen := (Pth.lens hu).2
      have hrc2 := hrc.below hL.out.bel hpb
      have hb2 : pb < wr.heap.size := Nat.lt_of_lt_of_le hpb hL.out.bel.size
      have HGA := hide (fun W (hW : Below wr.heap.size wr W) => l3At_any u ub 0 uc [cs.getD k M.zero] pb po pc W hu hst.val (hur.below hW hub) (Nat.lt_of_lt_of_le hub hW.size) (by omega) huc (Pth.oks hu) (hrc2.below hW hb2) (Nat.lt_of_lt_of_le hb2 hW.size) (by simp) (by simpa using hpc) (Pth.oks hst.val))
      simp only [List.getD_cons_zero, List.length_cons, List.length_nil, Nat.zero_add] at HGA
      have hgd := hide (Pth.at_gd hu (cs.getD k M.zero))
      have f1 := (hL.out.bel.cell hpg).trans f0
      have hpg2 : pg < wr.heap.size := Nat.lt_of_lt_of_le hpg hL.out.bel.size
      clear hrc hrc2 hst hur hul hgs f0
      generalize cs.getD k M.zero = c at *
      generalize hR : atIn u c = R at *
      clear hR
      obtain ⟨rc, rl⟩ := R
      simp only at hgs2 hstop hgd
      have g1 := hL.out.gt.cell 1
      simp only [List.getElem?_cons_zero, List.getElem?_cons_succ] at g1
      have B0 := Below.refl wr.heap.size wr
      have KEEP := hide (show ∀ W, Below wr.heap.size wr W → W.cell? ⟨gb, 1, none⟩ = some (.slice (some ⟨ub, 0, none⟩) u.length uc) ∧ W.cell? ⟨pg, k, none⟩ = some (.slice (some ⟨pb, po, none⟩) 1 pc) ∧ Below wr.heap.size wr W from fun W hW => ⟨(hW.cell hL.out.gt.lt).trans g1, (hW.cell hpg2).trans f1, hW⟩)
      clear g1 f1
      have s0 : (0 : Int) ≤ (k : Int) := by omega
      have s1 : (k : Int) < (cs.length : Int) := by omega
      go_upto_region 5 with fail
      refine Z.region 7 (fun w' => Below wr.heap.size wr w') (by kernel_rfl) B0.drew (fun hHeld => ?_)
      refine Z.take (i := 0) (d := 17) (v := .pointer (some ⟨gb, 1, none⟩)) rfl rfl (by kernel_rfl) (by kernel_rfl) (by kernel_rfl) (by kernel_rfl) (fun _ _ _ h => h) (Or.inl ⟨by rfl, ?_⟩) hHeld ?_
      · intro w' hSw; go_simp
      simp only [Act.put, List.setIfInBounds_toArray, List.set_cons_zero, List.set_cons_succ]
      refine Z.take (i := 1) (d := 18) (v := .slice (some ⟨ub, 0, none⟩) u.length uc) rfl rfl (by kernel_rfl) (by kernel_rfl) (by kernel_rfl) (by kernel_rfl) (fun _ _ _ h => h) (Or.inl ⟨by rfl, ?_⟩) hHeld ?_
      · intro w' hSw; have g1 := ((unhide KEEP) _ hSw).1; go_simp
      simp only [Act.put, List.setIfInBounds_toArray, List.set_cons_zero, List.set_cons_succ]
      refine Z.take (i := 2) (d := 19) (v := .slice (some ⟨pg, 0, none⟩) cs.length cap') rfl rfl (by kernel_rfl) (by kernel_rfl) (by kernel_rfl) (by kernel_rfl) (fun _ _ _ h => h) (Or.inl ⟨by rfl, ?_⟩) hHeld ?_
      · intro w' hSw; go_simp
      simp only [Act.put, List.setIfInBounds_toArray, List.set_cons_zero, List.set_cons_succ]
      refine Z.take (i := 3) (d := 20) (v := .int .i64 (k : Int)) rfl rfl (by kernel_rfl) (by kernel_rfl) (by kernel_rfl) (by kernel_rfl) (fun _ _ _ h => h) (Or.inl ⟨by rfl, ?_⟩) hHeld ?_
      · intro w' hSw; go_simp
      simp only [Act.put, List.setIfInBounds_toArray, List.set_cons_zero, List.set_cons_succ]
      refine Z.take (i := 4) (d := 21) (v := .pointer (some ⟨pg, k, none⟩)) rfl rfl (by kernel_rfl) (by kernel_rfl) (by kernel_rfl) (by kernel_rfl) (fun _ _ _ h => h) (Or.inl ⟨by rfl, ?_⟩) hHeld ?_
      · intro w' hSw; go_simp
      simp only [Act.put, List.setIfInBounds_toArray, List.set_cons_zero, List.set_cons_succ]
      refine Z.take (i := 5) (d := 22) (v := .slice (some ⟨pb, po, none⟩) 1 pc) rfl rfl (by kernel_rfl) (by kernel_rfl) (by kernel_rfl) (by kernel_rfl) (fun _ _ _ h => h) (Or.inl ⟨by rfl, ?_⟩) hHeld ?_
      · intro w' hSw; have g1 := ((unhide KEEP) _ hSw).2.1; go_simp
      simp only [Act.put, List.setIfInBounds_toArray, List.set_cons_zero, List.set_cons_succ]
      refine Z.only (i := 6) (d := 23) rfl rfl (by kernel_rfl) (by rfl) (fun K hK => ?_)
      go_simp
      refine ((unhide HGA) _ B0.drew).mono ?_
      rintro e w2 ⟨s2, rfl, hr2, hb2⟩
      have hb2' : Below wr.heap.size wr w2 := B0.drew.trans (hb2.mono (Nat.le_refl _))
      go_simp
      refine hK.out (.agg #[.int .i64 rc, s2]) _ hb2' ?_
      clear hK K
      simp only [Act.put, List.setIfInBounds_toArray, List.set_cons_zero, List.set_cons_succ]
      have hL2 := hL.out.call hb2'
      have c0 := hL2.gt.cell 0
      have c1 := hL2.gt.cell 1
      have z0 := hL2.gt.frozen 0
      have z1 := hL2.gt.frozen 1
      simp only [List.getElem?_cons_zero, List.getElem?_cons_succ] at c0 c1
      have hr2' : Res w2 wr.heap.size s2 rl := hr2
      obtain ⟨sa, sn, sc, rfl⟩ := hr2'.shape
      refine Z.last_at (w' := (w2.setCell ⟨gb, 0, none⟩ (.int .i64 rc)).setCell ⟨gb, 1, none⟩ (.slice sa sn sc)) rfl (by kernel_rfl) (by rfl) (fun K hK => ?_) ?_
      · go_simp
        exact hK.out
      refine Z.done (by kernel_rfl) ?_ _
      have G2 := hide ((hL2.gt.set 0 (.int .i64 rc)).set 1 (.slice sa sn sc))
      have R2 := hide ((hL2.rs.setOther ⟨gb, 0, none⟩ (.int .i64 rc) (by have := hL.out.lo; show w.heap.size ≠ gb; omega)).setOther ⟨gb, 1, none⟩ (.slice sa sn sc) (by have := hL.out.lo; show w.heap.size ≠ gb; omega))
      clear c0 c1 z0 z1 hL2 hb2 hr2
      have FINB := hide (hL.out.fin hb2' hr2' (.int .i64 rc) (.slice sa sn sc))
      have NEXT := hide (fun (h : rc = 0) => hL.out.put hb2' hr2' (hgd.out.ok h))
      clear hL hb2' hr2' B0 KEEP HGA
      generalize hWW : (w2.setCell ⟨gb, 0, none⟩ (.int .i64 rc)).setCell ⟨gb, 1, none⟩ (.slice sa sn sc) = WW at *
      have q0 := (unhide G2).cell 0
      have q1 := (unhide G2).cell 1
      have p0 := (unhide R2).cell 0
      have p1 := (unhide R2).cell 1
      have y0 := (unhide R2).frozen 0
      have y1 := (unhide R2).frozen 1
      simp only [List.set_cons_zero, List.set_cons_succ, List.getElem?_cons_zero, List.getElem?_cons_succ] at q0 q1 p0 p1
      by_cases hz : rc = 0
      · subst hz
        have N := hide ((unhide NEXT) rfl)
        have E := hide ((unhide hgs2) rfl)
        rw [hWW] at N
        clear hWW NEXT FINB hgs2 hstop hgd
        go_wp2_with fail
        go_roundg (cs.length - (k + 1))
        case rel => exact ⟨k + 1, rl, sa, sn, sc, rfl, by go_num, by omega, unhide E, unhide N⟩
        case measure => have := hg.out; omega
      · have E := hide ((unhide hstop) hz)
        have hz' : (rc == 0) = false := by simp [hz]
        have F := hide ((unhide FINB) (.int .i64 rc) (.slice sa sn sc))
        clear hWW NEXT FINB hgs2 hstop hgd hz
        go_wp2_with fail
        refine bodyPost_ret (v := .agg #[.int .i64 rc, .slice sa sn sc]) (by simp [results, Tryd.results46, go_sem, p0, p1]) rfl (ans_of (unhide E) (unhide F).1 (unhide F).2)
    · have hke : k = cs.length := by omega
      have E := hide (show Pth.getS v cs = (0, u) by have := hgs.out; rwa [hke, List.take_length] at this)
      have D := hide (fun x y => hL.out.done x y hL.out.apart)
      have q0 := hL.out.gt.cell 0
      have q1 := hL.out.gt.cell 1
      have p0 := hL.out.rs.cell 0
      have p1 := hL.out.rs.cell 1
      have y0 := hL.out.rs.frozen 0
      have y1 := hL.out.rs.frozen 1
      simp only [List.getElem?_cons_zero, List.getElem?_cons_succ] at q0 q1 p0 p1
      clear hke hgs hL
      go_wp2_with fail
      refine bodyPost_ret (v := .agg #[.int .i64 0, .slice ua un uc]) (by simp [results, Tryd.results46, go_sem, p0, p1]) rfl (ans_of (unhide E) ((unhide D) _ _).1 ((unhide D) _ _).2)
end Go.Proofs.YtlbmpldknfcfhaaDoor
