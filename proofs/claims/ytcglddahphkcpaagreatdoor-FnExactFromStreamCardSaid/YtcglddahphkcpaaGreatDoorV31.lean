/-
  slices.Clone and impl.areBoth.
  A drawn region whose last operation breaks what held till then: an order of operations, where S holds behind each operation that is carried out ahead of number z. No word of the program is used here.
  A call in a drawn region, the only operation that may come up. No word of the program is used here.
  impl.GetPath and spec.GetPath.
  impl.setSteps, impl.setMember and impl.setElement.
-/
import Derived.Test.YtcglddahphkcpaaGreatDoorV00
import Derived.Test.YtcglddahphkcpaaGreatDoorV19
import Derived.Test.YtcglddahphkcpaaGreatDoorV27
import Derived.Test.YtcglddahphkcpaaGreatDoorV29
import Derived.Test.YtcglddahphkcpaaGreatDoorV30
import Derived.BigQuiet
import Derived.Deep.Cut
import Derived.Deep.CutRange
import Derived.Deep.RegionHeld
import Derived.Lib.SliceRun
namespace Go.Proofs.YtcglddahphkcpaaGreatDoor
open Go.RowKit
set_option linter.unusedVariables false

set_option maxRecDepth 100000 in
set_option maxHeartbeats 1000000 in
theorem clone_any (l : List M.Cl) (b off cap : Nat) (w : World) (hrow : Row w b off l) (hb : b < w.heap.size) (hn : l.length ≤ 1048576) :
    Calls Tryz.prog 138 #[.slice (some ⟨b, off, none⟩) l.length cap] w fun e w' => ∃ s, e = .returned s ∧ Res w' w.heap.size s l ∧ Below w.heap.size w w' := by
  obtain ⟨i0, hi, hz0, hz1, hz2⟩ := info_parts Tryz.info111
  have hnews := hide (fun o => row_words (hrow.below ((Below.refl w.heap.size w).alloc (Nat.le_refl _) o) hb))
  have hone := hide (flat_one l)
  have HFL := hide (flat_length l)
  have hoe := hide (owns_empty5 w 111)
  have hb63 : 0 + l.length ≤ maxLen := by unfold maxLen; omega
  have hby : (0 + l.length) * 56 ≤ 140737488355328 := by omega
  have heq : ∀ w', (binOp .eql 24 (.slice (some ⟨b, off, none⟩) l.length cap) (.slice none 0 0)).run Tryz.prog w' = .ok (.bool false) w' := fun w' => Lib.run_eql_slice_nil w' 24 111 (some ⟨b, off, none⟩) l.length cap 0 0 Tryz.underlying24
  go_enter Tryz.func138, Tryz.ntmps138
  go_wp2_with (at_builtin; refine wpList_append_own _ rfl (.tmp 5) (.tmp 6) 24 rfl w.heap.size 111 i0 _ 5 56 Tryz.underlying24 hi hz0 hz1 hz2 rfl (by decide) _ 0 [] rfl (unhide hoe) ⟨b, off, none⟩ l.length cap (flat l) rfl (unhide HFL) ((unhide hnews) _) (unhide hone) hb63 hby (by simp) ?_)
  intro v' w' ho hg _
  have hB : Below w.heap.size w w' := ((Below.refl _ w).alloc (Nat.le_refl _) _).grown hg (by simp) (fun q hq => by simp only [Value.ownBlock, Option.some.injEq] at hq; omega)
  have hr := hide (res_of_owns (l := l) (by simpa using ho) hn)
  clear ho hg
  go_wp2_with fail
  go_ret
  exact ⟨_, rfl, unhide hr, hB⟩

end Go.Proofs.YtcglddahphkcpaaGreatDoor

namespace Go.Proofs.YtcglddahphkcpaaGreatDoor
open Go.RowKit
set_option linter.unusedVariables false
namespace Z
section
variable {P : Program} {ops : Array Oper} {Q : Exit → Act → World → Prop} {md : Region.Mode} {S : World → Prop} {z : Nat}

/-- Whatever order is picked from here on; behind every operation S holds, as long as z has not come up. -/
def any (P : Program) (md : Region.Mode) (ops : Array Oper) (Q : Exit → Act → World → Prop) (S : World → Prop) (z : Nat) : Nat → Array Bool → Act → World → Prop
  | 0, listed, a, w => Region.ready md ops listed = [] ∧ Q .normal a w
  | fuel + 1, listed, a, w =>
    (Region.ready md ops listed = [] → Q .normal a w) ∧
    ∀ i ∈ Region.ready md ops listed, wpOp P ops Q i (fun a' w' => (i ≠ z → S w') ∧ any P md ops Q S z fuel (listed.setIfInBounds i true) a' w') a w

theorem any_is : ∀ (fuel : Nat) (listed : Array Bool) (a : Act) (w : World), any P md ops Q S z fuel listed a w → wpAny P md ops Q fuel listed a w
  | 0, _, _, _, h => h
  | fuel + 1, _, _, _, h => ⟨h.1, fun i hi => wpOp_mono (fun a' w' h' => any_is fuel _ a' w' h'.2) (h.2 i hi)⟩

/-- z waits for i. -/
def waits (md : Region.Mode) (ops : Array Oper) (z i : Nat) : Bool := match ops[z]? with
  | some oz => oz.after.any fun e => Region.binds md e && e.on == i
  | none => false

/-- Two that may both come up: neither waits for the other. -/
theorem both_up {listed : Array Bool} {i j : Nat} (hi : i ∈ Region.ready md ops listed) (hj : j ∈ Region.ready md ops listed) :
    ∃ oj, ops[j]? = some oj ∧ listed.getD j true = false ∧ ∀ e ∈ oj.after, Region.binds md e = true → e.on ≠ i := by
  obtain ⟨u, o, ho, hall⟩ := mem_ready.1 hj
  refine ⟨o, ho, u, ?_⟩
  rintro e he hb rfl
  have x := hall e he hb
  have y := (mem_ready.1 hi).1
  cases q : listed[e.on]? with
  | none => simp [q] at x
  | some t => cases t <;> simp [q] at x y
/-- Whatever has not come up and does not wait for i is apart from it. -/
def Apart (md : Region.Mode) (ops : Array Oper) (i : Nat) (oi : Oper) (listed : Array Bool) : Prop :=
  ∀ j oj, ops[j]? = some oj → j ≠ i → listed.getD j true = false → (∀ e ∈ oj.after, Region.binds md e = true → e.on ≠ i) → oi.apart ops oj = true
theorem Apart.more {i : Nat} {oi : Oper} {listed : Array Bool} (h : Apart md ops i oi listed) (j : Nat) (hj : listed.getD j true = false) : Apart md ops i oi (listed.setIfInBounds j true) := by
  intro k ok hk hki hun
  rcases Nat.decEq j k with hjk | rfl
  · exact h k ok hk hki (by rwa [getD_set_ne true hjk] at hun)
  · exact h j ok hk hki hj

theorem first {i : Nat} {oi : Oper} {v : Value} (hi : ops[i]? = some oi) (hsel : ∀ (j : Nat) (o : Oper) cs b, ops[j]? = some o → o.op ≠ .select cs b)
    (hQ : ∀ c a w, Q (.panic c) (a.put oi.dst v) w → Q (.panic c) a w) (hz : waits md ops z i = true) (fuel : Nat) :
    ∀ (listed : Array Bool) (a : Act) (w : World), Apart md ops i oi listed → i ∈ Region.ready md ops listed → YieldsIf P ops S oi v a → S w →
      any P md ops Q S z fuel (listed.setIfInBounds i true) (a.put oi.dst v) w → any P md ops Q S z (fuel + 1) listed a w := by
  induction fuel with
  | zero =>
    intro listed a w _ up hy hS H
    refine ⟨fun none => absurd up (by rw [none]; simp), fun j hj => ?_⟩
    rcases Nat.decEq j i with ne | rfl
    · exact absurd (ready_mono hj ne) (by rw [H.1]; simp)
    · exact hy.wpOp hi hS ⟨fun _ => hS, H⟩
  | succ fuel ih =>
    intro listed a w hap up hy hS H
    refine ⟨fun none => absurd up (by rw [none]; simp), fun j hj => ?_⟩
    rcases Nat.decEq j i with ne | rfl
    · obtain ⟨oj, hoj, hun, hno⟩ := both_up up hj
      have hjz : j ≠ z := by
        rintro rfl
        unfold waits at hz
        rw [hoj] at hz
        simp only [Array.any_eq_true', Bool.and_eq_true, beq_iff_eq] at hz
        obtain ⟨e, he, hb, ho⟩ := hz
        exact hno e he hb ho
      have step := wpOp_putIf hoj (hap j oj hoj ne hun hno) (fun cs b => hsel i oi cs b hi) (fun cs b => hsel j oj cs b hoj) hQ hy (H.2 j (ready_mono hj ne))
      refine wpOp_mono (fun a' w' ⟨y', s', rest⟩ => ⟨s', ih _ a' w' (hap.more j hun) (ready_mono up (Ne.symm ne)) y' (s' hjz) ?_⟩) step
      rwa [Array.setIfInBounds_comm _ _ ne]
    · exact hy.wpOp hi hS ⟨fun _ => hS, H⟩

/-- An operation that only reads, taken first. -/
theorem take {i d : Nat} {oi : Oper} {v : Value} {fuel : Nat} {listed : Array Bool} {a : Act} {w : World} (hi : ops[i]? = some oi) (hd : oi.dst = some d)
    (hs : Region.noSelect ops = true) (hf : Region.free md ops listed i = true) (hr : (Region.ready md ops listed).contains i = true) (hz : waits md ops z i = true)
    (hQ : ∀ c a w, Q (.panic c) (a.put (some d) v) w → Q (.panic c) a w) (hy : YieldsIf P ops S oi v a) (hS : S w)
    (h : any P md ops Q S z fuel (listed.setIfInBounds i true) (a.put (some d) v) w) : any P md ops Q S z (fuel + 1) listed a w :=
  first hi (Region.noSelect_spec hs) (by rw [hd]; exact hQ) hz fuel listed a w (Region.free_spec hi hf) (by simpa using hr) hy hS (by rw [hd]; exact h)

/-- Each of those that may come up comes up next. -/
def All (P : Program) (md : Region.Mode) (ops : Array Oper) (Q : Exit → Act → World → Prop) (S : World → Prop) (z : Nat) (fuel : Nat) (listed : Array Bool) (a : Act) (w : World) (rs : List Nat) : Prop :=
  ∀ i ∈ rs, wpOp P ops Q i (fun a' w' => (i ≠ z → S w') ∧ any P md ops Q S z fuel (listed.setIfInBounds i true) a' w') a w
theorem All.nil {fuel : Nat} {listed : Array Bool} {a : Act} {w : World} : All P md ops Q S z fuel listed a w [] := fun _ h => by cases h
theorem All.cons {fuel : Nat} {listed : Array Bool} {a : Act} {w : World} {i : Nat} {o : Oper} {rs : List Nat} (ho : ops[i]? = some o)
    (h : ∀ K' : Act → World → Prop, Shut (∀ a w, (i ≠ z → S w) → any P md ops Q S z fuel (listed.setIfInBounds i true) a w → K' a w) → if Region.wanted o (yielded ops a.tmps) = true then Oper.wp P o a w K' Q else K' (a.put o.dst undef) w)
    (hs : All P md ops Q S z fuel listed a w rs) : All P md ops Q S z fuel listed a w (i :: rs) := fun j hj => by
  rcases List.mem_cons.1 hj with rfl | hj
  · exact wpOp_step ho (fun K' hK => h K' (fun a w hS hW => hK a w ⟨hS, hW⟩))
  · exact hs j hj
theorem ready {rs : List Nat} {fuel : Nat} {listed : Array Bool} {a : Act} {w : World} (hr : Region.ready md ops listed = rs) (hne : rs ≠ [])
    (h : All P md ops Q S z fuel listed a w rs) : any P md ops Q S z (fuel + 1) listed a w := ⟨fun h0 => absurd (hr ▸ h0) hne, hr ▸ h⟩
theorem done {listed : Array Bool} {a : Act} {w : World} (hr : Region.ready md ops listed = []) (h : Q .normal a w) : ∀ fuel, any P md ops Q S z fuel listed a w
  | 0 => ⟨hr, h⟩
  | _ + 1 => ⟨fun _ => h, by rw [hr]; simp⟩
/-- An operation of those that may come up, run to its end in the world at hand. -/
theorem run_cons {i : Nat} {oi : Oper} {fuel : Nat} {listed : Array Bool} {a a' : Act} {w w' : World} {rs : List Nat} (hi : ops[i]? = some oi)
    (hw : Region.wanted oi (yielded ops a.tmps) = true) (hrun : ∀ K : Act → World → Prop, Shut (K a' w') → Oper.wp P oi a w K Q) (hS : i ≠ z → S w')
    (h : any P md ops Q S z fuel (listed.setIfInBounds i true) a' w') (hs : All P md ops Q S z fuel listed a w rs) : All P md ops Q S z fuel listed a w (i :: rs) :=
  All.cons hi (fun K hK => by
    rw [if_pos hw]
    exact hrun K (hK.out _ _ hS h)) hs
theorem val_cons {i d : Nat} {oi : Oper} {v : Value} {fuel : Nat} {listed : Array Bool} {a : Act} {w w' : World} {rs : List Nat} (hi : ops[i]? = some oi)
    (hw : Region.wanted oi (yielded ops a.tmps) = true) (hrun : ∀ K : Act → World → Prop, Shut (K (a.put (some d) v) w') → Oper.wp P oi a w K Q) (hS : i ≠ z → S w')
    (h : any P md ops Q S z fuel (listed.setIfInBounds i true) (a.put (some d) v) w') (hs : All P md ops Q S z fuel listed a w rs) : All P md ops Q S z fuel listed a w (i :: rs) :=
  run_cons hi hw hrun hS h hs
theorem last_at {oz : Oper} {fuel : Nat} {listed : Array Bool} {a : Act} {w w' : World} (hi : ops[z]? = some oz) (hr : Region.ready md ops listed = [z])
    (hw : Region.wanted oz (yielded ops a.tmps) = true) (hrun : ∀ K : Act → World → Prop, Shut (K a w') → Oper.wp P oz a w K Q)
    (h : any P md ops Q S z fuel (listed.setIfInBounds z true) a w') : any P md ops Q S z (fuel + 1) listed a w :=
  ready hr (by simp) (run_cons hi hw hrun (fun h => absurd rfl h) h All.nil)
/-- A call (or an append), whose world behind is told by a law. -/
theorem call_cons {i : Nat} {oi : Oper} {fuel : Nat} {listed : Array Bool} {a : Act} {w : World} {rs : List Nat} (hi : ops[i]? = some oi)
    (hw : Region.wanted oi (yielded ops a.tmps) = true) (h : ∀ K : Act → World → Prop, Shut (∀ a' w', (i ≠ z → S w') → any P md ops Q S z fuel (listed.setIfInBounds i true) a' w' → K a' w') → Oper.wp P oi a w K Q)
    (hs : All P md ops Q S z fuel listed a w rs) : All P md ops Q S z fuel listed a w (i :: rs) :=
  All.cons hi (fun K hK => by
    rw [if_pos hw]
    exact h K hK) hs
/-- The beginning: from the world behind the draw. -/
theorem region {id : Nat} {a : Act} {w : World} (z : Nat) (S : World → Prop) (hm : P.follows .mixedOrders = true) (hS : S w.drew)
    (h : S w.drew → any P .any ops Q S z ops.size (Array.replicate ops.size false) a w.drew) : (Code.region id ops true).wp P Q a w :=
  wp_region_any hm (any_is _ _ _ _ (h hS))
end
end Z
end Go.Proofs.YtcglddahphkcpaaGreatDoor

namespace Go.Proofs.YtcglddahphkcpaaGreatDoor
open Go.RowKit
set_option linter.unusedVariables false

theorem Z.only {P : Program} {ops : Array Oper} {Q : Exit → Act → World → Prop} {md : Region.Mode} {S : World → Prop} {z i d : Nat} {oi : Oper} {fuel : Nat} {listed : Array Bool} {a : Act} {w : World} (hi : ops[i]? = some oi) (hd : oi.dst = some d) (hr : Region.ready md ops listed = [i])
    (hw : Region.wanted oi (yielded ops a.tmps) = true) (h : ∀ K : Act → World → Prop, Shut (∀ v w', S w' → Z.any P md ops Q S z fuel (listed.setIfInBounds i true) (a.put (some d) v) w' → K (a.put (some d) v) w') → Oper.wp P oi a w K Q) : Z.any P md ops Q S z (fuel + 1) listed a w :=
  Z.ready hr (by simp) (Z.All.cons hi (fun K hK => by
    rw [if_pos hw]
    exact h K (fun v w' hS hW => hK.out _ _ (fun _ => hS) hW)) Z.All.nil)
end Go.Proofs.YtcglddahphkcpaaGreatDoor

namespace Go.Proofs.YtcglddahphkcpaaGreatDoor
open Go.RowKit
set_option linter.unusedVariables false

theorem Res.rowedQ {w : World} {B : Nat} {s : Value} {l : List M.Cl} (h : Res w B s l) (hne : l ≠ []) : ∃ b cap, s = .slice (some ⟨b, 0, none⟩) l.length cap ∧ l.length ≤ cap ∧ B ≤ b ∧ b < w.heap.size ∧ Row w b 0 l := by
  obtain ⟨_, ⟨_, h2⟩ | ⟨c, cc, h3, h4, h5, h6⟩⟩ := h
  · exact absurd h2 hne
  · exact ⟨c, cc, h3, h5, h4, h6.lt, h6.row⟩
theorem Pth.val_ne {v : List M.Cl} (h : M.valueFault v = 0) : v ≠ [] := by intro e; have := (Pth.lens h).1; rw [e] at this; simp at this
end Go.Proofs.YtcglddahphkcpaaGreatDoor

namespace Go.Proofs.YtcglddahphkcpaaGreatDoor
open Go.RowKit
set_option linter.unusedVariables false

/-- What SetPath tells of a string and the steps behind it. -/
def Pth.memOut (v : List M.Cl) (key : ByteArray) (cs x : List M.Cl) : Int × List M.Cl :=
  if (getOut v key).1 = 0 then (if (Pth.setS (getOut v key).2 cs x).1 = 0 then setOut v key (Pth.setS (getOut v key).2 cs x).2 else Pth.setS (getOut v key).2 cs x) else getOut v key
theorem Pth.mem_no {v : List M.Cl} {key : ByteArray} {cs x : List M.Cl} {R : Int × List M.Cl} (h : getOut v key = R) (hz : R.1 ≠ 0) : Pth.memOut v key cs x = R := by unfold Pth.memOut; rw [h, if_neg hz]
theorem Pth.mem_in {v : List M.Cl} {key : ByteArray} {cs x l : List M.Cl} {R : Int × List M.Cl} (h : getOut v key = (0, l)) (h2 : Pth.setS l cs x = R) (hz : R.1 ≠ 0) : Pth.memOut v key cs x = R := by unfold Pth.memOut; rw [h]; simp only [if_pos, h2]; rw [if_neg hz]
theorem Pth.mem_ok {v : List M.Cl} {key : ByteArray} {cs x l l2 : List M.Cl} (h : getOut v key = (0, l)) (h2 : Pth.setS l cs x = (0, l2)) : Pth.memOut v key cs x = setOut v key l2 := by unfold Pth.memOut; rw [h]; simp only [if_pos, h2]
/-- What setSteps says of steps. -/
def Pth.SetI (cs x : List M.Cl) : Prop := ∀ (v : List M.Cl) (b off cap b' o cap' bx ox cx : Nat) (w : World), M.valueFault v = 0 → Row w b off v → b < w.heap.size → v.length ≤ cap → Row w b' o cs → b' < w.heap.size → cs.length ≤ cap' → cap' ≤ 9223372036854775807 → Row w bx ox x → bx < w.heap.size → x.length ≤ cx →
  Calls Tryz.prog 80 #[.slice (some ⟨b, off, none⟩) v.length cap, .slice (some ⟨b', o, none⟩) cs.length cap', .slice (some ⟨bx, ox, none⟩) x.length cx] w (Ans w (Pth.setS v cs x))
/-- What was told lies behind the answer's own block: it is put there. -/
theorem Pth.ret {w W : World} {s : Value} {l : List M.Cl} (hr : Res W (w.heap.size + 1) s l) (B : Below w.heap.size w W) (x y : Value) :
    Res ((W.setCell ⟨w.heap.size, 0, none⟩ x).setCell ⟨w.heap.size, 1, none⟩ y) w.heap.size s l ∧ Below w.heap.size w ((W.setCell ⟨w.heap.size, 0, none⟩ x).setCell ⟨w.heap.size, 1, none⟩ y) := by
  have hne : ∀ b, s.ownBlock = some b → b ≠ w.heap.size := fun b h => by have := hr.base b h; omega
  exact ⟨((hr.mono (by omega)).setOther _ _ hne).setOther _ _ hne, (B.setCell (Nat.le_refl _) _).setCell (Nat.le_refl _) _⟩

set_option maxRecDepth 100000 in
set_option maxHeartbeats 1000000 in
theorem setMember_any (cs x : List M.Cl) (ih : Hid (Pth.SetI cs x)) (hx : M.valueFault x = 0) (v : List M.Cl) (key : ByteArray) (b off cap b' o cap' bx ox cx : Nat) (w : World) (hv : M.valueFault v = 0) (ht : M.textOk key = true) (hrow : Row w b off v) (hb : b < w.heap.size) (hcap : v.length ≤ cap) (hrow' : Row w b' o cs) (hb' : b' < w.heap.size) (hcap' : cs.length ≤ cap') (hc' : cap' ≤ 9223372036854775807) (hrowx : Row w bx ox x) (hbx : bx < w.heap.size) (hcx : x.length ≤ cx) :
    Calls Tryz.prog 139 #[.slice (some ⟨b, off, none⟩) v.length cap, .string key, .slice (some ⟨b', o, none⟩) cs.length cap', .slice (some ⟨bx, ox, none⟩) x.length cx] w (Ans w (Pth.memOut v key cs x)) := by
  have hks := textOk_size ht
  have hlen := (Pth.lens hv).2
  have ROWS := hide (fun W (h : Below w.heap.size w W) => And.intro (hrow.below h hb) (And.intro (hrow'.below h hb') (hrowx.below h hbx)))
  have HGK := hide (fun W (h : Below w.heap.size w W) => implGetKey_any v b off cap key W (hrow.below h hb) (Nat.lt_of_lt_of_le hb h.size) (by omega) hcap (Pth.oks hv) (by omega))
  have HSK := hide (fun W (h : Below w.heap.size w W) u b2 c2 (hu : M.valueFault u = 0) (r : Row W b2 0 u) (hb2 : b2 < W.heap.size) (hc2 : u.length ≤ c2) => implSetKey_any v b off cap key u b2 0 c2 W (hrow.below h hb) (Nat.lt_of_lt_of_le hb h.size) (by omega) hcap (Pth.oks hv) r hb2 (by have := (Pth.lens hu).2; omega) hc2 (Pth.oks hu) (by omega))
  rw [gk_ok hv ht] at HGK
  have HGD := hide (Pth.get_gd hv key)
  have HIH := hide (fun u b2 c2 W (h : Below w.heap.size w W) hu r hb2 hc2 => ih.out u b2 0 c2 b' o cap' bx ox cx W hu r hb2 hc2 (hrow'.below h hb') (Nat.lt_of_lt_of_le hb' h.size) hcap' hc' (hrowx.below h hbx) (Nat.lt_of_lt_of_le hbx h.size) hcx)
  have SGD := hide (fun u (hu : M.valueFault u = 0) => Pth.setS_gd hu hx cs)
  have B0 : ∀ o, Below w.heap.size w (w.alloc o) := fun o => (Below.refl _ _).alloc (Nat.le_refl _) o
  have HB0 := hide B0
  clear ih B0 hrow hrow' hrowx
  generalize hR : getOut v key = R at *
  have HRR := hide hR
  clear hR
  obtain ⟨rc, rl⟩ := R
  go_enter Tryz.func139, Tryz.ntmps139
  go_wp2_with fail
  refine ((unhide HGK) _ ((unhide HB0) _)).mono ?_
  rintro e1 w1 ⟨s1, rfl, hr1, hb1⟩
  simp only [World.size_alloc] at hr1 hb1
  have hR1 : Own w1 w.heap.size 59 [.int .i64 0, .slice none 0 0] := Own.below ⟨_, heap_alloc_new _ _, rfl⟩ hb1 (by omega)
  have B1 : Below w.heap.size w w1 := ((unhide HB0) _).trans (hb1.mono (by omega))
  have L1 := hb1.size
  simp only [World.size_alloc] at L1
  obtain ⟨a1, n1, c1, rfl⟩ := hr1.shape
  obtain ⟨W1, hW1⟩ : ∃ W1, W1 = w1.alloc (.cells #[.int .i64 rc, .slice a1 n1 c1] 59) := ⟨_, rfl⟩
  have O1 : Own W1 w1.heap.size 59 [.int .i64 rc, .slice a1 n1 c1] := by rw [hW1]; exact ⟨_, heap_alloc_new _ _, rfl⟩
  have R1 : Own W1 w.heap.size 59 [.int .i64 0, .slice none 0 0] := by rw [hW1]; exact hR1.alloc _
  have V1 : Res W1 (w.heap.size + 1) (.slice a1 n1 c1) rl := by rw [hW1]; exact hr1.alloc _
  have C1 : Below w.heap.size w W1 := by rw [hW1]; exact B1.alloc B1.size _
  have S1 : w1.heap.size < W1.heap.size := by rw [hW1]; simp
  clear hR1 hr1 hb1 B1 HGK
  generalize hg1 : w1.heap.size = g1 at *
  have p0 := R1.cell 0
  have p1 := R1.cell 1
  have y0 := R1.frozen 0
  have y1 := R1.frozen 1
  have q0 := O1.cell 0
  have q1 := O1.cell 1
  simp only [List.getElem?_cons_zero, List.getElem?_cons_succ] at p0 p1 q0 q1
  go_upto_region 2 with fail
  rw [← hW1]
  clear hW1 hg1
  by_cases hz : rc = 0
  · subst hz
    have hrl := (unhide HGD).ok rfl
    obtain ⟨b1, c1', hsh, hc1, hl1, hlt1, hrw1⟩ := V1.rowedQ (Pth.val_ne hrl)
    simp only [Value.slice.injEq] at hsh
    obtain ⟨rfl, rfl, rfl⟩ := hsh
    have HC := hide ((unhide HIH) rl b1 c1 W1 C1 hrl hrw1 hlt1 hc1)
    have SG := hide ((unhide SGD) rl hrl)
    have EIN := hide (fun R h2 hz => Pth.mem_in (cs := cs) (x := x) (R := R) (unhide HRR) h2 hz)
    have EOK := hide (fun l2 h2 => Pth.mem_ok (cs := cs) (x := x) (l2 := l2) (unhide HRR) h2)
    clear V1 hrw1 HIH SGD HRR HGD
    generalize hR2 : Pth.setS rl cs x = R2 at *
    have HR2 := hide hR2
    clear hR2
    obtain ⟨rc2, rl2⟩ := R2
    have B1 := Below.refl W1.heap.size W1
    go_wp2_with fail
    refine (unhide HC).mono ?_
    rintro e2 w2 ⟨s2, rfl, hr2, hb2⟩
    obtain ⟨a2, n2, c2, rfl⟩ := hr2.shape
    obtain ⟨W2, hW2⟩ : ∃ W2, W2 = w2.alloc (.cells #[.int .i64 rc2, .slice a2 n2 c2] 59) := ⟨_, rfl⟩
    have O2 : Own W2 w2.heap.size 59 [.int .i64 rc2, .slice a2 n2 c2] := by rw [hW2]; exact ⟨_, heap_alloc_new _ _, rfl⟩
    have R2 : Own W2 w.heap.size 59 [.int .i64 0, .slice none 0 0] := by rw [hW2]; exact (R1.below hb2 R1.lt).alloc _
    have V2 : Res W2 (w.heap.size + 1) (.slice a2 n2 c2) rl2 := by rw [hW2]; exact (hr2.alloc _).mono (by omega)
    have C2 : Below w.heap.size w W2 := by rw [hW2]; exact (C1.trans (hb2.mono C1.size)).alloc (by have := C1.size; have := hb2.size; omega) _
    clear p0 p1 y0 y1 q0 q1 O1 R1 hr2 hb2 HC B1 C1
    generalize hg2 : w2.heap.size = g2 at *
    have p0 := R2.cell 0
    have p1 := R2.cell 1
    have y0 := R2.frozen 0
    have y1 := R2.frozen 1
    have q0 := O2.cell 0
    have q1 := O2.cell 1
    simp only [List.getElem?_cons_zero, List.getElem?_cons_succ] at p0 p1 q0 q1
    go_upto_region 5 with fail
    rw [← hW2]
    clear hW2 hg2
    by_cases hz2 : rc2 = 0
    · subst hz2
      have hr0 := (unhide SG).ok rfl
      obtain ⟨b2, c2', hsh, hc2, hl2, hlt2, hrw2⟩ := V2.rowedQ (Pth.val_ne hr0)
      simp only [Value.slice.injEq] at hsh
      obtain ⟨rfl, rfl, rfl⟩ := hsh
      have HC := hide ((unhide HSK) W2 C2 rl2 b2 c2 hr0 hrw2 hlt2 hc2)
      have E := hide ((unhide EOK) rl2 rfl)
      have R2' := hide R2
      clear V2 hrw2 SG EIN EOK HR2 HSK O2 R2
      generalize setOut v key rl2 = R3 at *
      obtain ⟨rc3, rl3⟩ := R3
      go_wp2_with fail
      refine (unhide HC).mono ?_
      rintro e3 w3 ⟨s3, rfl, hr3, hb3⟩
      obtain ⟨a3, n3, c3, rfl⟩ := hr3.shape
      have R3 := (unhide R2').below hb3 (unhide R2').lt
      have F := hide (Pth.ret (hr3.mono (by have := (unhide R2').lt; omega)) (C2.trans (hb3.mono C2.size)))
      clear p0 p1 y0 y1 q0 q1 hr3 hb3 HC
      have p0 := R3.cell 0
      have p1 := R3.cell 1
      have y0 := R3.frozen 0
      have y1 := R3.frozen 1
      simp only [List.getElem?_cons_zero, List.getElem?_cons_succ] at p0 p1
      go_wp2_with fail
      refine bodyPost_ret (v := .agg #[.int .i64 rc3, .slice a3 n3 c3]) (by simp [results, Tryz.results139, go_sem, p0, p1]) rfl (ans_of (unhide E) ((unhide F) _ _).1 ((unhide F) _ _).2)
    · have E := hide ((unhide EIN) _ rfl hz2)
      have F := hide (Pth.ret V2 C2)
      have hz' : (rc2 == 0) = false := by simp [hz2]
      clear V2 SG EIN EOK HR2 HSK O2 R2 hz2
      go_wp2_with fail
      refine bodyPost_ret (v := .agg #[.int .i64 rc2, .slice a2 n2 c2]) (by simp [results, Tryz.results139, go_sem, p0, p1]) rfl (ans_of (unhide E) ((unhide F) _ _).1 ((unhide F) _ _).2)
  · have E := hide (Pth.mem_no (cs := cs) (x := x) (unhide HRR) hz)
    have F := hide (Pth.ret V1 C1)
    have hz' : (rc == 0) = false := by simp [hz]
    clear V1 HIH SGD HRR HGD O1 R1 hz
    go_wp2_with fail
    refine bodyPost_ret (v := .agg #[.int .i64 rc, .slice a1 n1 c1]) (by simp [results, Tryz.results139, go_sem, p0, p1]) rfl (ans_of (unhide E) ((unhide F) _ _).1 ((unhide F) _ _).2)
end Go.Proofs.YtcglddahphkcpaaGreatDoor
