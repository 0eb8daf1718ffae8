/-
  An append as a step of a region that draws its order: the row that is appended may be nil or not. Rows of texts.
  A drawn region whose last operation breaks what held till then: an order of operations, where S holds behind each operation that is carried out ahead of number z. No word of the program is used here.
-/
import Derived.Test.YtodpmonbfecfdaaTreH
import Derived.Test.YtodpmonbfecfdaaMem
import Derived.Deep.RegionHeldLaw
import Derived.Deep.AppendLies
import Derived.Maps.AppendAt
import Derived.Laws.AppendOwnNone
import Derived.Deep.RegionHeld
namespace Go.Proofs.Ytodpmonbfecfdaa
open Go.RowKit
set_option linter.unusedVariables false

namespace Ap
theorem owns_empty {w : World} {base g : Nat} {e : TypeId} (hg : base ≤ g) (h : w.heap[g]? = some (.cells #[] e (0, 0))) : w.ownsRow base e 1 (.slice (some ⟨g, 0, none⟩) 0 0) 0 [] :=
  ⟨rfl, .inr ⟨g, 0, #[], rfl, hg, h, Nat.le_refl _, by unfold maxLen; omega, rfl, rfl⟩⟩
theorem below_alloc {a W : World} {o : Obj} (h : Below a.heap.size a W) : Below a.heap.size a (W.alloc o) := h.alloc h.size o
theorem one_of {W : World} {b : Nat} {x : Value} (h : W.cell? ⟨b, 0, none⟩ = some x) : ∀ j u, ([x] : List Value)[j]? = some u → W.cell? ((⟨b, 0, none⟩ : Addr).add j) = some u := by
  intro j u hu
  match j, hu with
  | 0, hu =>
    simp only [List.getElem?_cons_zero, Option.some.injEq] at hu
    subst hu
    have a0 : (⟨b, 0, none⟩ : Addr).add 0 = ⟨b, 0, none⟩ := by simp [Addr.add]
    rw [a0]; exact h
theorem heapE (wr : World) (T : TypeId) : (wr.alloc (.cells #[] T)).drew.heap[wr.heap.size]? = some (.cells #[] T (0, 0)) := heap_alloc_new _ _
theorem heapEK (wr : World) (T : TypeId) (x : Value) : ((wr.alloc (.cells #[] T)).alloc (.cells #[x] T)).drew.heap[wr.heap.size]? = some (.cells #[] T (0, 0)) := (Below.heap_alloc _ _ _ (by simp)).trans (heap_alloc_new _ _)
theorem cellEK (wr : World) (T : TypeId) (x : Value) : ((wr.alloc (.cells #[] T)).alloc (.cells #[x] T)).drew.cell? ⟨wr.heap.size + 1, 0, none⟩ = some x := by
  have := World.cell?_alloc_mark (wr.alloc (.cells #[] T)) #[x] T (0, 0) 0
  rw [World.size_alloc] at this
  exact this
theorem heapKE (wr : World) (T : TypeId) (x : Value) : ((wr.alloc (.cells #[x] T)).alloc (.cells #[] T)).drew.heap[wr.heap.size + 1]? = some (.cells #[] T (0, 0)) := by
  have := heap_alloc_new (wr.alloc (.cells #[x] T)) (.cells #[] T)
  rw [World.size_alloc] at this
  exact this
theorem cellKE (wr : World) (T : TypeId) (x : Value) : ((wr.alloc (.cells #[x] T)).alloc (.cells #[] T)).drew.cell? ⟨wr.heap.size, 0, none⟩ = some x :=
  (((Below.refl (wr.alloc (.cells #[x] T)).heap.size (wr.alloc (.cells #[x] T))).alloc (Nat.le_refl _) (.cells #[] T)).cell (p := ⟨wr.heap.size, 0, none⟩) (by simp)).trans (World.cell?_alloc_mark wr #[x] T (0, 0) 0)
theorem ne_own (g h n c : Nat) (hgh : g ≠ h) : some g ≠ (Value.slice (some ⟨h, 0, none⟩) n c).ownBlock := fun e => hgh (Option.some.inj e)
section
variable {P : Program} (w : World)
theorem step_append_any {ops : Array Oper} {o : Oper} {a : Act} {K : Act → World → Prop} {Q : Exit → Act → World → Prop} {E : Prop} (hgd : o.guard = none) (s x : Operand) (t : TypeId)
    (ho : o.op = .call { callee := .builtin .append, args := #[s, x], argTypes := #[t, t] })
    (base : Nat) (e : TypeId) (i : TypeInfo) (z : Value) (size bytes : Nat) (ht : P.underlying t = some (.slice e)) (hi : P.info? e = some i) (hz : i.zero = some z)
    (hsize : i.size = size) (hby : i.bytes = bytes) (hzs : z.cells.size = size) (hsz : 0 < size)
    (v : Value) (n : Nat) (xs : List Value) (hs : a.eval s = v) (hown : w.ownsRow base e size v n xs)
    (ad : Addr) (m c : Nat) (news : List Value) (hx : a.eval x = .slice (some ad) m c) (hl : news.length = m * size) (hnews : ∀ j u, news[j]? = some u → w.cell? (ad.add j) = some u) (h1 : ∀ u ∈ news, u.oneCell' = true)
    (h63 : n + m ≤ maxLen) (hbytes : (n + m) * bytes ≤ 140737488355328) (hbase : base ≤ w.heap.size)
    (h : ∀ v' w', w'.ownsRow base e size v' (n + m) (xs ++ news) → w.grownBy w' v.ownBlock → K (a.put o.dst v') w') :
    if Region.wanted o (yielded ops a.tmps) = true then Oper.wp P o a w K Q else E := by
  have hw : Region.wanted o (yielded ops a.tmps) = true := by simp [Region.wanted, hgd]
  rw [if_pos hw]
  obtain ⟨v', w', hr, h2, h3, _⟩ := run_append_own_at (P := P) w base t o.type e i z size bytes ht hi hz hsize hby hzs hsz v n xs hown ad m c news hl hnews h1 h63 hbytes hbase
  unfold Oper.wp execOp
  simp only [ho, resolve, invoke, builtin, Sem.run_bind, Sem.run_pure, Result.andThen_ok, List.map_toArray, List.map_cons, List.map_nil, hs, hx, hr]
  exact h v' w' h2 h3
/-- The row that is appended is one that lies somewhere, or nil. -/
theorem step_append_row {ops : Array Oper} {o : Oper} {a : Act} {K : Act → World → Prop} {Q : Exit → Act → World → Prop} {E : Prop} (hgd : o.guard = none) (s x : Operand) (t : TypeId)
    (ho : o.op = .call { callee := .builtin .append, args := #[s, x], argTypes := #[t, t] })
    (base : Nat) (e : TypeId) (i : TypeInfo) (z : Value) (bytes : Nat) (ht : P.underlying t = some (.slice e)) (hi : P.info? e = some i) (hz : i.zero = some z)
    (hsize : i.size = 1) (hby : i.bytes = bytes) (hzs : z.cells.size = 1)
    (v : Value) (n : Nat) (xs : List Value) (hs : a.eval s = v) (hown : w.ownsRow base e 1 v n xs)
    (base2 : Nat) (e2 : TypeId) (v2 : Value) (m : Nat) (ys : List Value) (hx : a.eval x = v2) (hown2 : w.ownsRow base2 e2 1 v2 m ys) (h1 : ∀ u ∈ ys, u.oneCell' = true)
    (h63 : n + m ≤ maxLen) (hbytes : (n + m) * bytes ≤ 140737488355328) (hbase : base ≤ w.heap.size)
    (h : ∀ v' w', w'.ownsRow base e 1 v' (n + m) (xs ++ ys) → w.grownBy w' v.ownBlock → K (a.put o.dst v') w') :
    if Region.wanted o (yielded ops a.tmps) = true then Oper.wp P o a w K Q else E := by
  have hown2' := hown2
  obtain ⟨hlen, ⟨hv2, h0⟩ | ⟨g, cap, cur, hv2, hg, hh, hnc, hcm, hcs, htk⟩⟩ := hown2
  · subst h0
    have hys : ys = [] := List.length_eq_zero_iff.1 (by omega)
    subst hys
    have hw : Region.wanted o (yielded ops a.tmps) = true := by simp [Region.wanted, hgd]
    rw [if_pos hw]
    have hrun := run_append_owned_none (P := P) (w := w) base t o.type e i 1 ht hi v n xs hown
    unfold Oper.wp
    simp [execOp, ho, resolve, invoke, builtin, hs, hx.trans hv2, hrun, Result.andThen]
    exact h v w (by simpa using hown) ⟨rfl, rfl, rfl, Nat.le_refl _, fun _ _ _ => rfl⟩
  · refine step_append_any w hgd s x t ho base e i z 1 bytes ht hi hz hsize hby hzs (by decide) v n xs hs hown ⟨g, 0, none⟩ m cap ys (hx.trans hv2) hlen (fun j u hu => ?_) h1 h63 hbytes hbase h
    have hj : j < m := by have := (List.getElem?_eq_some_iff.1 hu).1; omega
    have ha : (⟨g, 0, none⟩ : Addr).add j = ⟨g, j, none⟩ := by
      unfold Addr.add; split <;> simp_all
    rw [hv2] at hown2'
    rw [ha, Tr.owns_cell hown2' j hj]
    exact hu
end
end Ap
theorem Tr.Kp.owns {B : Nat} {w w' : World} {base : Nat} {e : TypeId} {size : Nat} {v : Value} {n : Nat} {xs : List Value} (h : Tr.Kp B w w') (ho : w.ownsRow base e size v n xs) (ht : e ≠ 2) : w'.ownsRow base e size v n xs := by
  obtain ⟨h1, h2 | ⟨g, cap, cur, h3, h4, h5, h6⟩⟩ := ho
  · exact ⟨h1, .inl h2⟩
  · refine ⟨h1, .inr ⟨g, cap, cur, h3, h4, (h.2 g (Array.getElem?_eq_some_iff.1 h5).1 ?_).trans h5, h6⟩⟩
    intro c fz hc
    rw [h5] at hc
    simp only [Option.some.injEq, Obj.cells.injEq] at hc
    exact ht hc.2.1
theorem Tr.strs_plain (ss : List ByteArray) : ∀ u ∈ ss.map Value.string, u.oneCell' = true := by
  intro u hu
  obtain ⟨s, _, rfl⟩ := List.mem_map.1 hu
  rfl
theorem Tr.infoT : (Try.prog.info? 9).map (fun i => (i.zero, i.size, i.bytes)) = some (some (.string ByteArray.empty), 1, 16) := by kernel_rfl

end Go.Proofs.Ytodpmonbfecfdaa

namespace Go.Proofs.Ytodpmonbfecfdaa
open Go.RowKit
set_option linter.unusedVariables false
namespace Z
section
variable {P : Program} {ops : Array Oper} {Q : Exit → Act → World → Prop} {md : Region.Mode} {S : World → Prop} {z : Nat}

/-- Whatever order is picked from here on; behind every operation S holds, as long as z has not come up. -/
def any (P : Program) (md : Region.Mode) (ops : Array Oper) (Q : Exit → Act → World → Prop) (S : World → Prop) (z : Nat) : Nat → Array Bool → Act → World → Prop
  | 0, listed, a, w => Region.ready md ops listed = [] ∧ Q .normal a w
  | fuel + 1, listed, a, w =>
    (Region.ready md ops listed = [] → Q .normal a w) ∧
    ∀ i ∈ Region.ready md ops listed, wpOp P ops Q i (fun a' w' => (i ≠ z → S w') ∧ any P md ops Q S z fuel (listed.setIfInBounds i true) a' w') a w

theorem any_is : ∀ (fuel : Nat) (listed : Array Bool) (a : Act) (w : World), any P md ops Q S z fuel listed a w → wpAny P md ops Q fuel listed a w
  | 0, _, _, _, h => h
  | fuel + 1, _, _, _, h => ⟨h.1, fun i hi => wpOp_mono (fun a' w' h' => any_is fuel _ a' w' h'.2) (h.2 i hi)⟩

/-- z waits for i. -/
def waits (md : Region.Mode) (ops : Array Oper) (z i : Nat) : Bool := match ops[z]? with
  | some oz => oz.after.any fun e => Region.binds md e && e.on == i
  | none => false

/-- Two that may both come up: neither waits for the other. -/
theorem both_up {listed : Array Bool} {i j : Nat} (hi : i ∈ Region.ready md ops listed) (hj : j ∈ Region.ready md ops listed) :
    ∃ oj, ops[j]? = some oj ∧ listed.getD j true = false ∧ ∀ e ∈ oj.after, Region.binds md e = true → e.on ≠ i := by
  obtain ⟨u, o, ho, hall⟩ := mem_ready.1 hj
  refine ⟨o, ho, u, ?_⟩
  rintro e he hb rfl
  have x := hall e he hb
  have y := (mem_ready.1 hi).1
  cases q : listed[e.on]? with
  | none => simp [q] at x
  | some t => cases t <;> simp [q] at x y
/-- Whatever has not come up and does not wait for i is apart from it. -/
def Apart (md : Region.Mode) (ops : Array Oper) (i : Nat) (oi : Oper) (listed : Array Bool) : Prop :=
  ∀ j oj, ops[j]? = some oj → j ≠ i → listed.getD j true = false → (∀ e ∈ oj.after, Region.binds md e = true → e.on ≠ i) → oi.apart ops oj = true
theorem Apart.more {i : Nat} {oi : Oper} {listed : Array Bool} (h : Apart md ops i oi listed) (j : Nat) (hj : listed.getD j true = false) : Apart md ops i oi (listed.setIfInBounds j true) := by
  intro k ok hk hki hun
  rcases Nat.decEq j k with hjk | rfl
  · exact h k ok hk hki (by rwa [getD_set_ne true hjk] at hun)
  · exact h j ok hk hki hj

theorem first {i : Nat} {oi : Oper} {v : Value} (hi : ops[i]? = some oi) (hsel : ∀ (j : Nat) (o : Oper) cs b, ops[j]? = some o → o.op ≠ .select cs b)
    (hQ : ∀ c a w, Q (.panic c) (a.put oi.dst v) w → Q (.panic c) a w) (hz : waits md ops z i = true) (fuel : Nat) :
    ∀ (listed : Array Bool) (a : Act) (w : World), Apart md ops i oi listed → i ∈ Region.ready md ops listed → YieldsIf P ops S oi v a → S w →
      any P md ops Q S z fuel (listed.setIfInBounds i true) (a.put oi.dst v) w → any P md ops Q S z (fuel + 1) listed a w := by
  induction fuel with
  | zero =>
    intro listed a w _ up hy hS H
    refine ⟨fun none => absurd up (by rw [none]; simp), fun j hj => ?_⟩
    rcases Nat.decEq j i with ne | rfl
    · exact absurd (ready_mono hj ne) (by rw [H.1]; simp)
    · exact hy.wpOp hi hS ⟨fun _ => hS, H⟩
  | succ fuel ih =>
    intro listed a w hap up hy hS H
    refine ⟨fun none => absurd up (by rw [none]; simp), fun j hj => ?_⟩
    rcases Nat.decEq j i with ne | rfl
    · obtain ⟨oj, hoj, hun, hno⟩ := both_up up hj
      have hjz : j ≠ z := by
        rintro rfl
        unfold waits at hz
        rw [hoj] at hz
        simp only [Array.any_eq_true', Bool.and_eq_true, beq_iff_eq] at hz
        obtain ⟨e, he, hb, ho⟩ := hz
        exact hno e he hb ho
      have step := wpOp_putIf hoj (hap j oj hoj ne hun hno) (fun cs b => hsel i oi cs b hi) (fun cs b => hsel j oj cs b hoj) hQ hy (H.2 j (ready_mono hj ne))
      refine wpOp_mono (fun a' w' ⟨y', s', rest⟩ => ⟨s', ih _ a' w' (hap.more j hun) (ready_mono up (Ne.symm ne)) y' (s' hjz) ?_⟩) step
      rwa [Array.setIfInBounds_comm _ _ ne]
    · exact hy.wpOp hi hS ⟨fun _ => hS, H⟩

/-- An operation that only reads, taken first. -/
theorem take {i d : Nat} {oi : Oper} {v : Value} {fuel : Nat} {listed : Array Bool} {a : Act} {w : World} (hi : ops[i]? = some oi) (hd : oi.dst = some d)
    (hs : Region.noSelect ops = true) (hf : Region.free md ops listed i = true) (hr : (Region.ready md ops listed).contains i = true) (hz : waits md ops z i = true)
    (hQ : ∀ c a w, Q (.panic c) (a.put (some d) v) w → Q (.panic c) a w) (hy : YieldsIf P ops S oi v a) (hS : S w)
    (h : any P md ops Q S z fuel (listed.setIfInBounds i true) (a.put (some d) v) w) : any P md ops Q S z (fuel + 1) listed a w :=
  first hi (Region.noSelect_spec hs) (by rw [hd]; exact hQ) hz fuel listed a w (Region.free_spec hi hf) (by simpa using hr) hy hS (by rw [hd]; exact h)

/-- Each of those that may come up comes up next. -/
def All (P : Program) (md : Region.Mode) (ops : Array Oper) (Q : Exit → Act → World → Prop) (S : World → Prop) (z : Nat) (fuel : Nat) (listed : Array Bool) (a : Act) (w : World) (rs : List Nat) : Prop :=
  ∀ i ∈ rs, wpOp P ops Q i (fun a' w' => (i ≠ z → S w') ∧ any P md ops Q S z fuel (listed.setIfInBounds i true) a' w') a w
theorem All.nil {fuel : Nat} {listed : Array Bool} {a : Act} {w : World} : All P md ops Q S z fuel listed a w [] := fun _ h => by cases h
theorem All.cons {fuel : Nat} {listed : Array Bool} {a : Act} {w : World} {i : Nat} {o : Oper} {rs : List Nat} (ho : ops[i]? = some o)
    (h : ∀ K' : Act → World → Prop, Shut (∀ a w, (i ≠ z → S w) → any P md ops Q S z fuel (listed.setIfInBounds i true) a w → K' a w) → if Region.wanted o (yielded ops a.tmps) = true then Oper.wp P o a w K' Q else K' (a.put o.dst undef) w)
    (hs : All P md ops Q S z fuel listed a w rs) : All P md ops Q S z fuel listed a w (i :: rs) := fun j hj => by
  rcases List.mem_cons.1 hj with rfl | hj
  · exact wpOp_step ho (fun K' hK => h K' (fun a w hS hW => hK a w ⟨hS, hW⟩))
  · exact hs j hj
theorem ready {rs : List Nat} {fuel : Nat} {listed : Array Bool} {a : Act} {w : World} (hr : Region.ready md ops listed = rs) (hne : rs ≠ [])
    (h : All P md ops Q S z fuel listed a w rs) : any P md ops Q S z (fuel + 1) listed a w := ⟨fun h0 => absurd (hr ▸ h0) hne, hr ▸ h⟩
theorem done {listed : Array Bool} {a : Act} {w : World} (hr : Region.ready md ops listed = []) (h : Q .normal a w) : ∀ fuel, any P md ops Q S z fuel listed a w
  | 0 => ⟨hr, h⟩
  | _ + 1 => ⟨fun _ => h, by rw [hr]; simp⟩
/-- An operation of those that may come up, run to its end in the world at hand. -/
theorem run_cons {i : Nat} {oi : Oper} {fuel : Nat} {listed : Array Bool} {a a' : Act} {w w' : World} {rs : List Nat} (hi : ops[i]? = some oi)
    (hw : Region.wanted oi (yielded ops a.tmps) = true) (hrun : ∀ K : Act → World → Prop, Shut (K a' w') → Oper.wp P oi a w K Q) (hS : i ≠ z → S w')
    (h : any P md ops Q S z fuel (listed.setIfInBounds i true) a' w') (hs : All P md ops Q S z fuel listed a w rs) : All P md ops Q S z fuel listed a w (i :: rs) :=
  All.cons hi (fun K hK => by
    rw [if_pos hw]
    exact hrun K (hK.out _ _ hS h)) hs
theorem val_cons {i d : Nat} {oi : Oper} {v : Value} {fuel : Nat} {listed : Array Bool} {a : Act} {w w' : World} {rs : List Nat} (hi : ops[i]? = some oi)
    (hw : Region.wanted oi (yielded ops a.tmps) = true) (hrun : ∀ K : Act → World → Prop, Shut (K (a.put (some d) v) w') → Oper.wp P oi a w K Q) (hS : i ≠ z → S w')
    (h : any P md ops Q S z fuel (listed.setIfInBounds i true) (a.put (some d) v) w') (hs : All P md ops Q S z fuel listed a w rs) : All P md ops Q S z fuel listed a w (i :: rs) :=
  run_cons hi hw hrun hS h hs
theorem last_at {oz : Oper} {fuel : Nat} {listed : Array Bool} {a : Act} {w w' : World} (hi : ops[z]? = some oz) (hr : Region.ready md ops listed = [z])
    (hw : Region.wanted oz (yielded ops a.tmps) = true) (hrun : ∀ K : Act → World → Prop, Shut (K a w') → Oper.wp P oz a w K Q)
    (h : any P md ops Q S z fuel (listed.setIfInBounds z true) a w') : any P md ops Q S z (fuel + 1) listed a w :=
  ready hr (by simp) (run_cons hi hw hrun (fun h => absurd rfl h) h All.nil)
/-- A call (or an append), whose world behind is told by a law. -/
theorem call_cons {i : Nat} {oi : Oper} {fuel : Nat} {listed : Array Bool} {a : Act} {w : World} {rs : List Nat} (hi : ops[i]? = some oi)
    (hw : Region.wanted oi (yielded ops a.tmps) = true) (h : ∀ K : Act → World → Prop, Shut (∀ a' w', (i ≠ z → S w') → any P md ops Q S z fuel (listed.setIfInBounds i true) a' w' → K a' w') → Oper.wp P oi a w K Q)
    (hs : All P md ops Q S z fuel listed a w rs) : All P md ops Q S z fuel listed a w (i :: rs) :=
  All.cons hi (fun K hK => by
    rw [if_pos hw]
    exact h K hK) hs
/-- The beginning: from the world behind the draw. -/
theorem region {id : Nat} {a : Act} {w : World} (z : Nat) (S : World → Prop) (hm : P.follows .mixedOrders = true) (hS : S w.drew)
    (h : S w.drew → any P .any ops Q S z ops.size (Array.replicate ops.size false) a w.drew) : (Code.region id ops true).wp P Q a w :=
  wp_region_any hm (any_is _ _ _ _ (h hS))
end
end Z
end Go.Proofs.Ytodpmonbfecfdaa
