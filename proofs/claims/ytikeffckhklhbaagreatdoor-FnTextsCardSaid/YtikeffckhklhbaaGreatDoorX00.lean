/-
  The plain mathematics of chapter 1: cells, the code of a cell, and where a value ends and how deep it is, as plain functions of lists. No word of the program is used here.
  Cells in memory: what it is that a list of cells lies in a row of memory, and what keeps it there. No word of the program is used here.
  A drawn region whose last operation breaks what held till then: an order of operations, where S holds behind each operation that is carried out ahead of number z. No word of the program is used here.
-/
import Derived.Deep.RegionHeld
import Derived.WalkKit
namespace Go.Proofs.YtikeffckhklhbaaGreatDoor
open Go.RowKit
theorem hide {p : Prop} (h : p) : Hid p := h
theorem unhide {p : Prop} (h : Hid p) : p := h
namespace M

/-- A cell, by its five fields. -/
structure Cl where
  kind : Int
  num : Int
  text : ByteArray
  key : ByteArray
  n : Int

/-- What each field must be to lie in memory. -/
def Cl.ok (c : Cl) : Prop :=
  (-9223372036854775808 ≤ c.kind ∧ c.kind ≤ 9223372036854775807) ∧ (-9223372036854775808 ≤ c.num ∧ c.num ≤ 9223372036854775807) ∧
  (-9223372036854775808 ≤ c.n ∧ c.n ≤ 9223372036854775807) ∧ c.text.size ≤ 9223372036854775807 ∧ c.key.size ≤ 9223372036854775807

def zero : Cl := ⟨0, 0, ByteArray.empty, ByteArray.empty, 0⟩

/-- Its five words of memory. -/
def Cl.vals (c : Cl) : List Value := [.int .i64 c.kind, .int .i64 c.num, .string c.text, .string c.key, .int .i64 c.n]
def Cl.agg (c : Cl) : Value := .agg #[.int .i64 c.kind, .int .i64 c.num, .string c.text, .string c.key, .int .i64 c.n]

def byteOk (b : UInt8) : Bool := decide (32 ≤ (b.toNat : Int)) && decide ((b.toNat : Int) ≤ 126)
def textOk (s : ByteArray) : Bool := decide (s.size ≤ 60) && s.data.toList.all byteOk

def cellCode (c : Cl) : Int :=
  if c.kind < 0 ∨ 6 < c.kind then 6
  else if (c.num ≠ 0 ∧ c.kind ≠ 3) ∨ (c.text.toList ≠ [] ∧ c.kind ≠ 4) ∨ (c.n ≠ 0 ∧ c.kind ≠ 5 ∧ c.kind ≠ 6) then 1
  else if c.num < -1000000000000000 ∨ 1000000000000000 < c.num ∨ c.n < 0 ∨ 200 < c.n then 3
  else if textOk c.text = true ∧ textOk c.key = true then 0 else 5

/-- The code of the first cell that has one. -/
def firstCode : List Cl → Int
  | [] => 0
  | c :: r => if cellCode c = 0 then firstCode r else cellCode c

def keyLe (a b : ByteArray) : Bool := Op.bytesLess a.toList b.toList || (a.toList == b.toList)

/-- May the k-th part of a cell c not begin at place e, where the key ahead of it was last? -/
def bad (v : List Cl) (c : Cl) (k : Nat) (e : Nat) (last : ByteArray) : Bool :=
  if e < v.length then (decide (c.kind = 5) && decide ((v.getD e zero).key.toList ≠ [])) || (decide (c.kind = 6) && decide (0 < k) && keyLe (v.getD e zero).key last)
  else true

def kids (rec : Nat → Option (Nat × Nat)) (v : List Cl) (c : Cl) : Nat → Nat → Nat → Nat → ByteArray → Option (Nat × Nat)
  | 0, _, e, d, _ => some (e, d)
  | m + 1, k, e, d, last => if bad v c k e last = true then none else
    match rec e with
    | none => none
    | some (e', d') => kids rec v c m (k + 1) e' (max d d') (v.getD e zero).key

/-- Where the value at a place ends, and how deep it is. -/
def walk (v : List Cl) : Nat → Nat → Option (Nat × Nat)
  | 0, _ => none
  | f + 1, at' => (kids (walk v f) v (v.getD at' zero) (v.getD at' zero).n.toNat 0 (at' + 1) 0 ByteArray.empty).map fun r => (r.1, r.2 + 1)

theorem kids_bd (rec : Nat → Option (Nat × Nat)) (v : List Cl) (c : Cl) (L : Nat) (hrec : ∀ e, e < v.length → ∀ r, rec e = some r → e < r.1 ∧ r.1 ≤ v.length ∧ r.2 ≤ L) (m : Nat) :
    ∀ k e d last r, e ≤ v.length → d ≤ L → kids rec v c m k e d last = some r → e ≤ r.1 ∧ r.1 ≤ v.length ∧ d ≤ r.2 ∧ r.2 ≤ L := by
  induction m with
  | zero => intro k e d last r he hd h; simp only [kids, Option.some.injEq] at h; subst h; exact ⟨Nat.le_refl _, he, Nat.le_refl _, hd⟩
  | succ m ih =>
    intro k e d last r he hd h
    simp only [kids] at h
    split at h
    · cases h
    · rename_i hb
      have hlt : e < v.length := by
        by_cases hx : e < v.length
        · exact hx
        · exact absurd (show bad v c k e last = true by unfold bad; rw [if_neg hx]) hb
      split at h
      · cases h
      · rename_i e' d' hre
        have h1 := hrec e hlt _ hre
        simp only at h1
        have := ih (k + 1) e' (max d d') _ r h1.2.1 (by omega) h
        omega

theorem walk_bd (v : List Cl) (f : Nat) : ∀ e, e < v.length → ∀ r, walk v f e = some r → e < r.1 ∧ r.1 ≤ v.length ∧ r.2 ≤ f := by
  induction f with
  | zero => intro e _ r h; cases h
  | succ f ih =>
    intro e he r h
    simp only [walk, Option.map_eq_some_iff] at h
    obtain ⟨q, hq, rfl⟩ := h
    have := kids_bd (walk v f) v _ f ih _ _ _ _ _ q (by omega) (by omega) hq
    simp only
    omega

def valueFault (v : List Cl) : Int :=
  if v.length < 1 ∨ 200 < v.length then 2
  else if firstCode v ≠ 0 then firstCode v
  else match walk v v.length 0 with
    | none => 1
    | some (e, d) => if e ≠ v.length ∨ (v.getD 0 zero).key.toList ≠ [] then 1 else if 20 < d then 7 else 0

end M
end Go.Proofs.YtikeffckhklhbaaGreatDoor

namespace Go.Proofs.YtikeffckhklhbaaGreatDoor
open Go.RowKit

/-- The five words of a cell lie at an address. -/
def Cell5 (w : World) (b o : Nat) (c : M.Cl) : Prop :=
  w.cell? ⟨b, o, none⟩ = some (.int .i64 c.kind) ∧ w.cell? ⟨b, o + 1, none⟩ = some (.int .i64 c.num) ∧ w.cell? ⟨b, o + 2, none⟩ = some (.string c.text) ∧ w.cell? ⟨b, o + 3, none⟩ = some (.string c.key) ∧ w.cell? ⟨b, o + 4, none⟩ = some (.int .i64 c.n)

/-- The cells of a list lie one behind the other. -/
def Row (w : World) (b off : Nat) (l : List M.Cl) : Prop := ∀ i, i < l.length → Cell5 w b (off + i * 5) (l.getD i M.zero)

theorem Row.below {B : Nat} {w w' : World} {b off : Nat} {l : List M.Cl} (h : Row w b off l) (hb : Below B w w') (hB : b < B) : Row w' b off l := by
  intro i hi
  obtain ⟨h0, h1, h2, h3, h4⟩ := h i hi
  exact ⟨(hb.cell (by exact hB)).trans h0, (hb.cell (by exact hB)).trans h1, (hb.cell (by exact hB)).trans h2, (hb.cell (by exact hB)).trans h3, (hb.cell (by exact hB)).trans h4⟩

/-- Block b is a row that holds just the values xs, none of them frozen. -/
def Own (w : World) (b : Nat) (t : TypeId) (xs : List Value) : Prop := ∃ c : Array Value, w.heap[b]? = some (.cells c t (0, 0)) ∧ c.toList = xs

theorem Own.cell {w : World} {b : Nat} {t : TypeId} {xs : List Value} (h : Own w b t xs) (j : Nat) : w.cell? ⟨b, j, none⟩ = xs[j]? := by
  obtain ⟨c, hc, rfl⟩ := h
  rw [cell_of_row w b j c t (0, 0) hc]; simp

theorem Own.frozen {w : World} {b : Nat} {t : TypeId} {xs : List Value} (h : Own w b t xs) (j : Nat) : w.frozen? ⟨b, j, none⟩ = false := by
  obtain ⟨c, hc, rfl⟩ := h
  exact frozen_of_row w b j c t hc

theorem Own.lt {w : World} {b : Nat} {t : TypeId} {xs : List Value} (h : Own w b t xs) : b < w.heap.size := by
  obtain ⟨c, hc, _⟩ := h
  exact (Array.getElem?_eq_some_iff.1 hc).1

theorem Own.below {B : Nat} {w w' : World} {b : Nat} {t : TypeId} {xs : List Value} (h : Own w b t xs) (hb : Below B w w') (hB : b < B) : Own w' b t xs := by
  obtain ⟨c, hc, e⟩ := h
  exact ⟨c, (hb.block b hB).trans hc, e⟩

theorem Own.set {w : World} {b : Nat} {t : TypeId} {xs : List Value} (h : Own w b t xs) (j : Nat) (u : Value) : Own (w.setCell ⟨b, j, none⟩ u) b t (xs.set j u) := by
  obtain ⟨c, hc, rfl⟩ := h
  exact ⟨c.setIfInBounds j u, heap_setCell_same w b j c t u hc, by simp⟩

theorem Own.setOther {w : World} {b : Nat} {t : TypeId} {xs : List Value} (h : Own w b t xs) (p : Addr) (u : Value) (hp : b ≠ p.block) : Own (w.setCell p u) b t xs := by
  obtain ⟨c, hc, e⟩ := h
  exact ⟨c, (heap_setCell_other w p b u hp).trans hc, e⟩

theorem Own.alloc {w : World} {b : Nat} {t : TypeId} {xs : List Value} (h : Own w b t xs) (o : Obj) : Own (w.alloc o) b t xs := by
  have hl := h.lt
  obtain ⟨c, hc, e⟩ := h
  exact ⟨c, (Below.heap_alloc w o b hl).trans hc, e⟩

theorem Own.drew {w : World} {b : Nat} {t : TypeId} {xs : List Value} (h : Own w b t xs) : Own w.drew b t xs := h

/-- The values xs are the words of the first k cells of l, and as many others as are wanted for the rest. -/
def Words (xs : List Value) (l : List M.Cl) (k : Nat) : Prop :=
  xs.length = l.length * 5 ∧ ∀ i, i < k → xs[i * 5]? = some (.int .i64 (l.getD i M.zero).kind) ∧ xs[i * 5 + 1]? = some (.int .i64 (l.getD i M.zero).num) ∧ xs[i * 5 + 2]? = some (.string (l.getD i M.zero).text) ∧ xs[i * 5 + 3]? = some (.string (l.getD i M.zero).key) ∧ xs[i * 5 + 4]? = some (.int .i64 (l.getD i M.zero).n)

theorem getD_mem (l : List M.Cl) (k : Nat) (hk : k < l.length) : l.getD k M.zero ∈ l := by
  rw [List.getD_eq_getElem?_getD, List.getElem?_eq_getElem hk]; exact List.getElem_mem hk

theorem bytes_ext {a b : ByteArray} (h : a.toList = b.toList) : a = b := by
  rw [ByteArray.toList_eq, ByteArray.toList_eq] at h
  cases a; cases b
  simp only at h
  congr
  exact Array.toList_inj.1 h

end Go.Proofs.YtikeffckhklhbaaGreatDoor

namespace Go.Proofs.YtikeffckhklhbaaGreatDoor
open Go.RowKit
set_option linter.unusedVariables false
namespace Z
section
variable {P : Program} {ops : Array Oper} {Q : Exit → Act → World → Prop} {md : Region.Mode} {S : World → Prop} {z : Nat}

/-- Whatever order is picked from here on; behind every operation S holds, as long as z has not come up. -/
def any (P : Program) (md : Region.Mode) (ops : Array Oper) (Q : Exit → Act → World → Prop) (S : World → Prop) (z : Nat) : Nat → Array Bool → Act → World → Prop
  | 0, listed, a, w => Region.ready md ops listed = [] ∧ Q .normal a w
  | fuel + 1, listed, a, w =>
    (Region.ready md ops listed = [] → Q .normal a w) ∧
    ∀ i ∈ Region.ready md ops listed, wpOp P ops Q i (fun a' w' => (i ≠ z → S w') ∧ any P md ops Q S z fuel (listed.setIfInBounds i true) a' w') a w

theorem any_is : ∀ (fuel : Nat) (listed : Array Bool) (a : Act) (w : World), any P md ops Q S z fuel listed a w → wpAny P md ops Q fuel listed a w
  | 0, _, _, _, h => h
  | fuel + 1, _, _, _, h => ⟨h.1, fun i hi => wpOp_mono (fun a' w' h' => any_is fuel _ a' w' h'.2) (h.2 i hi)⟩

/-- z waits for i. -/
def waits (md : Region.Mode) (ops : Array Oper) (z i : Nat) : Bool := match ops[z]? with
  | some oz => oz.after.any fun e => Region.binds md e && e.on == i
  | none => false

/-- Two that may both come up: neither waits for the other. -/
theorem both_up {listed : Array Bool} {i j : Nat} (hi : i ∈ Region.ready md ops listed) (hj : j ∈ Region.ready md ops listed) :
    ∃ oj, ops[j]? = some oj ∧ listed.getD j true = false ∧ ∀ e ∈ oj.after, Region.binds md e = true → e.on ≠ i := by
  obtain ⟨u, o, ho, hall⟩ := mem_ready.1 hj
  refine ⟨o, ho, u, ?_⟩
  rintro e he hb rfl
  have x := hall e he hb
  have y := (mem_ready.1 hi).1
  cases q : listed[e.on]? with
  | none => simp [q] at x
  | some t => cases t <;> simp [q] at x y
/-- Whatever has not come up and does not wait for i is apart from it. -/
def Apart (md : Region.Mode) (ops : Array Oper) (i : Nat) (oi : Oper) (listed : Array Bool) : Prop :=
  ∀ j oj, ops[j]? = some oj → j ≠ i → listed.getD j true = false → (∀ e ∈ oj.after, Region.binds md e = true → e.on ≠ i) → oi.apart ops oj = true
theorem Apart.more {i : Nat} {oi : Oper} {listed : Array Bool} (h : Apart md ops i oi listed) (j : Nat) (hj : listed.getD j true = false) : Apart md ops i oi (listed.setIfInBounds j true) := by
  intro k ok hk hki hun
  rcases Nat.decEq j k with hjk | rfl
  · exact h k ok hk hki (by rwa [getD_set_ne true hjk] at hun)
  · exact h j ok hk hki hj

theorem first {i : Nat} {oi : Oper} {v : Value} (hi : ops[i]? = some oi) (hsel : ∀ (j : Nat) (o : Oper) cs b, ops[j]? = some o → o.op ≠ .select cs b)
    (hQ : ∀ c a w, Q (.panic c) (a.put oi.dst v) w → Q (.panic c) a w) (hz : waits md ops z i = true) (fuel : Nat) :
    ∀ (listed : Array Bool) (a : Act) (w : World), Apart md ops i oi listed → i ∈ Region.ready md ops listed → YieldsIf P ops S oi v a → S w →
      any P md ops Q S z fuel (listed.setIfInBounds i true) (a.put oi.dst v) w → any P md ops Q S z (fuel + 1) listed a w := by
  induction fuel with
  | zero =>
    intro listed a w _ up hy hS H
    refine ⟨fun none => absurd up (by rw [none]; simp), fun j hj => ?_⟩
    rcases Nat.decEq j i with ne | rfl
    · exact absurd (ready_mono hj ne) (by rw [H.1]; simp)
    · exact hy.wpOp hi hS ⟨fun _ => hS, H⟩
  | succ fuel ih =>
    intro listed a w hap up hy hS H
    refine ⟨fun none => absurd up (by rw [none]; simp), fun j hj => ?_⟩
    rcases Nat.decEq j i with ne | rfl
    · obtain ⟨oj, hoj, hun, hno⟩ := both_up up hj
      have hjz : j ≠ z := by
        rintro rfl
        unfold waits at hz
        rw [hoj] at hz
        simp only [Array.any_eq_true', Bool.and_eq_true, beq_iff_eq] at hz
        obtain ⟨e, he, hb, ho⟩ := hz
        exact hno e he hb ho
      have step := wpOp_putIf hoj (hap j oj hoj ne hun hno) (fun cs b => hsel i oi cs b hi) (fun cs b => hsel j oj cs b hoj) hQ hy (H.2 j (ready_mono hj ne))
      refine wpOp_mono (fun a' w' ⟨y', s', rest⟩ => ⟨s', ih _ a' w' (hap.more j hun) (ready_mono up (Ne.symm ne)) y' (s' hjz) ?_⟩) step
      rwa [Array.setIfInBounds_comm _ _ ne]
    · exact hy.wpOp hi hS ⟨fun _ => hS, H⟩

/-- An operation that only reads, taken first. -/
theorem take {i d : Nat} {oi : Oper} {v : Value} {fuel : Nat} {listed : Array Bool} {a : Act} {w : World} (hi : ops[i]? = some oi) (hd : oi.dst = some d)
    (hs : Region.noSelect ops = true) (hf : Region.free md ops listed i = true) (hr : (Region.ready md ops listed).contains i = true) (hz : waits md ops z i = true)
    (hQ : ∀ c a w, Q (.panic c) (a.put (some d) v) w → Q (.panic c) a w) (hy : YieldsIf P ops S oi v a) (hS : S w)
    (h : any P md ops Q S z fuel (listed.setIfInBounds i true) (a.put (some d) v) w) : any P md ops Q S z (fuel + 1) listed a w :=
  first hi (Region.noSelect_spec hs) (by rw [hd]; exact hQ) hz fuel listed a w (Region.free_spec hi hf) (by simpa using hr) hy hS (by rw [hd]; exact h)

/-- Each of those that may come up comes up next. -/
def All (P : Program) (md : Region.Mode) (ops : Array Oper) (Q : Exit → Act → World → Prop) (S : World → Prop) (z : Nat) (fuel : Nat) (listed : Array Bool) (a : Act) (w : World) (rs : List Nat) : Prop :=
  ∀ i ∈ rs, wpOp P ops Q i (fun a' w' => (i ≠ z → S w') ∧ any P md ops Q S z fuel (listed.setIfInBounds i true) a' w') a w
theorem All.nil {fuel : Nat} {listed : Array Bool} {a : Act} {w : World} : All P md ops Q S z fuel listed a w [] := fun _ h => by cases h
theorem All.cons {fuel : Nat} {listed : Array Bool} {a : Act} {w : World} {i : Nat} {o : Oper} {rs : List Nat} (ho : ops[i]? = some o)
    (h : ∀ K' : Act → World → Prop, Shut (∀ a w, (i ≠ z → S w) → any P md ops Q S z fuel (listed.setIfInBounds i true) a w → K' a w) → if Region.wanted o (yielded ops a.tmps) = true then Oper.wp P o a w K' Q else K' (a.put o.dst undef) w)
    (hs : All P md ops Q S z fuel listed a w rs) : All P md ops Q S z fuel listed a w (i :: rs) := fun j hj => by
  rcases List.mem_cons.1 hj with rfl | hj
  · exact wpOp_step ho (fun K' hK => h K' (fun a w hS hW => hK a w ⟨hS, hW⟩))
  · exact hs j hj
theorem ready {rs : List Nat} {fuel : Nat} {listed : Array Bool} {a : Act} {w : World} (hr : Region.ready md ops listed = rs) (hne : rs ≠ [])
    (h : All P md ops Q S z fuel listed a w rs) : any P md ops Q S z (fuel + 1) listed a w := ⟨fun h0 => absurd (hr ▸ h0) hne, hr ▸ h⟩
theorem done {listed : Array Bool} {a : Act} {w : World} (hr : Region.ready md ops listed = []) (h : Q .normal a w) : ∀ fuel, any P md ops Q S z fuel listed a w
  | 0 => ⟨hr, h⟩
  | _ + 1 => ⟨fun _ => h, by rw [hr]; simp⟩
/-- An operation of those that may come up, run to its end in the world at hand. -/
theorem run_cons {i : Nat} {oi : Oper} {fuel : Nat} {listed : Array Bool} {a a' : Act} {w w' : World} {rs : List Nat} (hi : ops[i]? = some oi)
    (hw : Region.wanted oi (yielded ops a.tmps) = true) (hrun : ∀ K : Act → World → Prop, Shut (K a' w') → Oper.wp P oi a w K Q) (hS : i ≠ z → S w')
    (h : any P md ops Q S z fuel (listed.setIfInBounds i true) a' w') (hs : All P md ops Q S z fuel listed a w rs) : All P md ops Q S z fuel listed a w (i :: rs) :=
  All.cons hi (fun K hK => by
    rw [if_pos hw]
    exact hrun K (hK.out _ _ hS h)) hs
theorem val_cons {i d : Nat} {oi : Oper} {v : Value} {fuel : Nat} {listed : Array Bool} {a : Act} {w w' : World} {rs : List Nat} (hi : ops[i]? = some oi)
    (hw : Region.wanted oi (yielded ops a.tmps) = true) (hrun : ∀ K : Act → World → Prop, Shut (K (a.put (some d) v) w') → Oper.wp P oi a w K Q) (hS : i ≠ z → S w')
    (h : any P md ops Q S z fuel (listed.setIfInBounds i true) (a.put (some d) v) w') (hs : All P md ops Q S z fuel listed a w rs) : All P md ops Q S z fuel listed a w (i :: rs) :=
  run_cons hi hw hrun hS h hs
theorem last_at {oz : Oper} {fuel : Nat} {listed : Array Bool} {a : Act} {w w' : World} (hi : ops[z]? = some oz) (hr : Region.ready md ops listed = [z])
    (hw : Region.wanted oz (yielded ops a.tmps) = true) (hrun : ∀ K : Act → World → Prop, Shut (K a w') → Oper.wp P oz a w K Q)
    (h : any P md ops Q S z fuel (listed.setIfInBounds z true) a w') : any P md ops Q S z (fuel + 1) listed a w :=
  ready hr (by simp) (run_cons hi hw hrun (fun h => absurd rfl h) h All.nil)
/-- The beginning: from the world behind the draw. -/
theorem region {id : Nat} {a : Act} {w : World} (z : Nat) (S : World → Prop) (hm : P.follows .mixedOrders = true) (hS : S w.drew)
    (h : S w.drew → any P .any ops Q S z ops.size (Array.replicate ops.size false) a w.drew) : (Code.region id ops true).wp P Q a w :=
  wp_region_any hm (any_is _ _ _ _ (h hS))
end
end Z
end Go.Proofs.YtikeffckhklhbaaGreatDoor
