/-
  An object of members: what both ObjectValue answer, as a plain function of keys and lists.
  A place put in among places that stand, by its index; rows of names and of values; an append at a step of a region that draws its order.
-/
import Derived.Test.YtlmibdddfjbbdaaM22
import Derived.Test.YtlmibdddfjbbdaaM23
import Derived.Deep.AppendLies
import Derived.Deep.RegionHeldLaw
import Derived.Maps.AppendAt
namespace Go.Proofs.Ytlmibdddfjbbdaa
open Go.RowKit
set_option linter.unusedVariables false

/-- The members at the places L, the first k of them. -/
def memK (ks : List ByteArray) (ps : List (List M.Cl)) (L : List Nat) (k : Nat) : List M.Cl := ((L.take k).map fun p => setKey (ps.getD p []) (ks.getD p ByteArray.empty)).flatten
def objK (ks : List ByteArray) (ps : List (List M.Cl)) (L : List Nat) (k : Nat) : List M.Cl := headCl 6 L.length :: memK ks ps L k
def objV (ks : List ByteArray) (ps : List (List M.Cl)) : List M.Cl := objK ks ps (St.stand ks ks.length) (St.stand ks ks.length).length
theorem memK_succ (ks : List ByteArray) (ps : List (List M.Cl)) (L : List Nat) (k : Nat) (hk : k < L.length) : memK ks ps L (k + 1) = memK ks ps L k ++ setKey (ps.getD (L.getD k 0) []) (ks.getD (L.getD k 0) ByteArray.empty) := by
  unfold memK
  rw [List.take_add_one, List.getElem?_eq_getElem hk, List.map_append, List.flatten_append, List.getD_eq_getElem?_getD (l := L), List.getElem?_eq_getElem hk]
  simp only [Option.toList_some, Option.getD_some, List.map_cons, List.map_nil, List.flatten_cons, List.flatten_nil, List.append_nil]
theorem objK_succ (ks : List ByteArray) (ps : List (List M.Cl)) (L : List Nat) (k : Nat) (hk : k < L.length) : objK ks ps L (k + 1) = objK ks ps L k ++ setKey (ps.getD (L.getD k 0) []) (ks.getD (L.getD k 0) ByteArray.empty) := by
  unfold objK; rw [memK_succ ks ps L k hk, List.cons_append]
theorem memK_length (ks : List ByteArray) (ps : List (List M.Cl)) (L : List Nat) (h : ∀ p ∈ L, (ps.getD p []).length ≤ 200) (k : Nat) (hk : k ≤ L.length) : (memK ks ps L k).length ≤ 200 * k := by
  induction k with
  | zero => simp [memK]
  | succ k ih =>
    have h1 := ih (by omega)
    have h2 := h (L.getD k 0) (by rw [List.getD_eq_getElem?_getD, List.getElem?_eq_getElem (by omega)]; exact List.getElem_mem _)
    rw [memK_succ ks ps L k (by omega), List.length_append, setKey_length]
    omega
theorem setKey_ok {l : List M.Cl} {key : ByteArray} (h : ∀ c ∈ l, c.ok) (hk : key.size ≤ 9223372036854775807) : ∀ c ∈ setKey l key, c.ok := by
  cases l with
  | nil => intro c hc; simp [setKey] at hc
  | cons d r =>
    intro c hc
    simp only [setKey, List.mem_cons] at hc
    rcases hc with rfl | hc
    · have := h d (by simp); exact ⟨this.1, this.2.1, this.2.2.1, this.2.2.2.1, hk⟩
    · exact h c (List.mem_cons_of_mem _ hc)
theorem objK_ok (ks : List ByteArray) (ps : List (List M.Cl)) (L : List Nat) (hn : L.length ≤ 4096) (h : ∀ p ∈ L, ∀ c ∈ ps.getD p [], c.ok) (hk : ∀ p ∈ L, (ks.getD p ByteArray.empty).size ≤ 9223372036854775807) (k : Nat) (hkl : k ≤ L.length) : ∀ c ∈ objK ks ps L k, c.ok := by
  induction k with
  | zero =>
    intro c hc
    simp only [objK, memK, List.take_zero, List.map_nil, List.flatten_nil, List.mem_cons, List.not_mem_nil, or_false] at hc
    subst hc
    unfold M.Cl.ok headCl
    refine ⟨?_, ?_, ?_, ?_, ?_⟩ <;> simp <;> omega
  | succ k ih =>
    have hm : L.getD k 0 ∈ L := by rw [List.getD_eq_getElem?_getD, List.getElem?_eq_getElem (by omega)]; exact List.getElem_mem _
    rw [objK_succ ks ps L k (by omega)]
    intro c hc
    rcases List.mem_append.1 hc with hc | hc
    · exact ih (by omega) c hc
    · exact setKey_ok (h _ hm) (hk _ hm) c hc

end Go.Proofs.Ytlmibdddfjbbdaa

namespace Go.Proofs.Ytlmibdddfjbbdaa
open Go.RowKit
set_option linter.unusedVariables false

theorem insP_eq (ks : List ByteArray) (L : List Nat) (p k : Nat) (hk : k < L.length) (hlt : ∀ j, j < k → St.R ks (L.getD j 0) p) (he : St.kl ks (L.getD k 0) = St.kl ks p) : St.insP ks L p = L.set k p := by
  induction L generalizing k with
  | nil => simp at hk
  | cons q r ih =>
    unfold St.insP
    cases k with
    | zero =>
      simp only [List.getD_cons_zero] at he
      rw [if_neg (by rw [he, St.bl_irr]; simp), if_pos he]
      rfl
    | succ k =>
      have h0 := hlt 0 (by omega)
      simp only [List.getD_cons_zero] at h0
      unfold St.R at h0
      rw [if_pos h0, ih k (by simpa using hk) (fun j hj => by have := hlt (j + 1) (by omega); simpa only [List.getD_cons_succ] using this) (by simpa only [List.getD_cons_succ] using he)]
      rfl
theorem insP_new (ks : List ByteArray) (L : List Nat) (p k : Nat) (hk : k ≤ L.length) (hlt : ∀ j, j < k → St.R ks (L.getD j 0) p) (hstop : k < L.length → ¬ St.R ks (L.getD k 0) p ∧ St.kl ks (L.getD k 0) ≠ St.kl ks p) : St.insP ks L p = L.take k ++ [p] ++ L.drop k := by
  induction L generalizing k with
  | nil => simp at hk; subst hk; rfl
  | cons q r ih =>
    unfold St.insP
    cases k with
    | zero =>
      have h := hstop (by simp)
      simp only [List.getD_cons_zero] at h
      unfold St.R at h
      rw [if_neg h.1, if_neg h.2]
      rfl
    | succ k =>
      have h0 := hlt 0 (by omega)
      simp only [List.getD_cons_zero] at h0
      unfold St.R at h0
      rw [if_pos h0, ih k (by simpa using hk) (fun j hj => by have := hlt (j + 1) (by omega); simpa only [List.getD_cons_succ] using this) (fun h => by have := hstop (by simpa using h); simpa only [List.getD_cons_succ] using this)]
      simp

def namesV (ks : List ByteArray) (L : List Nat) : List Value := L.map fun p => Value.string (ks.getD p ByteArray.empty)
def valsV (lv : Nat → Value) (L : List Nat) : List Value := L.map lv
theorem namesV_length (ks : List ByteArray) (L : List Nat) : (namesV ks L).length = L.length := by simp [namesV]
theorem valsV_length (lv : Nat → Value) (L : List Nat) : (valsV lv L).length = L.length := by simp [valsV]
theorem namesV_get (ks : List ByteArray) (L : List Nat) (j : Nat) (hj : j < L.length) : (namesV ks L)[j]? = some (.string (ks.getD (L.getD j 0) ByteArray.empty)) := by
  simp [namesV, List.getElem?_map, List.getElem?_eq_getElem hj, List.getD_eq_getElem?_getD]
theorem valsV_get (lv : Nat → Value) (L : List Nat) (j : Nat) (hj : j < L.length) : (valsV lv L)[j]? = some (lv (L.getD j 0)) := by
  simp [valsV, List.getElem?_map, List.getElem?_eq_getElem hj, List.getD_eq_getElem?_getD]
theorem valsV_set (lv : Nat → Value) (L : List Nat) (k p : Nat) : valsV lv (L.set k p) = (valsV lv L).set k (lv p) := by simp [valsV, List.map_set]
theorem namesV_set (ks : List ByteArray) (L : List Nat) (k p : Nat) (hk : k < L.length) (he : St.kl ks (L.getD k 0) = St.kl ks p) : namesV ks (L.set k p) = namesV ks L := by
  have e : ks.getD p ByteArray.empty = ks.getD (L.getD k 0) ByteArray.empty := (bytes_ext he).symm
  unfold namesV
  rw [List.map_set, e]
  refine List.ext_getElem? fun j => ?_
  rw [List.getElem?_set]
  by_cases c : k = j
  · subst c
    rw [if_pos rfl, if_pos (by simpa using hk)]
    simp [List.getElem?_map, List.getElem?_eq_getElem hk, List.getD_eq_getElem?_getD]
  · rw [if_neg c]
theorem namesV_plain (ks : List ByteArray) (L : List Nat) : ∀ u ∈ namesV ks L, u.oneCell' = true := by
  intro u hu
  simp only [namesV, List.mem_map] at hu
  obtain ⟨p, _, rfl⟩ := hu
  rfl

/-- A row that owns values, in words of memory. -/
theorem owns_cell {w : World} {base g cap n : Nat} {e : TypeId} {xs : List Value} (h : w.ownsRow base e 1 (.slice (some ⟨g, 0, none⟩) n cap) n xs) {j : Nat} (hj : j < n) : w.cell? ⟨g, j, none⟩ = xs[j]? ∧ w.frozen? ⟨g, j, none⟩ = false ∧ g < w.heap.size ∧ base ≤ g ∧ n ≤ cap := by
  obtain ⟨h1, ⟨h2, _⟩ | ⟨g', cap', cur, h2, hg, hh, hnc, hcm, hcs, ht⟩⟩ := h
  · cases h2
  · cases h2
    refine ⟨?_, frozen_of_row w g j cur e hh, (Array.getElem?_eq_some_iff.1 hh).1, hg, hnc⟩
    rw [cell_of_row w g j cur e (0, 0) hh]
    have h3 : cur.toList[j]? = xs[j]? := by rw [← ht, List.getElem?_take, if_pos (by omega)]
    rw [← h3]; simp
theorem owns_at {w : World} {base g cap n : Nat} {e : TypeId} {xs : List Value} (h : w.ownsRow base e 1 (.slice (some ⟨g, 0, none⟩) n cap) n xs) : g < w.heap.size ∧ base ≤ g ∧ n ≤ cap ∧ cap ≤ 9223372036854775807 := by
  obtain ⟨h1, ⟨h2, _⟩ | ⟨g', cap', cur, h2, hg, hh, hnc, hcm, hcs, ht⟩⟩ := h
  · cases h2
  · cases h2
    unfold maxLen at hcm
    exact ⟨(Array.getElem?_eq_some_iff.1 hh).1, hg, hnc, by omega⟩
theorem owns_empty {w : World} {base g : Nat} {e : TypeId} (hg : base ≤ g) (h : w.heap[g]? = some (.cells #[] e (0, 0))) : w.ownsRow base e 1 (.slice (some ⟨g, 0, none⟩) 0 0) 0 [] :=
  ⟨rfl, .inr ⟨g, 0, #[], rfl, hg, h, Nat.le_refl _, by unfold maxLen; omega, rfl, rfl⟩⟩
theorem owns_below {w w' : World} {base : Nat} {e : TypeId} {size : Nat} {v : Value} {n : Nat} {xs : List Value} (h : w.ownsRow base e size v n xs) (hb : Below w.heap.size w w') : w'.ownsRow base e size v n xs := by
  obtain ⟨h1, h2 | ⟨g, cap, cur, h3, h4, h5, h6⟩⟩ := h
  · exact ⟨h1, .inl h2⟩
  · exact ⟨h1, .inr ⟨g, cap, cur, h3, h4, (hb.block g (Array.getElem?_eq_some_iff.1 h5).1).trans h5, h6⟩⟩

theorem below_alloc {a W : World} {o : Obj} (h : Below a.heap.size a W) : Below a.heap.size a (W.alloc o) := h.alloc h.size o
theorem one_of {W : World} {b : Nat} {x : Value} (h : W.cell? ⟨b, 0, none⟩ = some x) : ∀ j u, ([x] : List Value)[j]? = some u → W.cell? ((⟨b, 0, none⟩ : Addr).add j) = some u := by
  intro j u hu
  match j, hu with
  | 0, hu =>
    simp only [List.getElem?_cons_zero, Option.some.injEq] at hu
    subst hu
    have a0 : (⟨b, 0, none⟩ : Addr).add 0 = ⟨b, 0, none⟩ := by simp [Addr.add]
    rw [a0]; exact h

theorem valsV_plain (lv : Nat → Value) (L : List Nat) (h : ∀ p, (lv p).oneCell' = true) : ∀ u ∈ valsV lv L, u.oneCell' = true := by
  intro u hu
  simp only [valsV, List.mem_map] at hu
  obtain ⟨p, _, rfl⟩ := hu
  exact h p
theorem names_ins {W : World} {B : Nat} {v : Value} (ks : List ByteArray) (L : List Nat) (k i : Nat) (y : ByteArray) (h : W.ownsRow B 9 1 v (0 + k + 1 + (L.length - k)) ([] ++ (namesV ks L).take k ++ [.string y] ++ (namesV ks L).drop k)) (hk : k ≤ L.length) (hy : y = ks.getD i ByteArray.empty) : W.ownsRow B 9 1 v (L.length + 1) (namesV ks (L.take k ++ [i] ++ L.drop k)) := by
  have e : namesV ks (L.take k ++ [i] ++ L.drop k) = [] ++ (namesV ks L).take k ++ [.string y] ++ (namesV ks L).drop k := by rw [hy]; simp [namesV, List.map_take, List.map_drop]
  rw [e, show L.length + 1 = 0 + k + 1 + (L.length - k) by omega]
  exact h
theorem vals_ins {W : World} {B : Nat} {v u : Value} (lv : Nat → Value) (L : List Nat) (k i : Nat) (h : W.ownsRow B 24 1 v (0 + k + 1 + (L.length - k)) ([] ++ (valsV lv L).take k ++ [u] ++ (valsV lv L).drop k)) (hk : k ≤ L.length) (hu : lv i = u) : W.ownsRow B 24 1 v (L.length + 1) (valsV lv (L.take k ++ [i] ++ L.drop k)) := by
  have e : valsV lv (L.take k ++ [i] ++ L.drop k) = [] ++ (valsV lv L).take k ++ [u] ++ (valsV lv L).drop k := by rw [← hu]; simp [valsV, List.map_take, List.map_drop]
  rw [e, show L.length + 1 = 0 + k + 1 + (L.length - k) by omega]
  exact h

/-- A new block of nothing and a new block of one word, in either order. -/
theorem heapE (wr : World) (T : TypeId) : (wr.alloc (.cells #[] T)).drew.heap[wr.heap.size]? = some (.cells #[] T (0, 0)) := heap_alloc_new _ _
theorem heapEK (wr : World) (T : TypeId) (x : Value) : ((wr.alloc (.cells #[] T)).alloc (.cells #[x] T)).drew.heap[wr.heap.size]? = some (.cells #[] T (0, 0)) := (Below.heap_alloc _ _ _ (by simp)).trans (heap_alloc_new _ _)
theorem cellEK (wr : World) (T : TypeId) (x : Value) : ((wr.alloc (.cells #[] T)).alloc (.cells #[x] T)).drew.cell? ⟨wr.heap.size + 1, 0, none⟩ = some x := by
  have := World.cell?_alloc_mark (wr.alloc (.cells #[] T)) #[x] T (0, 0) 0
  rw [World.size_alloc] at this
  exact this
theorem heapKE (wr : World) (T : TypeId) (x : Value) : ((wr.alloc (.cells #[x] T)).alloc (.cells #[] T)).drew.heap[wr.heap.size + 1]? = some (.cells #[] T (0, 0)) := by
  have := heap_alloc_new (wr.alloc (.cells #[x] T)) (.cells #[] T)
  rw [World.size_alloc] at this
  exact this
theorem cellKE (wr : World) (T : TypeId) (x : Value) : ((wr.alloc (.cells #[x] T)).alloc (.cells #[] T)).drew.cell? ⟨wr.heap.size, 0, none⟩ = some x :=
  (((Below.refl (wr.alloc (.cells #[x] T)).heap.size (wr.alloc (.cells #[x] T))).alloc (Nat.le_refl _) (.cells #[] T)).cell (p := ⟨wr.heap.size, 0, none⟩) (by simp)).trans (World.cell?_alloc_mark wr #[x] T (0, 0) 0)
theorem heapEE1 (wr : World) (S T : TypeId) : ((wr.alloc (.cells #[] S)).alloc (.cells #[] T)).heap[wr.heap.size]? = some (.cells #[] S (0, 0)) := (Below.heap_alloc _ _ _ (by simp)).trans (heap_alloc_new _ _)
theorem heapEE2 (wr : World) (S T : TypeId) : ((wr.alloc (.cells #[] S)).alloc (.cells #[] T)).heap[wr.heap.size + 1]? = some (.cells #[] T (0, 0)) := by
  have := heap_alloc_new (wr.alloc (.cells #[] S)) (.cells #[] T)
  rw [World.size_alloc] at this
  exact this
theorem owns_setOther {w : World} {base g cap n b j : Nat} {e : TypeId} {size : Nat} {xs : List Value} {u : Value} (h : w.ownsRow base e size (.slice (some ⟨g, 0, none⟩) n cap) n xs) (hne : g ≠ b) : ((w.setCell ⟨b, j, none⟩ u).drew).ownsRow base e size (.slice (some ⟨g, 0, none⟩) n cap) n xs := by
  obtain ⟨h1, ⟨h2, _⟩ | ⟨g', cap', cur, h2, h4, h5, h6⟩⟩ := h
  · cases h2
  · cases h2
    exact ⟨h1, .inr ⟨g, cap, cur, rfl, h4, (heap_setCell_other w ⟨b, j, none⟩ g u hne).trans h5, h6⟩⟩
theorem owns_set {w : World} {base g cap n j : Nat} {e : TypeId} {xs : List Value} {u : Value} (h : w.ownsRow base e 1 (.slice (some ⟨g, 0, none⟩) n cap) n xs) : ((w.setCell ⟨g, j, none⟩ u).drew).ownsRow base e 1 (.slice (some ⟨g, 0, none⟩) n cap) n (xs.set j u) := by
  have := (h.stored j u).1
  exact this
theorem owns_empty5 (wr : World) (T : TypeId) : (wr.alloc (.cells #[] T)).ownsRow wr.heap.size T 5 (.slice (some ⟨wr.heap.size, 0, none⟩) 0 0) 0 [] :=
  ⟨rfl, .inr ⟨wr.heap.size, 0, #[], rfl, Nat.le_refl _, heap_alloc_new _ _, Nat.le_refl _, by unfold maxLen; omega, rfl, rfl⟩⟩
theorem owns_setFar {w : World} {base : Nat} {e : TypeId} {size : Nat} {v : Value} {n : Nat} {xs : List Value} (h : w.ownsRow base e size v n xs) (b j : Nat) (u : Value) (hne : ∀ g, v.ownBlock = some g → g ≠ b) : (w.setCell ⟨b, j, none⟩ u).ownsRow base e size v n xs := by
  obtain ⟨h1, h2 | ⟨g, cap, cur, rfl, h4, h5, h6⟩⟩ := h
  · exact ⟨h1, .inl h2⟩
  · exact ⟨h1, .inr ⟨g, cap, cur, rfl, h4, (heap_setCell_other w ⟨b, j, none⟩ g u (hne g rfl)).trans h5, h6⟩⟩
theorem owns_lt {w : World} {base : Nat} {e : TypeId} {size : Nat} {v : Value} {n : Nat} {xs : List Value} (h : w.ownsRow base e size v n xs) : ∀ g, v.ownBlock = some g → g < w.heap.size := by
  obtain ⟨h1, ⟨rfl, _⟩ | ⟨g, cap, cur, rfl, h4, h5, h6⟩⟩ := h
  · intro g hg; simp [Value.ownBlock] at hg
  · intro g' hg; simp only [Value.ownBlock, Option.some.injEq] at hg; subst hg; exact (Array.getElem?_eq_some_iff.1 h5).1
theorem ne_own (g h n c : Nat) (hgh : g ≠ h) : some g ≠ (Value.slice (some ⟨h, 0, none⟩) n c).ownBlock := fun e => hgh (Option.some.inj e)

section
variable {P : Program} (w : World)
/-- An append onto a row of the call's own, as a step of a region that draws its order; something or nothing is appended. -/
theorem step_append_any {ops : Array Oper} {o : Oper} {a : Act} {K : Act → World → Prop} {Q : Exit → Act → World → Prop} {E : Prop} (hgd : o.guard = none) (s x : Operand) (t : TypeId)
    (ho : o.op = .call { callee := .builtin .append, args := #[s, x], argTypes := #[t, t] })
    (base : Nat) (e : TypeId) (i : TypeInfo) (z : Value) (size bytes : Nat) (ht : P.underlying t = some (.slice e)) (hi : P.info? e = some i) (hz : i.zero = some z)
    (hsize : i.size = size) (hby : i.bytes = bytes) (hzs : z.cells.size = size) (hsz : 0 < size)
    (v : Value) (n : Nat) (xs : List Value) (hs : a.eval s = v) (hown : w.ownsRow base e size v n xs)
    (ad : Addr) (m c : Nat) (news : List Value) (hx : a.eval x = .slice (some ad) m c) (hl : news.length = m * size) (hnews : ∀ j u, news[j]? = some u → w.cell? (ad.add j) = some u) (h1 : ∀ u ∈ news, u.oneCell' = true)
    (h63 : n + m ≤ maxLen) (hbytes : (n + m) * bytes ≤ 140737488355328) (hbase : base ≤ w.heap.size)
    (h : ∀ v' w', w'.ownsRow base e size v' (n + m) (xs ++ news) → w.grownBy w' v.ownBlock → K (a.put o.dst v') w') :
    if Region.wanted o (yielded ops a.tmps) = true then Oper.wp P o a w K Q else E := by
  have hw : Region.wanted o (yielded ops a.tmps) = true := by simp [Region.wanted, hgd]
  rw [if_pos hw]
  obtain ⟨v', w', hr, h2, h3, _⟩ := run_append_own_at (P := P) w base t o.type e i z size bytes ht hi hz hsize hby hzs hsz v n xs hown ad m c news hl hnews h1 h63 hbytes hbase
  unfold Oper.wp execOp
  simp only [ho, resolve, invoke, builtin, Sem.run_bind, Sem.run_pure, Result.andThen_ok, List.map_toArray, List.map_cons, List.map_nil, hs, hx, hr]
  exact h v' w' h2 h3
end
end Go.Proofs.Ytlmibdddfjbbdaa
