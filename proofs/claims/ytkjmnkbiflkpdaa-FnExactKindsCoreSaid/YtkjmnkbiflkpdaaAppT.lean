/-
  An append as a step of a region that draws its order: the row that is appended may be nil or not. Rows of texts.
-/
import Derived.Test.YtkjmnkbiflkpdaaTreG
import Derived.Deep.RegionHeldLaw
import Derived.Deep.AppendLies
import Derived.Maps.AppendAt
import Derived.Laws.AppendOwnNone
namespace Go.Proofs.Ytkjmnkbiflkpdaa
open Go.RowKit
set_option linter.unusedVariables false

namespace Ap
theorem owns_empty {w : World} {base g : Nat} {e : TypeId} (hg : base ≤ g) (h : w.heap[g]? = some (.cells #[] e (0, 0))) : w.ownsRow base e 1 (.slice (some ⟨g, 0, none⟩) 0 0) 0 [] :=
  ⟨rfl, .inr ⟨g, 0, #[], rfl, hg, h, Nat.le_refl _, by unfold maxLen; omega, rfl, rfl⟩⟩
theorem below_alloc {a W : World} {o : Obj} (h : Below a.heap.size a W) : Below a.heap.size a (W.alloc o) := h.alloc h.size o
theorem one_of {W : World} {b : Nat} {x : Value} (h : W.cell? ⟨b, 0, none⟩ = some x) : ∀ j u, ([x] : List Value)[j]? = some u → W.cell? ((⟨b, 0, none⟩ : Addr).add j) = some u := by
  intro j u hu
  match j, hu with
  | 0, hu =>
    simp only [List.getElem?_cons_zero, Option.some.injEq] at hu
    subst hu
    have a0 : (⟨b, 0, none⟩ : Addr).add 0 = ⟨b, 0, none⟩ := by simp [Addr.add]
    rw [a0]; exact h
theorem heapE (wr : World) (T : TypeId) : (wr.alloc (.cells #[] T)).drew.heap[wr.heap.size]? = some (.cells #[] T (0, 0)) := heap_alloc_new _ _
theorem heapEK (wr : World) (T : TypeId) (x : Value) : ((wr.alloc (.cells #[] T)).alloc (.cells #[x] T)).drew.heap[wr.heap.size]? = some (.cells #[] T (0, 0)) := (Below.heap_alloc _ _ _ (by simp)).trans (heap_alloc_new _ _)
theorem cellEK (wr : World) (T : TypeId) (x : Value) : ((wr.alloc (.cells #[] T)).alloc (.cells #[x] T)).drew.cell? ⟨wr.heap.size + 1, 0, none⟩ = some x := by
  have := World.cell?_alloc_mark (wr.alloc (.cells #[] T)) #[x] T (0, 0) 0
  rw [World.size_alloc] at this
  exact this
theorem heapKE (wr : World) (T : TypeId) (x : Value) : ((wr.alloc (.cells #[x] T)).alloc (.cells #[] T)).drew.heap[wr.heap.size + 1]? = some (.cells #[] T (0, 0)) := by
  have := heap_alloc_new (wr.alloc (.cells #[x] T)) (.cells #[] T)
  rw [World.size_alloc] at this
  exact this
theorem cellKE (wr : World) (T : TypeId) (x : Value) : ((wr.alloc (.cells #[x] T)).alloc (.cells #[] T)).drew.cell? ⟨wr.heap.size, 0, none⟩ = some x :=
  (((Below.refl (wr.alloc (.cells #[x] T)).heap.size (wr.alloc (.cells #[x] T))).alloc (Nat.le_refl _) (.cells #[] T)).cell (p := ⟨wr.heap.size, 0, none⟩) (by simp)).trans (World.cell?_alloc_mark wr #[x] T (0, 0) 0)
theorem ne_own (g h n c : Nat) (hgh : g ≠ h) : some g ≠ (Value.slice (some ⟨h, 0, none⟩) n c).ownBlock := fun e => hgh (Option.some.inj e)
section
variable {P : Program} (w : World)
theorem step_append_any {ops : Array Oper} {o : Oper} {a : Act} {K : Act → World → Prop} {Q : Exit → Act → World → Prop} {E : Prop} (hgd : o.guard = none) (s x : Operand) (t : TypeId)
    (ho : o.op = .call { callee := .builtin .append, args := #[s, x], argTypes := #[t, t] })
    (base : Nat) (e : TypeId) (i : TypeInfo) (z : Value) (size bytes : Nat) (ht : P.underlying t = some (.slice e)) (hi : P.info? e = some i) (hz : i.zero = some z)
    (hsize : i.size = size) (hby : i.bytes = bytes) (hzs : z.cells.size = size) (hsz : 0 < size)
    (v : Value) (n : Nat) (xs : List Value) (hs : a.eval s = v) (hown : w.ownsRow base e size v n xs)
    (ad : Addr) (m c : Nat) (news : List Value) (hx : a.eval x = .slice (some ad) m c) (hl : news.length = m * size) (hnews : ∀ j u, news[j]? = some u → w.cell? (ad.add j) = some u) (h1 : ∀ u ∈ news, u.oneCell' = true)
    (h63 : n + m ≤ maxLen) (hbytes : (n + m) * bytes ≤ 140737488355328) (hbase : base ≤ w.heap.size)
    (h : ∀ v' w', w'.ownsRow base e size v' (n + m) (xs ++ news) → w.grownBy w' v.ownBlock → K (a.put o.dst v') w') :
    if Region.wanted o (yielded ops a.tmps) = true then Oper.wp P o a w K Q else E := by
  have hw : Region.wanted o (yielded ops a.tmps) = true := by simp [Region.wanted, hgd]
  rw [if_pos hw]
  obtain ⟨v', w', hr, h2, h3, _⟩ := run_append_own_at (P := P) w base t o.type e i z size bytes ht hi hz hsize hby hzs hsz v n xs hown ad m c news hl hnews h1 h63 hbytes hbase
  unfold Oper.wp execOp
  simp only [ho, resolve, invoke, builtin, Sem.run_bind, Sem.run_pure, Result.andThen_ok, List.map_toArray, List.map_cons, List.map_nil, hs, hx, hr]
  exact h v' w' h2 h3
/-- The row that is appended is one that lies somewhere, or nil. -/
theorem step_append_row {ops : Array Oper} {o : Oper} {a : Act} {K : Act → World → Prop} {Q : Exit → Act → World → Prop} {E : Prop} (hgd : o.guard = none) (s x : Operand) (t : TypeId)
    (ho : o.op = .call { callee := .builtin .append, args := #[s, x], argTypes := #[t, t] })
    (base : Nat) (e : TypeId) (i : TypeInfo) (z : Value) (bytes : Nat) (ht : P.underlying t = some (.slice e)) (hi : P.info? e = some i) (hz : i.zero = some z)
    (hsize : i.size = 1) (hby : i.bytes = bytes) (hzs : z.cells.size = 1)
    (v : Value) (n : Nat) (xs : List Value) (hs : a.eval s = v) (hown : w.ownsRow base e 1 v n xs)
    (base2 : Nat) (e2 : TypeId) (v2 : Value) (m : Nat) (ys : List Value) (hx : a.eval x = v2) (hown2 : w.ownsRow base2 e2 1 v2 m ys) (h1 : ∀ u ∈ ys, u.oneCell' = true)
    (h63 : n + m ≤ maxLen) (hbytes : (n + m) * bytes ≤ 140737488355328) (hbase : base ≤ w.heap.size)
    (h : ∀ v' w', w'.ownsRow base e 1 v' (n + m) (xs ++ ys) → w.grownBy w' v.ownBlock → K (a.put o.dst v') w') :
    if Region.wanted o (yielded ops a.tmps) = true then Oper.wp P o a w K Q else E := by
  have hown2' := hown2
  obtain ⟨hlen, ⟨hv2, h0⟩ | ⟨g, cap, cur, hv2, hg, hh, hnc, hcm, hcs, htk⟩⟩ := hown2
  · subst h0
    have hys : ys = [] := List.length_eq_zero_iff.1 (by omega)
    subst hys
    have hw : Region.wanted o (yielded ops a.tmps) = true := by simp [Region.wanted, hgd]
    rw [if_pos hw]
    have hrun := run_append_owned_none (P := P) (w := w) base t o.type e i 1 ht hi v n xs hown
    unfold Oper.wp
    simp [execOp, ho, resolve, invoke, builtin, hs, hx.trans hv2, hrun, Result.andThen]
    exact h v w (by simpa using hown) ⟨rfl, rfl, rfl, Nat.le_refl _, fun _ _ _ => rfl⟩
  · refine step_append_any w hgd s x t ho base e i z 1 bytes ht hi hz hsize hby hzs (by decide) v n xs hs hown ⟨g, 0, none⟩ m cap ys (hx.trans hv2) hlen (fun j u hu => ?_) h1 h63 hbytes hbase h
    have hj : j < m := by have := (List.getElem?_eq_some_iff.1 hu).1; omega
    have ha : (⟨g, 0, none⟩ : Addr).add j = ⟨g, j, none⟩ := by
      unfold Addr.add; split <;> simp_all
    rw [hv2] at hown2'
    rw [ha, Tr.owns_cell hown2' j hj]
    exact hu
end
end Ap
theorem Tr.Kp.owns {B : Nat} {w w' : World} {base : Nat} {e : TypeId} {size : Nat} {v : Value} {n : Nat} {xs : List Value} (h : Tr.Kp B w w') (ho : w.ownsRow base e size v n xs) (ht : e ≠ 2) : w'.ownsRow base e size v n xs := by
  obtain ⟨h1, h2 | ⟨g, cap, cur, h3, h4, h5, h6⟩⟩ := ho
  · exact ⟨h1, .inl h2⟩
  · refine ⟨h1, .inr ⟨g, cap, cur, h3, h4, (h.2 g (Array.getElem?_eq_some_iff.1 h5).1 ?_).trans h5, h6⟩⟩
    intro c fz hc
    rw [h5] at hc
    simp only [Option.some.injEq, Obj.cells.injEq] at hc
    exact ht hc.2.1
theorem Tr.strs_plain (ss : List ByteArray) : ∀ u ∈ ss.map Value.string, u.oneCell' = true := by
  intro u hu
  obtain ⟨s, _, rfl⟩ := List.mem_map.1 hu
  rfl
theorem Tr.infoT : (Try.prog.info? 9).map (fun i => (i.zero, i.size, i.bytes)) = some (some (.string ByteArray.empty), 1, 16) := by kernel_rfl

end Go.Proofs.Ytkjmnkbiflkpdaa
