/-
  The program's list of paths, as it lies in memory: what is laid, where it ends, and what of memory is kept while paths are laid.
  impl.layPath, impl.lay, impl.stepTo.
  impl.stepTo, the closures that say which paths are wanted, and how much is laid.
  impl.layFrom: the paths of a value and of all in it are laid.
-/
import Derived.Test.YtlbmpldknfcfhaaDoorV21
import Derived.Test.YtlbmpldknfcfhaaDoorV29
import Derived.Test.YtlbmpldknfcfhaaDoorV36
import Derived.Test.YtlbmpldknfcfhaaDoorV37
import Derived.ArgAppend
import Derived.Deep.DeepAppendRoom
import Derived.Maps.AppendAt
namespace Go.Proofs.YtlbmpldknfcfhaaDoor
open Go.RowKit
set_option linter.unusedVariables false
set_option linter.unusedSimpArgs false
namespace Al
section
variable {P : Program}
/-- An append of a row that lies somewhere, or of nil, whatever the size of its elements. -/
theorem run_rowN (w : World) (t ty e : TypeId) (i : TypeInfo) (z : Value) (size bytes : Nat) (ht : P.underlying t = some (.slice e)) (hi : P.info? e = some i) (hz : i.zero = some z) (hsize : i.size = size) (hby : i.bytes = bytes) (hzs : z.cells.size = size) (hsz : 0 < size)
    (base : Nat) (v : Value) (n : Nat) (xs : List Value) (hown : w.ownsRow base e size v n xs) (x : Value) (m : Nat) (ys : List Value) (hm : ys.length = m * size)
    (hx : (x = .slice none 0 0 ∧ ys = []) ∨ ∃ ad c, x = .slice (some ad) m c ∧ ∀ j u, ys[j]? = some u → w.cell? (ad.add j) = some u) (h1 : ∀ u ∈ ys, u.oneCell' = true)
    (h63 : n + m ≤ maxLen) (hbytes : (n + m) * bytes ≤ 140737488355328) (hbase : base ≤ w.heap.size) :
    ∃ v' w', (Builtin.append_ #[t, t] ty #[v, x]).run P w = .ok v' w' ∧ w'.ownsRow base e size v' (n + m) (xs ++ ys) ∧ w.grownBy w' v.ownBlock ∧ (v'.ownBlock = v.ownBlock ∨ ∀ g, v'.ownBlock = some g → w.heap.size ≤ g) := by
  rcases hx with ⟨rfl, rfl⟩ | ⟨ad, c, rfl, hc⟩
  · have hm0 : m = 0 := by
      rcases Nat.eq_zero_or_pos m with h | h
      · exact h
      · have := Nat.mul_pos h hsz; simp at hm; omega
    subst hm0
    subst hsize
    exact ⟨v, w, run_append_owned_none (P := P) (w := w) base t ty e i i.size ht hi v n xs hown, by simpa using hown, ⟨rfl, rfl, rfl, Nat.le_refl _, fun _ _ _ => rfl⟩, .inl rfl⟩
  · obtain ⟨v', w', hr, h2, h3, _, h5⟩ := run_append_own_at (P := P) (w := w) base t ty e i z size bytes ht hi hz hsize hby hzs hsz v n xs hown ad m c ys hm hc h1 h63 hbytes hbase
    refine ⟨v', w', hr, h2, h3, h5.imp id fun h g hg => ?_⟩
    rw [h] at hg; cases hg; exact Nat.le_refl _
theorem wp_rowN (w : World) {o : Oper} {a : Act} {K : Act → World → Prop} {Q : Exit → Act → World → Prop} (s x : Operand) (t : TypeId) (ho : o.op = .call { callee := .builtin .append, args := #[s, x], argTypes := #[t, t] })
    (e : TypeId) (i : TypeInfo) (z : Value) (size bytes : Nat) (ht : P.underlying t = some (.slice e)) (hi : P.info? e = some i) (hz : i.zero = some z) (hsize : i.size = size) (hby : i.bytes = bytes) (hzs : z.cells.size = size) (hsz : 0 < size)
    (base : Nat) (v : Value) (n : Nat) (xs : List Value) (hs : a.eval s = v) (hown : w.ownsRow base e size v n xs) (xv : Value) (hxv : a.eval x = xv) (m : Nat) (ys : List Value) (hm : ys.length = m * size)
    (hx : (xv = .slice none 0 0 ∧ ys = []) ∨ ∃ ad c, xv = .slice (some ad) m c ∧ ∀ j u, ys[j]? = some u → w.cell? (ad.add j) = some u) (h1 : ∀ u ∈ ys, u.oneCell' = true)
    (h63 : n + m ≤ maxLen) (hbytes : (n + m) * bytes ≤ 140737488355328) (hbase : base ≤ w.heap.size)
    (h : ∀ v' w', w'.ownsRow base e size v' (n + m) (xs ++ ys) → w.grownBy w' v.ownBlock → (v'.ownBlock = v.ownBlock ∨ ∀ g, v'.ownBlock = some g → w.heap.size ≤ g) → K (a.put o.dst v') w') : Oper.wp P o a w K Q := by
  obtain ⟨v', w', hr, h2, h3, h4⟩ := run_rowN (P := P) w t o.type e i z size bytes ht hi hz hsize hby hzs hsz base v n xs hown xv m ys hm hx h1 h63 hbytes hbase
  unfold Oper.wp execOp
  simp only [ho, resolve, invoke, builtin, Sem.run_bind, Sem.run_pure, Result.andThen_ok, List.map_toArray, List.map_cons, List.map_nil, hs, hxv, hr]
  exact h v' w' h2 h3 h4
end

end Al
end Go.Proofs.YtlbmpldknfcfhaaDoor

namespace Go.Proofs.YtlbmpldknfcfhaaDoor
open Go.RowKit
set_option linter.unusedVariables false
set_option linter.unusedSimpArgs false
end Go.Proofs.YtlbmpldknfcfhaaDoor

namespace Go.Proofs.YtlbmpldknfcfhaaDoor
open Go.RowKit
set_option linter.unusedVariables false
set_option linter.unusedSimpArgs false
namespace Al
/-- What is known of a place within a value. -/
structure At (v : List M.Cl) (a : Nat) (k : Nat) : Prop where
  lt : M.iter v k (a + 1) < v.length
  sub : (subs v a).getD k [] = part v (M.iter v k (a + 1))
  val : M.valueFault (part v (M.iter v k (a + 1))) = 0
  key : (keysAt v a).getD k ByteArray.empty = (v.getD (M.iter v k (a + 1)) M.zero).key
  len : M.iter (part v a) k 1 + (part v (M.iter v k (a + 1))).length = M.iter (part v a) (k + 1) 1
  up : M.iter (part v a) (k + 1) 1 ≤ (part v a).length
  lo : k + 1 ≤ M.iter (part v a) k 1
theorem at_place {v : List M.Cl} (hv : M.valueFault v = 0) {a : Nat} (ha : a < v.length) {k : Nat} (hk : k < M.arity v a) : At v a k := by
  have hpv := part_valid hv ha
  have hk' : k < M.arity (part v a) 0 := by rw [part_arity hv ha]; exact hk
  obtain ⟨p1, p2, p3⟩ := part_lt hpv hk'
  have hi := iter_le hpv (Nat.le_of_lt hk')
  have hu := iter_le hpv (show k + 1 ≤ M.arity (part v a) 0 by omega)
  have hit := part_iter hv ha k (by omega)
  have hpl := part_len hv ha
  have hpp := part_part hv ha (M.iter (part v a) k 1) (by omega) (by omega)
  rw [show a + M.iter (part v a) k 1 = M.iter v k (a + 1) by omega] at hpp
  have he := end_gt hv ha
  exact ⟨by omega, subs_getD v a k hk, by rw [← hpp]; exact p3, keysAt_getD v a k hk, by rw [← hpp]; exact p2, hu.2, hi.1⟩
end Al
end Go.Proofs.YtlbmpldknfcfhaaDoor

namespace Go.Proofs.YtlbmpldknfcfhaaDoor
open Go.RowKit
set_option linter.unusedVariables false
set_option linter.unusedSimpArgs false
end Go.Proofs.YtlbmpldknfcfhaaDoor
