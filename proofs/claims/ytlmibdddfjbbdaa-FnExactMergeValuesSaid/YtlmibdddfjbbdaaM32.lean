/-
  Lists that are joined, and what a sum of two values is, plainly.
-/
import Derived.Test.YtlmibdddfjbbdaaM24
import Derived.Test.YtlmibdddfjbbdaaM29
import Derived.Test.YtlmibdddfjbbdaaM30
import Derived.Test.YtlmibdddfjbbdaaM31
import Derived.Laws.AppendOwnNone
namespace Go.Proofs.Ytlmibdddfjbbdaa
open Go.RowKit
set_option linter.unusedVariables false

/-- A row is appended to a row of the call's own, whether it is nil or not. -/
theorem wpList_append_row {P : Program} {w : World} {ops : Array Oper} {rest : List Oper} {o : Oper} {a : Act} {Q : Exit → Act → World → Prop} (hgd : o.guard = none) (s x : Operand) (t : TypeId)
    (ho : o.op = .call { callee := .builtin .append, args := #[s, x], argTypes := #[t, t] })
    (base : Nat) (e : TypeId) (i : TypeInfo) (z : Value) (bytes : Nat) (ht : P.underlying t = some (.slice e)) (hi : P.info? e = some i) (hz : i.zero = some z)
    (hsize : i.size = 1) (hby : i.bytes = bytes) (hzs : z.cells.size = 1)
    (v : Value) (n : Nat) (xs : List Value) (hs : a.eval s = v) (hown : w.ownsRow base e 1 v n xs)
    (base2 : Nat) (e2 : TypeId) (v2 : Value) (m : Nat) (ys : List Value) (hx : a.eval x = v2) (hown2 : w.ownsRow base2 e2 1 v2 m ys) (h1 : ∀ u ∈ ys, u.oneCell' = true)
    (h63 : n + m ≤ maxLen) (hbytes : (n + m) * bytes ≤ 140737488355328) (hbase : base ≤ w.heap.size)
    (h : ∀ v' w', w'.ownsRow base e 1 v' (n + m) (xs ++ ys) → w.grownBy w' v.ownBlock → wpList P ops Q rest (a.put o.dst v') w') : wpList P ops Q (o :: rest) a w := by
  obtain ⟨hlen, ⟨hv2, h0⟩ | ⟨g, cap, cur, hv2, hg, hh, hnc, hcm, hcs, htk⟩⟩ := hown2
  · subst h0
    have hys : ys = [] := List.length_eq_zero_iff.1 (by omega)
    subst hys
    refine wpList_append_own_none hgd s x t ho base e i 1 ht hi v n xs hs hown (hx.trans hv2) (h v w (by simpa using hown) ⟨rfl, rfl, rfl, Nat.le_refl _, fun _ _ _ => rfl⟩)
  · refine wpList_append_own w hgd s x t ho base e i z 1 bytes ht hi hz hsize hby hzs (by decide) v n xs hs hown ⟨g, 0, none⟩ m cap ys (hx.trans hv2) hlen (fun j u hu => ?_) h1 h63 hbytes hbase (fun v' w' q1 q2 _ => h v' w' q1 q2)
    have hj : j < m := by have := (List.getElem?_eq_some_iff.1 hu).1; omega
    have ha : (⟨g, 0, none⟩ : Addr).add j = ⟨g, j, none⟩ := by
      unfold Addr.add; split <;> simp_all
    rw [ha, row_at (base := 0) (cap := 0) hh htk hj]
    exact hu
theorem KS.join {w' : World} {B : Nat} {v' : Value} {ks ls : List ByteArray} (ho : w'.ownsRow B 9 1 v' (ks.length + ls.length) (ks.map Value.string ++ ls.map Value.string)) : KS w' B v' (ks ++ ls) := by
  unfold KS; simpa using ho
theorem texts_plain (ks : List ByteArray) : ∀ u ∈ ks.map Value.string, u.oneCell' = true := by
  intro u hu
  obtain ⟨s, _, rfl⟩ := List.mem_map.1 hu
  rfl
theorem parts_app {P : List M.Cl → Prop} {ps qs : List (List M.Cl)} (h : ∀ j, j < ps.length → P (ps.getD j [])) (h2 : ∀ j, j < qs.length → P (qs.getD j [])) : ∀ j, j < (ps ++ qs).length → P ((ps ++ qs).getD j []) := by
  intro j hj
  rw [List.length_append] at hj
  by_cases e : j < ps.length
  · rw [List.getD_eq_getElem?_getD, List.getElem?_append_left e, ← List.getD_eq_getElem?_getD]; exact h j e
  · rw [List.getD_eq_getElem?_getD, List.getElem?_append_right (by omega), ← List.getD_eq_getElem?_getD]; exact h2 _ (by omega)
theorem told_str (s : ByteArray) : told [strCl s] = strOut s := by
  cases h : M.textOk s with
  | false =>
    have hne : s.toList ≠ [] := by
      intro e
      have hs : s = ByteArray.empty := bytes_ext (by rw [e, empty_toList])
      rw [hs] at h
      exact absurd h (by decide)
    have hc : M.cellCode (strCl s) = 5 := by
      unfold strCl M.cellCode
      simp only
      rw [if_neg (by omega), if_neg, if_neg (by omega), if_neg (by simp [h])]
      intro g
      rcases g with g | g | g
      · exact g.1 rfl
      · exact g.2 rfl
      · exact g.1 rfl
    have hf : M.valueFault [strCl s] = 5 := by unfold M.valueFault; rw [if_neg (by simp)]; simp [M.firstCode, hc]
    rw [str_bad h, told_bad (by rw [hf]; decide), hf]
  | true => rw [str_ok h, told_ok (one_valid (code_str h) empty_toList rfl).1]; rfl
theorem zero_valid : M.valueFault [M.zero] = 0 ∧ ∀ c ∈ [M.zero], c.ok := by
  refine ⟨(one_valid (c := M.zero) ?_ empty_toList rfl).1, fun c hc => ?_⟩
  · unfold M.zero M.cellCode
    simp only
    rw [if_neg (by omega), if_neg, if_neg (by omega), if_pos ⟨by decide, by decide⟩]
    intro g
    rcases g with g | g | g
    · exact g.1 rfl
    · exact g.1 empty_toList
    · exact g.1 rfl
  · simp only [List.mem_cons, List.not_mem_nil, or_false] at hc
    subst hc
    unfold M.zero M.Cl.ok
    simp only
    refine ⟨by omega, by omega, by omega, by decide, by decide⟩

end Go.Proofs.Ytlmibdddfjbbdaa
