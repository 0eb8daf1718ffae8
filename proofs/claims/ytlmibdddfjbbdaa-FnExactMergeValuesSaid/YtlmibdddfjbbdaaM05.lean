/-
  The words of a list of cells, one behind the other: how a row that was grown by append holds them.
  impl.appendPart lays a copy of a part behind a row of the call's own and gives its first cell a key.
-/
import Derived.Test.YtlmibdddfjbbdaaM04
namespace Go.Proofs.Ytlmibdddfjbbdaa
open Go.RowKit
set_option linter.unusedVariables false

def flat (l : List M.Cl) : List Value := l.flatMap M.Cl.vals
def setKey (l : List M.Cl) (k : ByteArray) : List M.Cl := match l with | [] => [] | c :: r => { c with key := k } :: r

theorem flat_cons (c : M.Cl) (l : List M.Cl) : flat (c :: l) = c.vals ++ flat l := rfl
theorem flat_append (a b : List M.Cl) : flat (a ++ b) = flat a ++ flat b := by simp [flat]
theorem flat_length (l : List M.Cl) : (flat l).length = l.length * 5 := by
  induction l with
  | nil => rfl
  | cons c l ih => rw [flat_cons, List.length_append, ih]; simp [M.Cl.vals]; omega

theorem flat_get (l : List M.Cl) (i j : Nat) (hi : i < l.length) (hj : j < 5) : (flat l)[i * 5 + j]? = ((l.getD i M.zero).vals)[j]? := by
  induction l generalizing i with
  | nil => simp at hi
  | cons c l ih =>
    rw [flat_cons]
    have hl : c.vals.length = 5 := rfl
    cases i with
    | zero => rw [List.getElem?_append_left (by omega)]; simp
    | succ i =>
      rw [List.getElem?_append_right (by omega), show (i + 1) * 5 + j - c.vals.length = i * 5 + j from by omega, List.getD_cons_succ]
      exact ih i (by simpa using hi)

theorem row_words {w : World} {b off : Nat} {l : List M.Cl} (h : Row w b off l) : ∀ j u, (flat l)[j]? = some u → w.cell? ((⟨b, off, none⟩ : Addr).add j) = some u := by
  intro j u hu
  have hj : j < l.length * 5 := by
    have := (List.getElem?_eq_some_iff.1 hu).1
    rwa [flat_length] at this
  have hd : j = (j / 5) * 5 + j % 5 := by omega
  have hi : j / 5 < l.length := by omega
  have hm : j % 5 < 5 := by omega
  rw [hd, flat_get l (j / 5) (j % 5) hi hm] at hu
  have ha : (⟨b, off, none⟩ : Addr).add j = ⟨b, off + j, none⟩ := by simp [Addr.add]
  rw [ha]
  obtain ⟨c0, c1, c2, c3, c4⟩ := h (j / 5) hi
  have e : off + j = off + j / 5 * 5 + j % 5 := by omega
  rw [e]
  generalize j % 5 = r at *
  match r, hm with
  | 0, _ => simp only [M.Cl.vals, List.getElem?_cons_zero, Option.some.injEq] at hu; subst hu; exact c0
  | 1, _ => simp only [M.Cl.vals, List.getElem?_cons_zero, List.getElem?_cons_succ, Option.some.injEq] at hu; subst hu; exact c1
  | 2, _ => simp only [M.Cl.vals, List.getElem?_cons_zero, List.getElem?_cons_succ, Option.some.injEq] at hu; subst hu; exact c2
  | 3, _ => simp only [M.Cl.vals, List.getElem?_cons_zero, List.getElem?_cons_succ, Option.some.injEq] at hu; subst hu; exact c3
  | 4, _ => simp only [M.Cl.vals, List.getElem?_cons_zero, List.getElem?_cons_succ, Option.some.injEq] at hu; subst hu; exact c4

theorem flat_one (l : List M.Cl) : ∀ u ∈ flat l, u.oneCell' = true := by
  intro u hu
  simp only [flat, List.mem_flatMap] at hu
  obtain ⟨c, _, hc⟩ := hu
  simp only [M.Cl.vals, List.mem_cons, List.not_mem_nil, or_false] at hc
  rcases hc with rfl | rfl | rfl | rfl | rfl <;> rfl

/-- An owned row of cells is an answer's row. -/
theorem res_of_owns {w : World} {B : Nat} {v : Value} {l : List M.Cl} (h : w.ownsRow B 41 5 v l.length (flat l)) (hn : l.length ≤ 1048576) : Res w B v l := by
  obtain ⟨h1, ⟨rfl, h2⟩ | ⟨g, cap, cur, rfl, hg, hh, hnc, hcm, hcs, ht⟩⟩ := h
  · exact ⟨hn, .inl ⟨rfl, List.length_eq_zero_iff.1 h2⟩⟩
  · refine ⟨hn, .inr ⟨g, cap, rfl, hg, hnc, ⟨cur.toList, ⟨cur, hh, rfl⟩, ?_, ?_⟩⟩⟩
    · simp only [Array.length_toList]; rw [hcs]; exact Nat.mul_le_mul_right 5 hnc
    · intro i hi
      have key : ∀ j, j < 5 → cur.toList[i * 5 + j]? = ((l.getD i M.zero).vals)[j]? := by
        intro j hj
        rw [← flat_get l i j hi hj, ← ht, List.getElem?_take, if_pos (by omega)]
      exact ⟨key 0 (by omega), key 1 (by omega), key 2 (by omega), key 3 (by omega), key 4 (by omega)⟩

/-- The first cell of what was laid behind l gets a key. -/
theorem flat_setKey (l p : List M.Cl) (k : ByteArray) (hp : p ≠ []) : (flat (l ++ p)).set (l.length * 5 + 3) (.string k) = flat (l ++ setKey p k) := by
  cases p with
  | nil => exact absurd rfl hp
  | cons c r =>
    rw [flat_append, flat_append, List.set_append_right _ _ (by rw [flat_length]; omega), flat_length]
    rw [show l.length * 5 + 3 - l.length * 5 = 3 from by omega]
    simp only [setKey, flat_cons]
    rfl
theorem setKey_length (p : List M.Cl) (k : ByteArray) : (setKey p k).length = p.length := by cases p <;> rfl

end Go.Proofs.Ytlmibdddfjbbdaa

namespace Go.Proofs.Ytlmibdddfjbbdaa
open Go.RowKit
set_option linter.unusedVariables false

set_option maxHeartbeats 1000000 in
theorem appendPart_any (base : Nat) (v : Value) (l p : List M.Cl) (b off c : Nat) (key : ByteArray) (w : World) (hown : w.ownsRow base 41 5 v l.length (flat l)) (hrow : Row w b off p) (hp : p ≠ []) (hn : l.length + p.length ≤ 1048576) (hbase : base ≤ w.heap.size) :
    Calls Try.prog 44 #[v, .slice (some ⟨b, off, none⟩) p.length c, .string key] w fun e w' => ∃ v', e = .returned v' ∧ w'.ownsRow base 41 5 v' (l ++ setKey p key).length (flat (l ++ setKey p key)) ∧ Below base w w' := by
  obtain ⟨i0, hi, hz0, hz1, hz2⟩ := info_parts Try.info41
  have hnews := hide (row_words hrow)
  have hone := hide (flat_one p)
  have hfl := flat_length p
  have HFL := hide hfl
  have hset := hide (flat_setKey l p key hp)
  have hpl : 0 < p.length := List.length_pos_iff.2 hp
  have hlen : (l ++ setKey p key).length = l.length + p.length := by rw [List.length_append, setKey_length]
  have HLEN := hide hlen
  have hb63 : l.length + p.length ≤ maxLen := by unfold maxLen; omega
  have hby : (l.length + p.length) * 56 ≤ 140737488355328 := by omega
  have HOWN := hide hown
  have fin : ∀ (vv : Value) (ww : World) (g cap : Nat), vv = .slice (some ⟨g, 0, none⟩) (l.length + p.length) cap → ww.ownsRow base 41 5 vv (l.length + p.length) (flat l ++ flat p) → Below base w ww → base ≤ g →
      (ww.setCell ⟨g, l.length * 5 + 3, none⟩ (.string key)).ownsRow base 41 5 vv (l ++ setKey p key).length (flat (l ++ setKey p key)) ∧ Below base w (ww.setCell ⟨g, l.length * 5 + 3, none⟩ (.string key)) := by
    rintro vv ww g cap rfl ho hb hg
    have h1 := (ho.stored (l.length * 5 + 3) (.string key)).1
    rw [← flat_append, unhide hset] at h1
    rw [unhide HLEN]
    exact ⟨h1, hb.setCell hg _⟩
  have FIN := hide fin
  clear hfl hlen fin hp hrow
  rcases hown.2 with ⟨rfl, hl0⟩ | ⟨g, cap, cur, rfl, hg, hh, hnc, hcm, hcs, htake⟩
  · clear hown
    have HL0 := hide hl0
    clear hl0
    go_enter Try.func44, Try.ntmps44
    go_wp2_with (at_builtin; refine wpList_append_own _ rfl (.tmp 10) (.tmp 11) 24 rfl base 41 i0 _ 5 56 Try.underlying24 hi hz0 hz1 hz2 rfl (by decide) (.slice none 0 0) l.length (flat l) rfl (unhide HOWN) ⟨b, off, none⟩ p.length c (flat p) rfl (unhide HFL) (unhide hnews) (unhide hone) hb63 hby hbase ?_)
    intro v' w1 ho1 hg1 hnil
    have hsh : ∃ g cap, v' = .slice (some ⟨g, 0, none⟩) (l.length + p.length) cap ∧ base ≤ g ∧ l.length + p.length ≤ cap := by
      rcases ho1.2 with ⟨_, h⟩ | ⟨g, cap, cur, h, h2, _, h3, _⟩
      · omega
      · exact ⟨g, cap, h, h2, h3⟩
    obtain ⟨g, cap, hv, hgb, hcap⟩ := hsh
    have B1 : Below base w w1 := (Below.refl base w).grown hg1 hbase (fun k hk => by simp [Value.ownBlock] at hk)
    have F := (unhide FIN) v' w1 g cap hv ho1 B1 hgb
    rw [unhide HL0] at F ho1 hv hcap
    subst hv
    have hz := ho1.frozenAt 3
    obtain ⟨u, hu⟩ := some_of_lt (xs := flat l ++ flat p) (j := 3) (by rw [List.length_append, unhide HFL]; omega)
    have hc := (ho1.cellAt 3 (by omega)).trans hu
    clear hu ho1 hg1 hnil
    have HF := hide F
    clear F
    simp only [Nat.zero_add] at hcap ⊢
    go_wp2_with fail
    go_ret
    have F := unhide HF
    simp only [Nat.zero_mul, Nat.zero_add] at F
    exact ⟨_, rfl, F.1, F.2⟩
  · clear hown hh hcs htake
    unfold maxLen at hcm
    go_enter Try.func44, Try.ntmps44
    go_wp2_with (at_builtin; refine wpList_append_own _ rfl (.tmp 10) (.tmp 11) 24 rfl base 41 i0 _ 5 56 Try.underlying24 hi hz0 hz1 hz2 rfl (by decide) (.slice (some ⟨g, 0, none⟩) l.length cap) l.length (flat l) rfl (unhide HOWN) ⟨b, off, none⟩ p.length c (flat p) rfl (unhide HFL) (unhide hnews) (unhide hone) hb63 hby hbase ?_)
    intro v' w1 ho1 hg1 hnil
    have hsh : ∃ g cap, v' = .slice (some ⟨g, 0, none⟩) (l.length + p.length) cap ∧ base ≤ g ∧ l.length + p.length ≤ cap := by
      rcases ho1.2 with ⟨_, h⟩ | ⟨g, cap, cur, h, h2, _, h3, _⟩
      · omega
      · exact ⟨g, cap, h, h2, h3⟩
    obtain ⟨g', cap', hv, hgb, hcap⟩ := hsh
    have B1 : Below base w w1 := (Below.refl base w).grown hg1 hbase (fun k hk => by simp only [Value.ownBlock, Option.some.injEq] at hk; omega)
    have F := (unhide FIN) v' w1 g' cap' hv ho1 B1 hgb
    subst hv
    have hz := ho1.frozenAt (l.length * 5 + 3)
    obtain ⟨u, hu⟩ := some_of_lt (xs := flat l ++ flat p) (j := l.length * 5 + 3) (by rw [List.length_append, flat_length, flat_length]; omega)
    have hc := (ho1.cellAt (l.length * 5 + 3) (by omega)).trans hu
    clear hu ho1 hg1 hnil
    have HF := hide F
    clear F
    go_wp2_with fail
    go_ret
    exact ⟨_, rfl, (unhide HF).1, (unhide HF).2⟩

end Go.Proofs.Ytlmibdddfjbbdaa
