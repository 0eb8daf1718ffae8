/-
  A drawn row of cells: a field is set, a cell is appended; spec.l1Deep.
-/
import Derived.Test.YtfcglmkbfdfaeaaS32
namespace Go.Proofs.Ytfcglmkbfdfaeaa
open Go.RowKit
set_option linter.unusedVariables false
set_option linter.unusedSimpArgs false

namespace Dv
theorem vals_len (c : M.Cl) : c.vals.length = 5 := rfl
theorem flat_upd (c' : M.Cl) (x : Value) (f : Nat) (hf : f < 5) : ∀ (l : List M.Cl) (i : Nat), i < l.length → c'.vals = (l.getD i M.zero).vals.set f x → (flat l).set (i * 5 + f) x = flat (l.set i c') := by
  intro l
  induction l with
  | nil => intro i h; simp at h
  | cons c r ih =>
    intro i hi hc
    cases i with
    | zero =>
      show (c.vals ++ flat r).set (0 * 5 + f) x = c'.vals ++ flat r
      rw [List.set_append_left _ _ (by rw [vals_len]; omega), hc]
      simp
    | succ i =>
      show (c.vals ++ flat r).set ((i + 1) * 5 + f) x = c.vals ++ flat (r.set i c')
      rw [List.set_append_right _ _ (by rw [vals_len]; omega), vals_len, show (i + 1) * 5 + f - 5 = i * 5 + f by omega, ih i (by simpa using hi) hc]
/-- The row as it lies: a block, its room. -/
theorem rs_some {w : World} {B : Nat} {s : Value} {l : List M.Cl} (h : Rs w B s l) (h0 : 0 < l.length) : ∃ g cap, s = .slice (some ⟨g, 0, none⟩) l.length cap ∧ B ≤ g ∧ g < w.heap.size ∧ l.length ≤ cap ∧ (∀ i f, i < l.length → f < 5 → w.cell? ⟨g, i * 5 + f, none⟩ = (l.getD i M.zero).vals[f]?) ∧ (∀ j, w.frozen? ⟨g, j, none⟩ = false)
    ∧ ∀ i f x c', i < l.length → f < 5 → c'.vals = (l.getD i M.zero).vals.set f x → Rs (w.setCell ⟨g, i * 5 + f, none⟩ x) B s (l.set i c') := by
  obtain ⟨⟨h1, ⟨_, h2⟩ | ⟨g, cap, cur, rfl, hg, hh, hnc, hcm, hcs, ht⟩⟩, hn⟩ := h
  · omega
  have hO : Own w g 34 cur.toList := ⟨cur, hh, rfl⟩
  have hlen : l.length * 5 ≤ cur.toList.length := by simp only [Array.length_toList]; rw [hcs]; exact Nat.mul_le_mul_right 5 hnc
  refine ⟨g, cap, rfl, hg, hO.lt, hnc, fun i f hi hf => ?_, fun j => hO.frozen j, fun i f x c' hi hf hc => ?_⟩
  · rw [hO.cell, ← flat_get l i f hi hf, ← ht, List.getElem?_take, if_pos (by omega)]
  · have hO2 := hO.set (i * 5 + f) x
    obtain ⟨c2, q1, q2⟩ := hO2
    refine ⟨⟨by rw [flat_length], .inr ⟨g, cap, c2, by rw [List.length_set], hg, q1, by rw [List.length_set]; exact hnc, hcm, ?_, ?_⟩⟩, by rw [List.length_set]; exact hn⟩
    · have := congrArg List.length q2
      simp only [Array.length_toList, List.length_set] at this
      rw [this, hcs]
    · rw [q2, List.length_set, List.take_set, ht]
      exact flat_upd c' x f hf l i hi hc
theorem rs_push {w : World} {B : Nat} {s : Value} {l : List M.Cl} {c : M.Cl} (h : w.ownsRow B 34 5 s (l.length + 1) (flat l ++ flat [c])) (hn : l.length ≤ 100000) : Rs w B s (l ++ [c]) := by
  refine ⟨?_, by rw [List.length_append]; simp; omega⟩
  rw [List.length_append, flat_append]
  exact h
theorem cell_new (w : World) (c : M.Cl) : ∀ j u, (flat [c])[j]? = some u → (w.alloc (.cells #[.int .i64 c.kind, .int .i64 c.num, .string c.text, .string c.key, .int .i64 c.n] 34)).cell? ((⟨w.heap.size, 0, none⟩ : Addr).add j) = some u := (one_own w w.heap.size w.heap.size c rfl (Nat.le_refl _)).cells rfl
theorem rs_kept {w w' : World} {B : Nat} {s : Value} {l : List M.Cl} (h : Rs w B s l) (hk : ∀ b, B ≤ b → b < w.heap.size → w'.heap[b]? = w.heap[b]?) : Rs w' B s l := ⟨owns_kept h.1 hk, h.2⟩
theorem rs_cut {w : World} {B g cap : Nat} {l : List M.Cl} (h : Rs w B (.slice (some ⟨g, 0, none⟩) l.length cap) l) (i : Nat) (hi : i ≤ l.length) : Rs w B (.slice (some ⟨g, 0, none⟩) i cap) (l.take i) := by
  obtain ⟨⟨h1, ⟨h2, _⟩ | ⟨g', cap', cur, h3, hg, hh, hnc, hcm, hcs, ht⟩⟩, hn⟩ := h
  · cases h2
  · cases h3
    have hl : (l.take i).length = i := by rw [List.length_take]; omega
    refine ⟨⟨by rw [flat_length], .inr ⟨g, cap, cur, by rw [hl], hg, hh, by omega, hcm, hcs, ?_⟩⟩, by omega⟩
    rw [hl]
    have e : (l.take i ++ l.drop i) = l := List.take_append_drop i l
    have e2 : flat l = flat (l.take i) ++ flat (l.drop i) := by rw [← flat_append, e]
    have e3 : cur.toList.take (i * 5) = (cur.toList.take (l.length * 5)).take (i * 5) := by rw [List.take_take, Nat.min_eq_left (Nat.mul_le_mul_right 5 hi)]
    rw [e3, ht, e2, List.take_left' (by rw [flat_length, hl])]
theorem ok_set {l : List M.Cl} (h : ∀ c ∈ l, c.ok) (i : Nat) (c' : M.Cl) (hc : c'.ok) : ∀ c ∈ l.set i c', c.ok := fun c hm => by
  rcases List.mem_or_eq_of_mem_set hm with h1 | h1
  · exact h c h1
  · rw [h1]; exact hc
theorem ok_app {l : List M.Cl} (h : ∀ c ∈ l, c.ok) (c' : M.Cl) (hc : c'.ok) : ∀ c ∈ l ++ [c'], c.ok := fun c hm => by
  rcases List.mem_append.1 hm with h1 | h1
  · exact h c h1
  · rw [List.mem_singleton] at h1; rw [h1]; exact hc
end Dv
set_option maxRecDepth 100000 in
set_option maxHeartbeats 4000000 in
theorem l1Deep_any (n : Nat) (w : World) (hn1 : 1 ≤ n) (hn : n ≤ 30) : Calls Try.prog 38 #[.int .i64 (n : Int)] w fun e w' => ∃ s l, e = .returned s ∧ Rs w' w.heap.size s l ∧ l.length ≤ 30 ∧ 0 < l.length ∧ (∀ c ∈ l, c.ok) ∧ Below w.heap.size w w' := by
  obtain ⟨i0, hi, hz0, hz1, hz2⟩ := info_parts Try.info34
  go_enter Try.func38, Try.ntmps38
  go_wp2_with fail
  go_loopg [0, 3] n (fun gh s0 s3 wr => ∃ (m : Nat) (l : List M.Cl), Hid (gh = m) ∧ s0 = .int .i64 m ∧ 1 ≤ m ∧ l.length + m ≤ 30 ∧ Hid (wr.ownsRow w.heap.size 34 5 s3 l.length (flat l)) ∧ Hid (∀ c ∈ l, c.ok) ∧ Hid (Below w.heap.size w wr))
  case atStart => exact ⟨n, [], rfl, rfl, hn1, by simp; omega, (show World.ownsRow _ _ _ _ _ 0 [] from ⟨rfl, .inr ⟨w.heap.size, 0, #[], rfl, Nat.le_refl _, heap_alloc_new _ _, Nat.le_refl _, by simp [maxLen], rfl, rfl⟩⟩), fun c hc => (by cases hc), (Below.refl _ _).alloc (Nat.le_refl _) _⟩
  case round =>
  obtain ⟨m, l, hg, rfl, hm1, hlm, HO, HK, HB⟩ := hrel
  obtain ⟨xa, xn, xc, hs3⟩ : ∃ a k c, u3 = .slice a k c := by
    obtain ⟨_, ⟨h2, _⟩ | ⟨g, cap, cur, h3, _⟩⟩ := unhide HO
    · exact ⟨_, _, _, h2⟩
    · exact ⟨_, _, _, h3⟩
  subst hs3
  have hb63 : l.length + 1 ≤ maxLen := by unfold maxLen; omega
  have hby : (l.length + 1) * 56 ≤ 140737488355328 := by omega
  have hbs := (unhide HB).size
  have HBSE := hide (ownsRow_base (unhide HO))
  have HOWN := hide (fun o => (unhide HO).alloc o)
  by_cases hm : 1 < m
  · obtain ⟨m', rfl⟩ : ∃ m', m = m' + 1 := ⟨m - 1, by omega⟩
    have hmI : (1 : Int) < ((m' + 1 : Nat) : Int) := by omega
    have hwm : IntKind.i64.wrap ((m' : Int)) = (m' : Int) := IntWalk.i64_in _ ⟨by omega, by omega⟩
    have hmm : ((m' + 1 : Nat) : Int) - 1 = (m' : Int) := by omega
    have hnew := hide (Dv.cell_new wr ⟨5, 0, ByteArray.empty, ByteArray.empty, 1⟩)
    have hone := hide (flat_one [⟨5, 0, ByteArray.empty, ByteArray.empty, 1⟩])
    go_wp2_with (at_builtin; refine wpList_append_own _ rfl (.tmp 9) (.tmp 11) 24 rfl w.heap.size 34 i0 _ 5 56 Try.underlying24 hi hz0 hz1 hz2 rfl (by decide) _ l.length _ rfl ((unhide HOWN) _) ⟨wr.heap.size, 0, none⟩ 1 1 (flat [⟨5, 0, ByteArray.empty, ByteArray.empty, 1⟩]) rfl rfl (unhide hnew) (unhide hone) hb63 hby (by simp; omega) ?_)
    intro v' w2 ho2 hg2 _
    have H2 := hide (Dv.rs_push ho2 (by omega))
    have B2 := hide (((unhide HB).alloc hbs _).grown hg2 (by simp; omega) (unhide HBSE))
    have K2 := hide (Dv.ok_app (unhide HK) ⟨5, 0, ByteArray.empty, ByteArray.empty, 1⟩ (Dv.ok_mk (by decide) (by decide) (by decide) (by decide) (by decide)))
    obtain ⟨ya, yn, yc, hv2⟩ := (unhide H2).shape
    subst hv2
    clear ho2 hg2 HO HOWN hnew hone HB HK
    go_wp2_with fail
    go_roundg m'
    case rel => exact ⟨m', l ++ [(⟨5, 0, ByteArray.empty, ByteArray.empty, 1⟩ : M.Cl)], rfl, by first | rfl | go_num | (simp; omega), by omega, by rw [List.length_append]; simp; omega, (unhide H2).1, unhide K2, unhide B2⟩
    case measure => have := hg.out; omega
  · have hmI : ¬ (1 : Int) < (m : Int) := by omega
    have hnew := hide (Dv.cell_new wr ⟨5, 0, ByteArray.empty, ByteArray.empty, 0⟩)
    have hone := hide (flat_one [⟨5, 0, ByteArray.empty, ByteArray.empty, 0⟩])
    go_wp2_with (at_builtin; refine wpList_append_own _ rfl (.tmp 13) (.tmp 15) 24 rfl w.heap.size 34 i0 _ 5 56 Try.underlying24 hi hz0 hz1 hz2 rfl (by decide) _ l.length _ rfl ((unhide HOWN) _) ⟨wr.heap.size, 0, none⟩ 1 1 (flat [⟨5, 0, ByteArray.empty, ByteArray.empty, 0⟩]) rfl rfl (unhide hnew) (unhide hone) hb63 hby (by simp; omega) ?_)
    intro v' w2 ho2 hg2 _
    have H2 := hide (Dv.rs_push ho2 (by omega))
    have B2 := hide (((unhide HB).alloc hbs _).grown hg2 (by simp; omega) (unhide HBSE))
    have K2 := hide (Dv.ok_app (unhide HK) ⟨5, 0, ByteArray.empty, ByteArray.empty, 0⟩ (Dv.ok_mk (by decide) (by decide) (by decide) (by decide) (by decide)))
    obtain ⟨ya, yn, yc, hv2⟩ := (unhide H2).shape
    subst hv2
    clear ho2 hg2 HO HOWN hnew hone HB HK
    go_wp2_with fail
    go_ret
    exact ⟨_, l ++ [(⟨5, 0, ByteArray.empty, ByteArray.empty, 0⟩ : M.Cl)], rfl, unhide H2, by rw [List.length_append]; simp; omega, by rw [List.length_append]; simp, unhide K2, unhide B2⟩

end Go.Proofs.Ytfcglmkbfdfaeaa
