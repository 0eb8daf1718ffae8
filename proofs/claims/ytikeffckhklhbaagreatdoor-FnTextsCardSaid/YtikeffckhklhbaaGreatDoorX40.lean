/-
  A drawn row of cells: a field is set, a cell is appended; spec.l1Deep.
  spec.l1Bent: a value that was drawn, something in it turned now and then.
-/
import Derived.Test.YtikeffckhklhbaaGreatDoorX01
import Derived.Test.YtikeffckhklhbaaGreatDoorX31
namespace Go.Proofs.YtikeffckhklhbaaGreatDoor
open Go.RowKit
set_option linter.unusedVariables false
set_option linter.unusedSimpArgs false

namespace Dv
theorem vals_len (c : M.Cl) : c.vals.length = 5 := rfl
theorem flat_upd (c' : M.Cl) (x : Value) (f : Nat) (hf : f < 5) : ∀ (l : List M.Cl) (i : Nat), i < l.length → c'.vals = (l.getD i M.zero).vals.set f x → (flat l).set (i * 5 + f) x = flat (l.set i c') := by
  intro l
  induction l with
  | nil => intro i h; simp at h
  | cons c r ih =>
    intro i hi hc
    cases i with
    | zero =>
      show (c.vals ++ flat r).set (0 * 5 + f) x = c'.vals ++ flat r
      rw [List.set_append_left _ _ (by rw [vals_len]; omega), hc]
      simp
    | succ i =>
      show (c.vals ++ flat r).set ((i + 1) * 5 + f) x = c.vals ++ flat (r.set i c')
      rw [List.set_append_right _ _ (by rw [vals_len]; omega), vals_len, show (i + 1) * 5 + f - 5 = i * 5 + f by omega, ih i (by simpa using hi) hc]
/-- The row as it lies: a block, its room. -/
theorem rs_some {w : World} {B : Nat} {s : Value} {l : List M.Cl} (h : Rs w B s l) (h0 : 0 < l.length) : ∃ g cap, s = .slice (some ⟨g, 0, none⟩) l.length cap ∧ B ≤ g ∧ g < w.heap.size ∧ l.length ≤ cap ∧ (∀ i f, i < l.length → f < 5 → w.cell? ⟨g, i * 5 + f, none⟩ = (l.getD i M.zero).vals[f]?) ∧ (∀ j, w.frozen? ⟨g, j, none⟩ = false)
    ∧ ∀ i f x c', i < l.length → f < 5 → c'.vals = (l.getD i M.zero).vals.set f x → Rs (w.setCell ⟨g, i * 5 + f, none⟩ x) B s (l.set i c') := by
  obtain ⟨⟨h1, ⟨_, h2⟩ | ⟨g, cap, cur, rfl, hg, hh, hnc, hcm, hcs, ht⟩⟩, hn⟩ := h
  · omega
  have hO : Own w g 41 cur.toList := ⟨cur, hh, rfl⟩
  have hlen : l.length * 5 ≤ cur.toList.length := by simp only [Array.length_toList]; rw [hcs]; exact Nat.mul_le_mul_right 5 hnc
  refine ⟨g, cap, rfl, hg, hO.lt, hnc, fun i f hi hf => ?_, fun j => hO.frozen j, fun i f x c' hi hf hc => ?_⟩
  · rw [hO.cell, ← flat_get l i f hi hf, ← ht, List.getElem?_take, if_pos (by omega)]
  · have hO2 := hO.set (i * 5 + f) x
    obtain ⟨c2, q1, q2⟩ := hO2
    refine ⟨⟨by rw [flat_length], .inr ⟨g, cap, c2, by rw [List.length_set], hg, q1, by rw [List.length_set]; exact hnc, hcm, ?_, ?_⟩⟩, by rw [List.length_set]; exact hn⟩
    · have := congrArg List.length q2
      simp only [Array.length_toList, List.length_set] at this
      rw [this, hcs]
    · rw [q2, List.length_set, List.take_set, ht]
      exact flat_upd c' x f hf l i hi hc
theorem rs_push {w : World} {B : Nat} {s : Value} {l : List M.Cl} {c : M.Cl} (h : w.ownsRow B 41 5 s (l.length + 1) (flat l ++ flat [c])) (hn : l.length ≤ 100000) : Rs w B s (l ++ [c]) := by
  refine ⟨?_, by rw [List.length_append]; simp; omega⟩
  rw [List.length_append, flat_append]
  exact h
theorem cell_new (w : World) (c : M.Cl) : ∀ j u, (flat [c])[j]? = some u → (w.alloc (.cells #[.int .i64 c.kind, .int .i64 c.num, .string c.text, .string c.key, .int .i64 c.n] 41)).cell? ((⟨w.heap.size, 0, none⟩ : Addr).add j) = some u := (one_own w w.heap.size w.heap.size c rfl (Nat.le_refl _)).cells rfl
theorem rs_kept {w w' : World} {B : Nat} {s : Value} {l : List M.Cl} (h : Rs w B s l) (hk : ∀ b, B ≤ b → b < w.heap.size → w'.heap[b]? = w.heap[b]?) : Rs w' B s l := ⟨owns_kept h.1 hk, h.2⟩
theorem rs_cut {w : World} {B g cap : Nat} {l : List M.Cl} (h : Rs w B (.slice (some ⟨g, 0, none⟩) l.length cap) l) (i : Nat) (hi : i ≤ l.length) : Rs w B (.slice (some ⟨g, 0, none⟩) i cap) (l.take i) := by
  obtain ⟨⟨h1, ⟨h2, _⟩ | ⟨g', cap', cur, h3, hg, hh, hnc, hcm, hcs, ht⟩⟩, hn⟩ := h
  · cases h2
  · cases h3
    have hl : (l.take i).length = i := by rw [List.length_take]; omega
    refine ⟨⟨by rw [flat_length], .inr ⟨g, cap, cur, by rw [hl], hg, hh, by omega, hcm, hcs, ?_⟩⟩, by omega⟩
    rw [hl]
    have e : (l.take i ++ l.drop i) = l := List.take_append_drop i l
    have e2 : flat l = flat (l.take i) ++ flat (l.drop i) := by rw [← flat_append, e]
    have e3 : cur.toList.take (i * 5) = (cur.toList.take (l.length * 5)).take (i * 5) := by rw [List.take_take, Nat.min_eq_left (Nat.mul_le_mul_right 5 hi)]
    rw [e3, ht, e2, List.take_left' (by rw [flat_length, hl])]
theorem ok_set {l : List M.Cl} (h : ∀ c ∈ l, c.ok) (i : Nat) (c' : M.Cl) (hc : c'.ok) : ∀ c ∈ l.set i c', c.ok := fun c hm => by
  rcases List.mem_or_eq_of_mem_set hm with h1 | h1
  · exact h c h1
  · rw [h1]; exact hc
theorem ok_app {l : List M.Cl} (h : ∀ c ∈ l, c.ok) (c' : M.Cl) (hc : c'.ok) : ∀ c ∈ l ++ [c'], c.ok := fun c hm => by
  rcases List.mem_append.1 hm with h1 | h1
  · exact h c h1
  · rw [List.mem_singleton] at h1; rw [h1]; exact hc
end Dv
set_option maxRecDepth 100000 in
set_option maxHeartbeats 4000000 in
theorem l1Deep_any (n : Nat) (w : World) (hn1 : 1 ≤ n) (hn : n ≤ 30) : Calls Tryz.prog 30 #[.int .i64 (n : Int)] w fun e w' => ∃ s l, e = .returned s ∧ Rs w' w.heap.size s l ∧ l.length ≤ 30 ∧ 0 < l.length ∧ (∀ c ∈ l, c.ok) ∧ Below w.heap.size w w' := by
  obtain ⟨i0, hi, hz0, hz1, hz2⟩ := info_parts Tryz.info41
  go_enter Tryz.func30, Tryz.ntmps30
  go_wp2_with fail
  go_loopg [0, 3] n (fun gh s0 s3 wr => ∃ (m : Nat) (l : List M.Cl), Hid (gh = m) ∧ s0 = .int .i64 m ∧ 1 ≤ m ∧ l.length + m ≤ 30 ∧ Hid (wr.ownsRow w.heap.size 41 5 s3 l.length (flat l)) ∧ Hid (∀ c ∈ l, c.ok) ∧ Hid (Below w.heap.size w wr))
  case atStart => exact ⟨n, [], rfl, rfl, hn1, by simp; omega, (show World.ownsRow _ _ _ _ _ 0 [] from ⟨rfl, .inr ⟨w.heap.size, 0, #[], rfl, Nat.le_refl _, heap_alloc_new _ _, Nat.le_refl _, by simp [maxLen], rfl, rfl⟩⟩), fun c hc => (by cases hc), (Below.refl _ _).alloc (Nat.le_refl _) _⟩
  case round =>
  obtain ⟨m, l, hg, rfl, hm1, hlm, HO, HK, HB⟩ := hrel
  obtain ⟨xa, xn, xc, hs3⟩ : ∃ a k c, u3 = .slice a k c := by
    obtain ⟨_, ⟨h2, _⟩ | ⟨g, cap, cur, h3, _⟩⟩ := unhide HO
    · exact ⟨_, _, _, h2⟩
    · exact ⟨_, _, _, h3⟩
  subst hs3
  have hb63 : l.length + 1 ≤ maxLen := by unfold maxLen; omega
  have hby : (l.length + 1) * 56 ≤ 140737488355328 := by omega
  have hbs := (unhide HB).size
  have HBSE := hide (ownsRow_base (unhide HO))
  have HOWN := hide (fun o => (unhide HO).alloc o)
  by_cases hm : 1 < m
  · obtain ⟨m', rfl⟩ : ∃ m', m = m' + 1 := ⟨m - 1, by omega⟩
    have hmI : (1 : Int) < ((m' + 1 : Nat) : Int) := by omega
    have hwm : IntKind.i64.wrap ((m' : Int)) = (m' : Int) := IntWalk.i64_in _ ⟨by omega, by omega⟩
    have hmm : ((m' + 1 : Nat) : Int) - 1 = (m' : Int) := by omega
    have hnew := hide (Dv.cell_new wr ⟨5, 0, ByteArray.empty, ByteArray.empty, 1⟩)
    have hone := hide (flat_one [⟨5, 0, ByteArray.empty, ByteArray.empty, 1⟩])
    go_wp2_with (at_builtin; refine wpList_append_own _ rfl (.tmp 9) (.tmp 11) 24 rfl w.heap.size 41 i0 _ 5 56 Tryz.underlying24 hi hz0 hz1 hz2 rfl (by decide) _ l.length _ rfl ((unhide HOWN) _) ⟨wr.heap.size, 0, none⟩ 1 1 (flat [⟨5, 0, ByteArray.empty, ByteArray.empty, 1⟩]) rfl rfl (unhide hnew) (unhide hone) hb63 hby (by simp; omega) ?_)
    intro v' w2 ho2 hg2 _
    have H2 := hide (Dv.rs_push ho2 (by omega))
    have B2 := hide (((unhide HB).alloc hbs _).grown hg2 (by simp; omega) (unhide HBSE))
    have K2 := hide (Dv.ok_app (unhide HK) ⟨5, 0, ByteArray.empty, ByteArray.empty, 1⟩ (Dv.ok_mk (by decide) (by decide) (by decide) (by decide) (by decide)))
    obtain ⟨ya, yn, yc, hv2⟩ := (unhide H2).shape
    subst hv2
    clear ho2 hg2 HO HOWN hnew hone HB HK
    go_wp2_with fail
    go_roundg m'
    case rel => exact ⟨m', l ++ [(⟨5, 0, ByteArray.empty, ByteArray.empty, 1⟩ : M.Cl)], rfl, by first | rfl | go_num | (simp; omega), by omega, by rw [List.length_append]; simp; omega, (unhide H2).1, unhide K2, unhide B2⟩
    case measure => have := hg.out; omega
  · have hmI : ¬ (1 : Int) < (m : Int) := by omega
    have hnew := hide (Dv.cell_new wr ⟨5, 0, ByteArray.empty, ByteArray.empty, 0⟩)
    have hone := hide (flat_one [⟨5, 0, ByteArray.empty, ByteArray.empty, 0⟩])
    go_wp2_with (at_builtin; refine wpList_append_own _ rfl (.tmp 13) (.tmp 15) 24 rfl w.heap.size 41 i0 _ 5 56 Tryz.underlying24 hi hz0 hz1 hz2 rfl (by decide) _ l.length _ rfl ((unhide HOWN) _) ⟨wr.heap.size, 0, none⟩ 1 1 (flat [⟨5, 0, ByteArray.empty, ByteArray.empty, 0⟩]) rfl rfl (unhide hnew) (unhide hone) hb63 hby (by simp; omega) ?_)
    intro v' w2 ho2 hg2 _
    have H2 := hide (Dv.rs_push ho2 (by omega))
    have B2 := hide (((unhide HB).alloc hbs _).grown hg2 (by simp; omega) (unhide HBSE))
    have K2 := hide (Dv.ok_app (unhide HK) ⟨5, 0, ByteArray.empty, ByteArray.empty, 0⟩ (Dv.ok_mk (by decide) (by decide) (by decide) (by decide) (by decide)))
    obtain ⟨ya, yn, yc, hv2⟩ := (unhide H2).shape
    subst hv2
    clear ho2 hg2 HO HOWN hnew hone HB HK
    go_wp2_with fail
    go_ret
    exact ⟨_, l ++ [(⟨5, 0, ByteArray.empty, ByteArray.empty, 0⟩ : M.Cl)], rfl, unhide H2, by rw [List.length_append]; simp; omega, by rw [List.length_append]; simp, unhide K2, unhide B2⟩

end Go.Proofs.YtikeffckhklhbaaGreatDoor

namespace Go.Proofs.YtikeffckhklhbaaGreatDoor
open Go.RowKit
set_option linter.unusedVariables false
set_option linter.unusedSimpArgs false

namespace Dv
def Bent (w : World) (bs : Nat) (a : Option Addr) (len cap at_ K : Nat) (e : Ending) (w' : World) : Prop :=
  ∃ s l at2, e = .returned s ∧ Rs w' w.heap.size s l ∧ l.length ≤ 300 ∧ (∀ c ∈ l, c.ok) ∧ Src w' bs a len cap at2 ∧ at2 ≤ at_ + K ∧ Tch w.heap.size bs w w' ∧ ∃ g gc, s = .slice (some ⟨g, 0, none⟩) l.length gc
theorem rs_at {w : World} {B g cap : Nat} {l : List M.Cl} (h : Rs w B (.slice (some ⟨g, 0, none⟩) l.length cap) l) (h0 : 0 < l.length) : B ≤ g ∧ g < w.heap.size ∧ l.length ≤ cap ∧ (∀ i f, i < l.length → f < 5 → w.cell? ⟨g, i * 5 + f, none⟩ = (l.getD i M.zero).vals[f]?) ∧ (∀ j, w.frozen? ⟨g, j, none⟩ = false)
    ∧ ∀ i f x c', i < l.length → f < 5 → c'.vals = (l.getD i M.zero).vals.set f x → Rs (w.setCell ⟨g, i * 5 + f, none⟩ x) B (.slice (some ⟨g, 0, none⟩) l.length cap) (l.set i c') := by
  obtain ⟨g', cap', e, h1⟩ := rs_some h h0
  cases e
  exact h1
theorem tch_set {B b g j : Nat} {w w' : World} (h : Tch B b w w') (hg : B ≤ g) (x : Value) : Tch B b w (w'.setCell ⟨g, j, none⟩ x) :=
  h.trans (Tch.of_below' ((Below.refl B w').setCell (p := ⟨g, j, none⟩) hg x))
theorem get_ok {l : List M.Cl} (h : ∀ c ∈ l, c.ok) {i : Nat} (hi : i < l.length) : (l.getD i M.zero).ok := by
  rw [List.getD_eq_getElem?_getD, List.getElem?_eq_getElem hi]
  exact h _ (List.getElem_mem hi)
theorem src_drew {w : World} {bs len cap at_ : Nat} {a : Option Addr} (h : Src w bs a len cap at_) : Src w.drew bs a len cap at_ := h.drewN 1
theorem own_drew {w : World} {b : Nat} {t : TypeId} {xs : List Value} (h : Own w b t xs) : Own w.drew b t xs := h
theorem tch_drew {B b : Nat} {w w' : World} (h : Tch B b w.drew w') : Tch B b w w' := ⟨h.os, h.tape, h.output, h.size, h.block⟩
theorem wrap_in (n : Int) : -9223372036854775808 ≤ IntKind.i64.wrap n ∧ IntKind.i64.wrap n ≤ 9223372036854775807 := by
  simp [IntKind.wrap, IntKind.bits, IntKind.signed]
  omega
theorem rs_set1 {w : World} {B g cap n : Nat} {l : List M.Cl} (h : Rs w B (.slice (some ⟨g, 0, none⟩) n cap) l) (hn : n = l.length) (h0 : 0 < l.length) (f : Nat) (x : Value) (c' : M.Cl) (hf : f < 5) (hc : c'.vals = (l.getD 0 M.zero).vals.set f x) : Rs (w.setCell ⟨g, f, none⟩ x) B (.slice (some ⟨g, 0, none⟩) n cap) (l.set 0 c') := by
  subst hn
  have := (rs_at h h0).2.2.2.2.2 0 f x c' h0 hf hc
  rw [Nat.zero_mul, Nat.zero_add] at this
  exact this
theorem get_set0 {l : List M.Cl} (h0 : 0 < l.length) (c : M.Cl) : (l.set 0 c).getD 0 M.zero = c := by
  rw [List.getD_eq_getElem?_getD, List.getElem?_set_self h0]
  rfl
theorem rs_put5 {w : World} {B g cap : Nat} {l : List M.Cl} (h : Rs w B (.slice (some ⟨g, 0, none⟩) l.length cap) l) (h0 : 0 < l.length) (k n : Int) (t y : ByteArray) (m : Int) :
    Rs (((((w.setCell ⟨g, 0, none⟩ (.int .i64 k)).setCell ⟨g, 1, none⟩ (.int .i64 n)).setCell ⟨g, 2, none⟩ (.string t)).setCell ⟨g, 3, none⟩ (.string y)).setCell ⟨g, 4, none⟩ (.int .i64 m)) B (.slice (some ⟨g, 0, none⟩) l.length cap) (l.set 0 ⟨k, n, t, y, m⟩) := by
  obtain ⟨c, hc⟩ : ∃ c, c = l.getD 0 M.zero := ⟨_, rfl⟩
  have e : ∀ (c1 c2 : M.Cl), (l.set 0 c1).set 0 c2 = l.set 0 c2 := fun c1 c2 => List.set_set ..
  have hl : ∀ c1 : M.Cl, l.length = (l.set 0 c1).length := fun c1 => by rw [List.length_set]
  have p : ∀ c1 : M.Cl, 0 < (l.set 0 c1).length := fun c1 => by rw [List.length_set]; exact h0
  have h1 := rs_set1 h rfl h0 0 (.int .i64 k) ⟨k, c.num, c.text, c.key, c.n⟩ (by decide) (by rw [← hc]; rfl)
  have h2 := rs_set1 h1 (hl _) (p _) 1 (.int .i64 n) ⟨k, n, c.text, c.key, c.n⟩ (by decide) (by rw [get_set0 h0]; rfl)
  rw [e] at h2
  have h3 := rs_set1 h2 (hl _) (p _) 2 (.string t) ⟨k, n, t, c.key, c.n⟩ (by decide) (by rw [get_set0 h0]; rfl)
  rw [e] at h3
  have h4 := rs_set1 h3 (hl _) (p _) 3 (.string y) ⟨k, n, t, y, c.n⟩ (by decide) (by rw [get_set0 h0]; rfl)
  rw [e] at h4
  have h5 := rs_set1 h4 (hl _) (p _) 4 (.int .i64 m) ⟨k, n, t, y, m⟩ (by decide) (by rw [get_set0 h0]; rfl)
  rw [e] at h5
  exact h5
theorem zero_at (n : Nat) (i : Nat) : (List.replicate n M.zero).getD i M.zero = M.zero := by rw [List.getD_eq_getElem?_getD, List.getElem?_replicate]; split <;> rfl
theorem mk5_flat (n : Nat) : (mk5 n).toList = flat (List.replicate n M.zero) := by
  refine List.ext_getElem? fun j => ?_
  by_cases hj : j < n * 5
  · have e : j = (j / 5) * 5 + j % 5 := by omega
    have hi : j / 5 < n := by omega
    rw [e, flat_get _ _ _ (by simpa using hi) (Nat.mod_lt _ (by decide)), ← e]
    have e2 : (List.replicate n M.zero).getD (j / 5) M.zero = M.zero := by rw [List.getD_eq_getElem?_getD, List.getElem?_replicate]; split <;> rfl
    rw [e2]
    have e3 : (mk5 n).toList[j]? = some ((#[.int .i64 0, .int .i64 0, .string ByteArray.empty, .string ByteArray.empty, .int .i64 0] : Array Value)[j % 5]!) := by
      unfold mk5 madeCells
      simp [hj]
    rw [e3]
    have hm : j % 5 < 5 := Nat.mod_lt _ (by decide)
    generalize j % 5 = f at *
    obtain rfl | rfl | rfl | rfl | rfl : f = 0 ∨ f = 1 ∨ f = 2 ∨ f = 3 ∨ f = 4 := by omega
    all_goals rfl
  · rw [List.getElem?_eq_none (by simp only [Array.length_toList, size_mk5]; omega), List.getElem?_eq_none (by rw [flat_length, List.length_replicate]; omega)]
theorem rs_made (w : World) (n : Nat) (hn : n ≤ 1000) : Rs (w.alloc (.cells (mk5 n) 41)) w.heap.size (.slice (some ⟨w.heap.size, 0, none⟩) n n) (List.replicate n M.zero) := by
  refine ⟨⟨flat_length _, .inr ⟨w.heap.size, n, mk5 n, by rw [List.length_replicate], Nat.le_refl _, heap_alloc_new _ _, by rw [List.length_replicate]; exact Nat.le_refl _, by unfold maxLen; omega, size_mk5 n, ?_⟩⟩, by rw [List.length_replicate]; omega⟩
  rw [List.length_replicate, List.take_of_length_le (by simp only [Array.length_toList, size_mk5]; exact Nat.le_refl _), mk5_flat]
end Dv

end Go.Proofs.YtikeffckhklhbaaGreatDoor
