/-
  spec.l10Copy: a list of nodes in memory of its own.
  spec.l10Copy, walked.
-/
import Derived.Test.YtbaanpgbfncdnaaGreatQ10
import Derived.Test.YtbaanpgbfncdnaaGreatQ25
import Derived.Test.YtbaanpgbfncdnaaGreatQ45
import Derived.Test.YtbaanpgbfncdnaaGreatQ46
import Derived.Deep.LoopGhost
import Derived.Laws.AppendOwnNone
namespace Go.Proofs.YtbaanpgbfncdnaaGreat
open Go.RowKit
set_option linter.unusedVariables false
set_option linter.unusedSimpArgs false
namespace Ste
/-- What is copied so far. -/
structure Cp (B g cap : Nat) (s : Ste) (w wr : World) (k : Nat) (xs : List Value) (v : Nat → Value) : Prop where
  own : Own wr g 47 xs
  wid : sz s * 6 ≤ xs.length
  wrd : ∀ i, i < sz s → xs[i * 6]? = some (.int .i64 ((lay 0 s).getD i Co.zero).op) ∧ xs[i * 6 + 1]? = some (.int .i64 ((lay 0 s).getD i Co.zero).a) ∧ xs[i * 6 + 2]? = some (.int .i64 ((lay 0 s).getD i Co.zero).b) ∧ xs[i * 6 + 3]? = some (.int .i64 ((lay 0 s).getD i Co.zero).c) ∧ xs[i * 6 + 4]? = some (.int .i64 ((lay 0 s).getD i Co.zero).num) ∧ xs[i * 6 + 5]? = some (v i)
  vals : ∀ i, i < sz s → Res wr 0 (v i) ((lay 0 s).getD i Co.zero).val
  bel : Below B w wr
  hB : B ≤ g
  hc : sz s ≤ cap
theorem Cp.part {B g cap : Nat} {s : Ste} {w wr : World} {k : Nat} {xs : List Value} {v : Nat → Value} (h : Cp B g cap s w wr k xs v) : Pt wr (.slice (some ⟨g, 0, none⟩) (sz s) cap) s := by
  have hl : ((List.range (sz s)).map fun i => ((lay 0 s).getD i Co.zero, v i)).length = sz s := by simp
  have hget : ∀ i, i < sz s → ((List.range (sz s)).map fun i => ((lay 0 s).getD i Co.zero, v i)).getD i Lm.z = ((lay 0 s).getD i Co.zero, v i) := fun i hi => by
    rw [List.getD_eq_getElem?_getD, List.getElem?_map, List.getElem?_range hi]; rfl
  refine ⟨(List.range (sz s)).map fun i => ((lay 0 s).getD i Co.zero, v i), .inr ⟨g, cap, xs, by rw [hl], Nat.zero_le _, by rw [hl]; exact h.hc, h.own, ⟨by rw [hl]; exact h.wid, fun i hi => ?_⟩, fun i hi => ?_⟩, ?_⟩
  · rw [hl] at hi; rw [hget i hi]; exact h.wrd i hi
  · rw [hl] at hi; rw [hget i hi]; exact h.vals i hi
  · rw [List.map_map]
    refine List.ext_getElem? fun i => ?_
    rw [List.getElem?_map]
    by_cases hi : i < sz s
    · rw [List.getElem?_range hi]
      have : i < (lay 0 s).length := by rw [lay_len]; exact hi
      simp [List.getD_eq_getElem?_getD, List.getElem?_eq_getElem this]
    · rw [List.getElem?_eq_none (by simp; omega), List.getElem?_eq_none (by rw [lay_len]; omega)]; rfl
/-- One more value is a copy. -/
theorem Cp.step {B g cap : Nat} {s : Ste} {w wr wA : World} {k : Nat} {xs : List Value} {v : Nat → Value} {y : Value} (h : Cp B g cap s w wr k xs v) (hk : k < sz s) (hb : Below wr.heap.size wr wA) (hy : Res wA 0 y ((lay 0 s).getD k Co.zero).val) (hBs : B ≤ wr.heap.size) :
    (wA.cell? ⟨g, k * 6 + 5, none⟩ = some (v k)) ∧ wA.frozen? ⟨g, k * 6 + 5, none⟩ = false ∧ Cp B g cap s w (wA.setCell ⟨g, k * 6 + 5, none⟩ y) (k + 1) (xs.set (k * 6 + 5) y) (fun i => if i = k then y else v i) := by
  have oA := h.own.below hb h.own.lt
  have hw := h.wid
  refine ⟨(oA.cell _).trans (h.wrd k hk).2.2.2.2.2, oA.frozen _, oA.set _ y, by rw [List.length_set]; exact hw, fun i hi => ?_, fun i hi => ?_, (h.bel.trans (hb.mono hBs)).setCell h.hB y, h.hB, h.hc⟩
  · have q := h.wrd i hi
    have e : ∀ j, j ≠ k * 6 + 5 → (xs.set (k * 6 + 5) y)[j]? = xs[j]? := fun j hj => by rw [List.getElem?_set]; rw [if_neg (fun e => hj e.symm)]
    refine ⟨(e _ (by omega)).trans q.1, (e _ (by omega)).trans q.2.1, (e _ (by omega)).trans q.2.2.1, (e _ (by omega)).trans q.2.2.2.1, (e _ (by omega)).trans q.2.2.2.2.1, ?_⟩
    by_cases e2 : i = k
    · subst e2
      rw [List.getElem?_set, if_pos rfl, if_pos (by omega), if_pos rfl]
    · rw [e _ (by omega), if_neg e2]
      exact q.2.2.2.2.2
  · have oc := oA
    obtain ⟨cc, hcc, _⟩ := oc
    have far : ∀ {u : Value} {l : List M.Cl}, Res wA 0 u l → Res (wA.setCell ⟨g, k * 6 + 5, none⟩ y) 0 u l := fun hr => Lw.res_keep hr fun b hb' => heap_setCell_other wA ⟨g, k * 6 + 5, none⟩ b y (fun e => by
      simp only at e
      subst e
      obtain ⟨c', hc'⟩ := Lw.res_typed hr hb'
      rw [hcc] at hc'
      simp only [Option.some.injEq, Obj.cells.injEq] at hc'
      exact absurd hc'.2.1 (by decide))
    by_cases e2 : i = k
    · subst e2
      rw [if_pos rfl]
      exact far hy
    · rw [if_neg e2]
      exact far ((h.vals i hi).below hb)
/-- The words of a part. -/
theorem Pt.words {w : World} {v : Value} {s : Ste} (h : Pt w v s) : ∃ (g cap : Nat) (ws : List Value) (vs : Nat → Value), v = .slice (some ⟨g, 0, none⟩) (sz s) cap ∧ g < w.heap.size ∧ ws.length = sz s * 6 ∧ (∀ j u, ws[j]? = some u → w.cell? ((⟨g, 0, none⟩ : Addr).add j) = some u) ∧ (∀ u ∈ ws, u.oneCell' = true) ∧ (∀ i, i < sz s → ws[i * 6]? = some (.int .i64 ((lay 0 s).getD i Co.zero).op) ∧ ws[i * 6 + 1]? = some (.int .i64 ((lay 0 s).getD i Co.zero).a) ∧ ws[i * 6 + 2]? = some (.int .i64 ((lay 0 s).getD i Co.zero).b) ∧ ws[i * 6 + 3]? = some (.int .i64 ((lay 0 s).getD i Co.zero).c) ∧ ws[i * 6 + 4]? = some (.int .i64 ((lay 0 s).getD i Co.zero).num) ∧ ws[i * 6 + 5]? = some (vs i)) ∧ ∀ i, i < sz s → Res w 0 (vs i) ((lay 0 s).getD i Co.zero).val := by
  obtain ⟨ds, h1, h2⟩ := h
  have hlen : ds.length = sz s := by have := congrArg List.length h2; rw [List.length_map, lay_len] at this; exact this
  have hp := sz_pos s
  rcases h1 with ⟨_, rfl⟩ | ⟨g, cap, xs, e1, _, hc, ho, hn, hr⟩
  · simp at hlen; omega
  · have hfst : ∀ k, k < sz s → (lay 0 s).getD k Co.zero = (ds.getD k Lm.z).1 := fun k hk => by
      rw [← h2, List.getD_eq_getElem?_getD, List.getD_eq_getElem?_getD, List.getElem?_map, List.getElem?_eq_getElem (by omega)]; rfl
    have hw6 : sz s * 6 ≤ xs.length := by have := hn.1; omega
    have hl6 : (xs.take (sz s * 6)).length = sz s * 6 := by rw [List.length_take]; omega
    have ht : ∀ j, j < sz s * 6 → (xs.take (sz s * 6))[j]? = xs[j]? := fun j hj => by rw [List.getElem?_take, if_pos hj]
    have hone : ∀ i, i < sz s → ∀ j, j < 6 → ∃ u, xs[i * 6 + j]? = some u ∧ u.oneCell' = true := fun i hi j hj => by
      have q := hn.2 i (by omega)
      obtain ⟨ya, yn, yc, hy⟩ := (hr i (by omega)).shape
      have : j = 0 ∨ j = 1 ∨ j = 2 ∨ j = 3 ∨ j = 4 ∨ j = 5 := by omega
      rcases this with rfl | rfl | rfl | rfl | rfl | rfl
      · exact ⟨_, q.1, rfl⟩
      · exact ⟨_, q.2.1, rfl⟩
      · exact ⟨_, q.2.2.1, rfl⟩
      · exact ⟨_, q.2.2.2.1, rfl⟩
      · exact ⟨_, q.2.2.2.2.1, rfl⟩
      · refine ⟨_, q.2.2.2.2.2, ?_⟩
        rw [hy]; rfl
    refine ⟨g, cap, xs.take (sz s * 6), fun i => (ds.getD i Lm.z).2, by rw [e1, hlen], ho.lt, hl6, fun j u hu => ?_, fun u hu => ?_, fun i hi => ?_, fun i hi => ?_⟩
    · have hj : j < sz s * 6 := by have := (List.getElem?_eq_some_iff.1 hu).1; omega
      rw [ht j hj] at hu
      have ha : (⟨g, 0, none⟩ : Addr).add j = ⟨g, j, none⟩ := by unfold Addr.add; split <;> simp_all
      rw [ha, ho.cell j]
      exact hu
    · obtain ⟨j, hj, e⟩ := List.getElem_of_mem hu
      have hj' : j < sz s * 6 := by omega
      obtain ⟨u', q1, q2⟩ := hone (j / 6) (by omega) (j % 6) (by omega)
      have e2 : j / 6 * 6 + j % 6 = j := by omega
      rw [e2, ← ht j hj', List.getElem?_eq_getElem hj, e] at q1
      cases q1
      exact q2
    · rw [hfst i hi]
      have q := hn.2 i (by omega)
      exact ⟨(ht _ (by omega)).trans q.1, (ht _ (by omega)).trans q.2.1, (ht _ (by omega)).trans q.2.2.1, (ht _ (by omega)).trans q.2.2.2.1, (ht _ (by omega)).trans q.2.2.2.2.1, (ht _ (by omega)).trans q.2.2.2.2.2⟩
    · rw [hfst i hi]
      exact hr i (by omega)
end Ste
end Go.Proofs.YtbaanpgbfncdnaaGreat

namespace Go.Proofs.YtbaanpgbfncdnaaGreat
open Go.RowKit
set_option linter.unusedVariables false
set_option linter.unusedSimpArgs false
set_option maxRecDepth 100000 in
set_option maxHeartbeats 4000000 in
theorem specl10Copy_any (v : Value) (s : Ste) (w : World) (h : Ste.Pt w v s) (hz : Ste.sz s ≤ 900) :
    Calls Tryz.prog 36 #[v] w fun e w' => ∃ a n c, e = .returned (.slice a n c) ∧ Ste.Pt w' (.slice a n c) s ∧ Below w.heap.size w w' := by
  obtain ⟨i0, hi0, hz0, hz1, hz2⟩ := info_parts Ste.coreInfo2
  obtain ⟨i1, hi1, hy0, hy1, hy2⟩ := info_parts Tryz.info71
  obtain ⟨g0, cap0, ws, vs, rfl, hg0, hwl, hnews, hone, hwrd, hvals⟩ := h.words
  have hBA : ∀ o, Below w.heap.size w (w.alloc o) := fun o => (Below.refl _ _).alloc (Nat.le_refl _) o
  have HROW0 := hide (show (w.alloc (.cells #[] 47)).ownsRow w.heap.size 47 6 (.slice (some ⟨w.heap.size, 0, none⟩) 0 0) 0 [] from Ste.owns_empty_k 6 (Nat.le_refl _) (heap_alloc_new _ _))
  have HNEWS := hide (fun o j u (hu : ws[j]? = some u) => show (w.alloc o).cell? ((⟨g0, 0, none⟩ : Addr).add j) = some u by
    rw [← hnews j u hu, Ste.addrAdd]
    simp only [World.cell?, (hBA o).block g0 hg0])
  have HONE := hide hone
  have HWL := hide hwl
  have HC0 := hide (fun (v3 : Value) (wA : World) (ho : wA.ownsRow w.heap.size 47 6 v3 (Ste.sz s) ws) (hg : (w.alloc (.cells #[] 47)).grownBy wA (some w.heap.size)) => show ∃ g cap xs, v3 = .slice (some ⟨g, 0, none⟩) (Ste.sz s) cap ∧ Ste.Cp w.heap.size g cap s w wA 0 xs vs by
    have hp := Ste.sz_pos s
    have bA : Below w.heap.size w wA := (hBA _).grown hg (by simp) (fun k hk => by cases hk; exact Nat.le_refl _)
    obtain ⟨h1, ⟨_, h2⟩ | ⟨g, cap, cur, h3, hgB, hh, hnc, hcm, hcs, ht⟩⟩ := ho
    · omega
    · have hget : ∀ j, j < Ste.sz s * 6 → cur.toList[j]? = ws[j]? := fun j hj => by rw [← ht, List.getElem?_take, if_pos hj]
      refine ⟨g, cap, cur.toList, h3, ⟨cur, hh, rfl⟩, by have := congrArg List.length ht; rw [List.length_take] at this; omega, fun i hi => ?_, fun i hi => (hvals i hi).below bA, bA, hgB, hnc⟩
      have q := hwrd i hi
      exact ⟨(hget _ (by omega)).trans q.1, (hget _ (by omega)).trans q.2.1, (hget _ (by omega)).trans q.2.2.1, (hget _ (by omega)).trans q.2.2.2.1, (hget _ (by omega)).trans q.2.2.2.2.1, (hget _ (by omega)).trans q.2.2.2.2.2⟩)
  have h63 : 0 + Ste.sz s ≤ maxLen := by unfold maxLen; omega
  have hby : (0 + Ste.sz s) * 64 ≤ 140737488355328 := by omega
  clear h hnews hone hwl hwrd hvals
  go_enter Tryz.func36, Tryz.ntmps36
  go_wp2_with (at_builtin; refine wpList_append_own _ rfl (.tmp 5) (.tmp 6) 24 rfl w.heap.size 47 i0 (.agg #[.int .i64 0, .int .i64 0, .int .i64 0, .int .i64 0, .int .i64 0, .slice none 0 0]) 6 64 Tryz.underlying24 hi0 hz0 hz1 hz2 rfl (by decide) _ 0 [] rfl (unhide HROW0) ⟨g0, 0, none⟩ (Ste.sz s) cap0 ws rfl (unhide HWL) ((unhide HNEWS) _) (unhide HONE) h63 hby (by simp) ?_)
  intro v3 wA ho hgr _
  try rw [Nat.zero_add] at ho
  try rw [List.nil_append] at ho
  obtain ⟨g, cap, xs0, rfl, hc0⟩ := (unhide HC0) v3 wA ho hgr
  have HCP := hide hc0
  clear ho hgr HROW0 HNEWS HONE HWL HC0 hc0 h63 hby
  go_wp2_with fail
  go_loopg [4] (Ste.sz s) (fun gh s4 wr => ∃ (k : Nat) (xs : List Value) (u : Nat → Value), Hid (gh = Ste.sz s - k) ∧ s4 = .int .i64 k ∧ k ≤ Ste.sz s ∧ Hid (Ste.Cp w.heap.size g cap s w wr k xs u))
  case atStart => exact ⟨0, xs0, vs, rfl, rfl, by omega, unhide HCP⟩
  case round =>
  clear HCP
  obtain ⟨k, xs, u, hg, rfl, hk, HC⟩ := hrel
  by_cases hlt : k < Ste.sz s
  · have hltI : (k : Int) < (Ste.sz s : Int) := by omega
    have hk0I : (0 : Int) ≤ (k : Int) := by omega
    have f5 : wr.cell? ⟨g, k * 6 + 5, none⟩ = some (u k) := ((unhide HC).own.cell _).trans ((unhide HC).wrd k hlt).2.2.2.2.2
    have f5a : ∀ o, (wr.alloc o).cell? ⟨g, k * 6 + 5, none⟩ = some (u k) := fun o => (((unhide HC).own.below ((Below.refl wr.heap.size wr).alloc (Nat.le_refl _) o) (unhide HC).own.lt).cell _).trans ((unhide HC).wrd k hlt).2.2.2.2.2
    have hres := (unhide HC).vals k hlt
    have hBs := (unhide HC).bel.size
    have hgl := (unhide HC).own.lt
    have HST := hide (fun (wB : World) (y : Value) hb hy => (unhide HC).step (wA := wB) (y := y) hlt hb hy hBs)
    generalize ((Ste.lay 0 s).getD k Co.zero).val = val at *
    have hn := hres.1
    have hbA : ∀ o, Below wr.heap.size wr (wr.alloc o) := fun o => (Below.refl _ _).alloc (Nat.le_refl _) o
    have HBA := hide hbA
    obtain ⟨wE, hwE⟩ : ∃ wE, wr.alloc (.cells #[] 71) = wE := ⟨_, rfl⟩
    have bE : Below wr.heap.size wr wE := by rw [← hwE]; exact hbA _
    have HOE := hide (show wE.ownsRow wr.heap.size 71 5 (.slice (some ⟨wr.heap.size, 0, none⟩) 0 0) 0 [] from Ste.owns_empty_k 5 (Nat.le_refl _) (by rw [← hwE]; exact heap_alloc_new _ _))
    have f5e : wE.cell? ⟨g, k * 6 + 5, none⟩ = some (u k) := by rw [← hwE]; exact f5a _
    have hsE : wr.heap.size ≤ wE.heap.size := bE.size
    clear f5a f5
    rcases hres.2 with ⟨hu, hv⟩ | ⟨gq, capq, hu, _, hcq, hoq⟩
    · -- no value
      rw [hu] at f5e
      subst hv
      have HY := hide (show Res wE 0 (.slice (some ⟨wr.heap.size, 0, none⟩) 0 0) [] from (res_of_owns (l := []) (unhide HOE) (by simp)).mono (Nat.zero_le _))
      obtain ⟨fA, zA, hstep⟩ := (unhide HST) wE _ bE (unhide HY)
      rw [hu] at fA
      have HCA := hide hstep
      clear hstep HST hres hbA HC
      go_wp2_with (at_builtin; refine wpList_append_own_none rfl (.tmp 16) (.tmp 21) 45 rfl wr.heap.size 71 i1 5 Tryz.underlying45 hi1 _ 0 [] rfl (unhide HOE) rfl ?_)
      go_wp2_with fail
      go_roundg (Ste.sz s - (k + 1))
      case rel => exact ⟨k + 1, _, _, rfl, by go_num, by omega, unhide HCA⟩
      case measure => have := hg.out; omega
    · rw [hu] at f5e
      have hrow := hoq.row
      have hgq := hoq.lt
      have HNW := hide (row_words (hrow.below bE hgq))
      have HP := hide (flat_one val)
      have HL := hide (flat_length val)
      have hb63 : 0 + val.length ≤ maxLen := by unfold maxLen; omega
      have hby : (0 + val.length) * 56 ≤ 140737488355328 := by omega
      clear hres hoq hrow hbA HC hu
      go_wp2_with (at_builtin; refine wpList_append_own _ rfl (.tmp 16) (.tmp 21) 45 rfl wr.heap.size 71 i1 _ 5 56 Tryz.underlying45 hi1 hy0 hy1 hy2 rfl (by decide) _ 0 [] rfl (unhide HOE) ⟨gq, 0, none⟩ val.length capq (flat val) rfl (unhide HL) (unhide HNW) (unhide HP) hb63 hby hsE ?_)
      intro y wB ho hgr _
      try rw [Nat.zero_add] at ho
      try rw [List.nil_append] at ho
      have bB : Below wr.heap.size wr wB := bE.grown hgr hsE (fun q hq => by cases hq; exact Nat.le_refl _)
      have ry := res_of_owns ho hn
      obtain ⟨fA, zA, hstep⟩ := (unhide HST) wB y bB (ry.mono (Nat.zero_le _))
      have HCA := hide hstep
      obtain ⟨ya, yn, yc, rfl⟩ := ry.shape
      clear hstep HST ho hgr ry HNW HP HL HOE f5e
      go_wp2_with fail
      go_roundg (Ste.sz s - (k + 1))
      case rel => exact ⟨k + 1, _, _, rfl, by go_num, by omega, unhide HCA⟩
      case measure => have := hg.out; omega
  · have hltI : ¬ (k : Int) < (Ste.sz s : Int) := by omega
    have HF := hide (And.intro (unhide HC).part (unhide HC).bel)
    clear HC
    go_wp2_with fail
    go_ret
    exact ⟨_, _, _, rfl, (unhide HF).1, (unhide HF).2⟩
end Go.Proofs.YtbaanpgbfncdnaaGreat
