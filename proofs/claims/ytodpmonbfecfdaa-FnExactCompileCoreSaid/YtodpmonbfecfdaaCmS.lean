/-
  spec.l8With: the registers of slots, with one more.
  spec.l8Val: an instruction with a value, which is copied.
  Compiling, the walks' frame: what was laid and what is kept, step by step; what a call that lays a node says.
-/
import Derived.Test.YtodpmonbfecfdaaCmQ
import Derived.Test.YtodpmonbfecfdaaChildT
import Derived.Test.YtodpmonbfecfdaaAnyZ
import Derived.Test.YtodpmonbfecfdaaAppendP
import Derived.Deep.RegionWith
import Derived.Deep.CutRange
namespace Go.Proofs.Ytodpmonbfecfdaa
open Go.RowKit
set_option linter.unusedVariables false
set_option linter.unusedSimpArgs false


namespace Cm
/-- Registers that lie anywhere are kept. -/
theorem Ke.regs {T : TypeId} {pb : Nat} {w w' : World} (h : Ke T pb w w') (hT : T ≠ 2) {base : Nat} {v : Value} {n : Nat} {xs : List Value} (ho : w.ownsRow base 2 1 v n xs) : w'.ownsRow base 2 1 v n xs := by
  obtain ⟨h1, h2 | ⟨g, cap, cur, h3, h4, h5, h6⟩⟩ := ho
  · exact ⟨h1, .inl h2⟩
  · exact ⟨h1, .inr ⟨g, cap, cur, h3, h4, (h.kept g cur _ _ h5 (by decide) (fun e => hT e.symm)).trans h5, h6⟩⟩
/-- One of the registers, and one set anew. -/
theorem regs_at {w : World} {base : Nat} {v : Value} {xs : List Value} (h : w.ownsRow base 2 1 v xs.length xs) {k : Nat} (hk : k < xs.length) : ∃ g cap : Nat, v = .slice (some ⟨g, 0, none⟩) xs.length cap ∧ xs.length ≤ cap ∧ base ≤ g ∧ g < w.heap.size ∧ w.cell? ⟨g, k, none⟩ = xs[k]? ∧ w.frozen? ⟨g, k, none⟩ = false ∧ ∀ x : Value, (w.setCell ⟨g, k, none⟩ x).ownsRow base 2 1 v xs.length (xs.set k x) := by
  obtain ⟨h1, ⟨h2, h3⟩ | ⟨g, cap, cur, h4, hg', hh, h5, h6, h7, h8⟩⟩ := h
  · omega
  · have hO : Own w g 2 cur.toList := ⟨cur, hh, rfl⟩
    refine ⟨g, cap, h4, h5, hg', hO.lt, (hO.cell k).trans (by rw [← h8, List.getElem?_take, if_pos (by omega)]), hO.frozen k, fun x => ⟨by rw [List.length_set]; exact h1, .inr ⟨g, cap, cur.setIfInBounds k x, h4, hg', heap_setCell_same w g k cur _ _ hh, h5, h6, by rw [Array.size_setIfInBounds]; exact h7, ?_⟩⟩⟩
    have h9 : ((cur.toList).take (xs.length * 1)).set k x = xs.set k x := by rw [h8]
    rw [Array.toList_setIfInBounds, List.take_set]
    exact h9
end Cm
set_option maxRecDepth 100000 in
set_option maxHeartbeats 4000000 in
theorem l8With_any (base : Nat) (v : Value) (rs : List Int) (k : Nat) (r : Int) (w : World) (h : w.ownsRow base 2 1 v rs.length (rs.map (Value.int .i64))) (hk : k < rs.length) (hl : rs.length ≤ 100000) :
    Calls Try.prog 41 #[v, .int .i64 (k : Int), .int .i64 r] w fun e w' => ∃ v', e = .returned v' ∧ w'.ownsRow w.heap.size 2 1 v' (rs.set k r).length ((rs.set k r).map (Value.int .i64)) ∧ Below w.heap.size w w' := by
  obtain ⟨i0, hi, hz0, hz1, hz2⟩ := info_parts Try.info2
  obtain ⟨xs, hxs⟩ : ∃ xs, xs = rs.map (Value.int .i64) := ⟨_, rfl⟩
  have hxl : xs.length = rs.length := by rw [hxs, List.length_map]
  rw [← hxs, ← hxl] at h
  obtain ⟨g, cap, rfl, hcap, hgb, hgl, _⟩ := Cm.regs_at h (k := k) (by omega)
  obtain ⟨w1, hw1⟩ : ∃ w1, w1 = w.alloc (.cells #[] 2) := ⟨_, rfl⟩
  have B1 : Below w.heap.size w w1 := by rw [hw1]; exact (Below.refl _ _).alloc (Nat.le_refl _) _
  have hO : w1.ownsRow w.heap.size 2 1 (.slice (some ⟨w.heap.size, 0, none⟩) 0 0) 0 [] := by rw [hw1]; exact Ap.owns_empty (Nat.le_refl _) (heap_alloc_new _ _)
  have hnews : ∀ j u, xs[j]? = some u → w1.cell? ((⟨g, 0, none⟩ : Addr).add j) = some u := fun j u hu => by
    have hj : j < xs.length := (List.getElem?_eq_some_iff.1 hu).1
    have ha : (⟨g, 0, none⟩ : Addr).add j = ⟨g, j, none⟩ := by unfold Addr.add; split <;> simp_all
    obtain ⟨g', cap', e, _, _, _, hc, _⟩ := Cm.regs_at h hj
    injection e with e1 e2 e3
    injection e1 with e1
    injection e1 with e1 _ _
    subst e1
    rw [ha, B1.cell (p := ⟨g, j, none⟩) hgl, hc]
    exact hu
  have hplain : ∀ u ∈ xs, u.oneCell' = true := fun u hu => by rw [hxs] at hu; obtain ⟨z, _, rfl⟩ := List.mem_map.1 hu; rfl
  have HO := hide hO
  have HN := hide hnews
  have HP := hide hplain
  have hbse := hide (ownsRow_base hO)
  have hb63 : 0 + xs.length ≤ maxLen := by unfold maxLen; omega
  have hby : (0 + xs.length) * 8 ≤ 140737488355328 := by omega
  have HB1 := hide B1
  have HXS := hide hxs
  have HXL := hide hxl
  have hkx : k < xs.length := by omega
  have hkI : (k : Int) < (xs.length : Int) := by omega
  have hk0 : (0 : Int) ≤ (k : Int) := by omega
  clear h hO hnews hplain B1 hxs hxl hk hl
  rw [hw1] at HO HN HB1
  clear hw1
  go_enter Try.func41, Try.ntmps41
  go_wp2_with (at_builtin; refine wpList_append_own _ rfl (.tmp 8) (.tmp 9) 44 rfl w.heap.size 2 i0 (.int .i64 0) 1 8 Try.underlying44 hi hz0 hz1 hz2 rfl (by decide) _ 0 _ rfl (unhide HO) ⟨g, 0, none⟩ xs.length cap xs rfl (by simp) (unhide HN) (unhide HP) hb63 hby (by simp) ?_)
  intro v' wA ho hg _
  have BA : Below w.heap.size w wA := (unhide HB1).grown hg (by simp) (unhide hbse)
  try rw [Nat.zero_add] at ho
  try rw [List.nil_append] at ho
  obtain ⟨g2, cap2, rfl, hc2, hg2, hgl2, d0, z0, hset⟩ := Cm.regs_at ho hkx
  have HSET := hide (hset (.int .i64 r))
  have hk2 : k < cap2 := by omega
  obtain ⟨y, hy⟩ : ∃ y, xs[k]? = some y := ⟨_, List.getElem?_eq_getElem hkx⟩
  rw [hy] at d0
  have B2 : Below w.heap.size w (wA.setCell ⟨g2, k, none⟩ (.int .i64 r)) := BA.setCell hg2 _
  clear ho hg hset hbse HO HN HP
  have hyi : ∃ z : Int, y = .int .i64 z := by
    rw [unhide HXS, List.getElem?_map] at hy
    obtain ⟨z, _, rfl⟩ := Option.map_eq_some_iff.1 hy
    exact ⟨z, rfl⟩
  obtain ⟨z, rfl⟩ := hyi
  go_wp2_with fail
  go_ret
  refine ⟨_, rfl, ?_, B2⟩
  have hq := unhide HSET
  rw [List.length_set, List.map_set, ← unhide HXS, ← unhide HXL]
  exact hq

end Go.Proofs.Ytodpmonbfecfdaa

namespace Go.Proofs.Ytodpmonbfecfdaa
open Go.RowKit
set_option linter.unusedVariables false
set_option linter.unusedSimpArgs false


namespace Cm
theorem owns_empty {w : World} {base g : Nat} {e : TypeId} (k : Nat) (hg : base ≤ g) (h : w.heap[g]? = some (.cells #[] e (0, 0))) : w.ownsRow base e k (.slice (some ⟨g, 0, none⟩) 0 0) 0 [] :=
  ⟨by simp, .inr ⟨g, 0, #[], rfl, hg, h, Nat.le_refl _, by unfold maxLen; omega, by simp, by simp⟩⟩
end Cm
set_option maxRecDepth 100000 in
set_option maxHeartbeats 4000000 in
theorem l8Val_any (pb : Nat) (cv : Value) (s : Cm.St) (v : Value) (cs : List (Ic × Value)) (op : Int) (b off cap : Nat) (l : List M.Cl) (w : World) (h : Cm.Sp 41 w pb cv [] s v cs) (hl : s.len ≤ 100000) (hrow : Row w b off l) (hb : b < w.heap.size) (hn : l.length ≤ 100000) :
    Calls Try.prog 33 #[.pointer (some ⟨pb, 0, none⟩), .int .i64 op, .slice (some ⟨b, off, none⟩) l.length cap] w fun e w' => e = .returned (.tuple #[]) ∧ (∃ v' cs', Cm.Sp 41 w' pb cv [] (s.val op l) v' cs') ∧ Cm.Ke 41 pb w w' := by
  obtain ⟨i0, hi, hz0, hz1, hz2⟩ := info_parts Cm.infoIn
  obtain ⟨i1, hi1, hy0, hy1, hy2⟩ := info_parts Try.info84
  obtain ⟨va, vc, hv⟩ := h.row.slice
  subst hv
  have HL := hide h.len
  have hl2 : cs.length ≤ 100000 := by rw [unhide HL]; exact hl
  have hpl := h.own.lt
  have c1 := h.own.cell 1
  simp only [List.cons_append, List.nil_append, List.getElem?_cons_zero, List.getElem?_cons_succ] at c1
  have HSp := hide h
  have HRw := hide hrow
  clear h hrow hl
  go_enter Try.func33, Try.ntmps33
  refine Z.region 14 (fun w' => w'.cell? ⟨pb, 1, none⟩ = some (.slice va cs.length vc)) (by kernel_rfl) c1 (fun hHeld => ?_)
  refine Z.take (i := 0) (d := 6) (v := .pointer (some ⟨pb, 0, none⟩)) rfl rfl (by kernel_rfl) (by kernel_rfl) (by kernel_rfl) (by kernel_rfl) (fun _ _ _ h => h) (Or.inl ⟨by rfl, ?_⟩) hHeld ?_
  · intro w' hSw; go_simp
  simp only [Act.put, List.setIfInBounds_toArray, List.set_cons_zero, List.set_cons_succ]
  refine Z.take (i := 1) (d := 7) (v := .pointer (some ⟨pb, 0, none⟩)) rfl rfl (by kernel_rfl) (by kernel_rfl) (by kernel_rfl) (by kernel_rfl) (fun _ _ _ h => h) (Or.inl ⟨by rfl, ?_⟩) hHeld ?_
  · intro w' hSw; go_simp
  simp only [Act.put, List.setIfInBounds_toArray, List.set_cons_zero, List.set_cons_succ]
  refine Z.take (i := 2) (d := 8) (v := .pointer (some ⟨pb, 0, none⟩)) rfl rfl (by kernel_rfl) (by kernel_rfl) (by kernel_rfl) (by kernel_rfl) (fun _ _ _ h => h) (Or.inl ⟨by rfl, ?_⟩) hHeld ?_
  · intro w' hSw; go_simp
  simp only [Act.put, List.setIfInBounds_toArray, List.set_cons_zero, List.set_cons_succ]
  refine Z.take (i := 3) (d := 9) (v := .pointer (some ⟨pb, 1, none⟩)) rfl rfl (by kernel_rfl) (by kernel_rfl) (by kernel_rfl) (by kernel_rfl) (fun _ _ _ h => h) (Or.inl ⟨by rfl, ?_⟩) hHeld ?_
  · intro w' hSw; go_simp
  simp only [Act.put, List.setIfInBounds_toArray, List.set_cons_zero, List.set_cons_succ]
  refine Z.take (i := 4) (d := 10) (v := .slice va cs.length vc) rfl rfl (by kernel_rfl) (by kernel_rfl) (by kernel_rfl) (by kernel_rfl) (fun _ _ _ h => h) (Or.inl ⟨by rfl, ?_⟩) hHeld ?_
  · intro w' hSw; go_simp
  simp only [Act.put, List.setIfInBounds_toArray, List.set_cons_zero, List.set_cons_succ]
  refine Z.take (i := 5) (d := 11) (v := .int .i64 op) rfl rfl (by kernel_rfl) (by kernel_rfl) (by kernel_rfl) (by kernel_rfl) (fun _ _ _ h => h) (Or.inl ⟨by rfl, ?_⟩) hHeld ?_
  · intro w' hSw; go_simp
  simp only [Act.put, List.setIfInBounds_toArray, List.set_cons_zero, List.set_cons_succ]
  refine Z.take (i := 7) (d := 13) (v := .slice (some ⟨b, off, none⟩) l.length cap) rfl rfl (by kernel_rfl) (by kernel_rfl) (by kernel_rfl) (by kernel_rfl) (fun _ _ _ h => h) (Or.inl ⟨by rfl, ?_⟩) hHeld ?_
  · intro w' hSw; go_simp
  simp only [Act.put, List.setIfInBounds_toArray, List.set_cons_zero, List.set_cons_succ]
  have B1 : Below w.heap.size w (w.alloc (.cells #[] 84)).drew := ((Below.refl w.heap.size w).alloc (Nat.le_refl _) _).drew
  have O1 : ((w.alloc (.cells #[] 84)).drew).ownsRow w.heap.size 84 5 (.slice (some ⟨w.heap.size, 0, none⟩) 0 0) 0 [] := Cm.owns_empty 5 (Nat.le_refl _) (heap_alloc_new w _)
  have S1 := (unhide HSp).below B1
  have d1 := S1.own.cell 1
  simp only [List.cons_append, List.nil_append, List.getElem?_cons_zero, List.getElem?_cons_succ] at d1
  have hs1 : ((w.alloc (.cells #[] 84)).drew).heap.size = w.heap.size + 1 := by simp [World.drew]
  have hnews := row_words ((unhide HRw).below B1 hb)
  refine Z.ready (rs := [6]) (by kernel_rfl) (by simp) (Z.val_cons (i := 6) (d := 12) (v := .slice (some ⟨w.heap.size, 0, none⟩) 0 0) (w' := (w.alloc (.cells #[] 84)).drew) rfl (by rfl) ?_ (fun _ => d1) ?_ Z.All.nil)
  · intro K hK
    go_simp
    exact hK.out
  simp only [Act.put, List.setIfInBounds_toArray, List.set_cons_zero, List.set_cons_succ]
  generalize (w.alloc (.cells #[] 84)).drew = W1 at *
  refine Z.ready (rs := [8]) (by kernel_rfl) (by simp) (Z.All.cons rfl (fun K hK => ?_) Z.All.nil)
  refine Cm.step_append W1 rfl (.tmp 12) (.tmp 13) 46 rfl w.heap.size 84 i1 _ 5 _ Try.underlying46 hi1 hy0 hy1 hy2 rfl (by decide) _ 0 [] rfl O1 ⟨b, off, none⟩ l.length cap (flat l) rfl (flat_length l) hnews (flat_one l) (by unfold maxLen; omega) (by omega) (by omega) ?_
  intro x wA ho hg _
  rw [Nat.zero_add, List.nil_append] at ho
  have BA : Below w.heap.size w wA := B1.grown hg (by omega) (fun k hk => by cases hk; exact Nat.le_refl _)
  have RA : Res wA w.heap.size x l := res_of_owns ho (by omega)
  have SA := (unhide HSp).below BA
  have HFR : ∀ b, x.ownBlock = some b → b ∉ Cm.bls cs := fun b hb hm => by have := RA.base b hb; have := (unhide HSp).row.bls_lt b hm; omega
  have dA := SA.own.cell 1
  simp only [List.cons_append, List.nil_append, List.getElem?_cons_zero, List.getElem?_cons_succ] at dA
  refine hK.out _ _ (fun _ => dA) ?_
  clear hK K
  obtain ⟨xa, xn, xc, rfl⟩ := RA.shape
  clear ho hg hnews O1 S1 B1 d1 hs1 HRw
  simp only [Act.put, List.getElem_toArray, List.getElem_cons_succ, List.getElem_cons_zero, List.setIfInBounds_toArray, List.set_cons_zero, List.set_cons_succ]
  refine Z.ready (rs := [9]) (by kernel_rfl) (by simp) (Z.val_cons (i := 9) (d := 15) (v := .agg #[.int .i64 op, .int .i64 0, .slice xa xn xc]) (w' := wA) rfl (by rfl) ?_ (fun _ => dA) ?_ Z.All.nil)
  · intro K hK
    go_simp
    exact hK.out
  simp only [Act.put, List.setIfInBounds_toArray, List.set_cons_zero, List.set_cons_succ]
  have B2 : Below w.heap.size w (wA.alloc (.cells #[.int .i64 op, .int .i64 0, .slice xa xn xc] 56)) := BA.alloc BA.size _
  have hs2 : (wA.alloc (.cells #[.int .i64 op, .int .i64 0, .slice xa xn xc] 56)).heap.size = wA.heap.size + 1 := by simp
  have S2 := (unhide HSp).below B2
  have R2 : Res (wA.alloc (.cells #[.int .i64 op, .int .i64 0, .slice xa xn xc] 56)) (pb + 1) (.slice xa xn xc) l := (RA.alloc _).mono (by omega)
  have X2 : Own (wA.alloc (.cells #[.int .i64 op, .int .i64 0, .slice xa xn xc] 56)) wA.heap.size 56 [.int .i64 op, .int .i64 0, .slice xa xn xc] := ⟨_, heap_alloc_new _ _, rfl⟩
  have d2 := S2.own.cell 1
  simp only [List.cons_append, List.nil_append, List.getElem?_cons_zero, List.getElem?_cons_succ] at d2
  have hnews : ∀ j u, (Cm.inV ⟨op, 0, l⟩ (.slice xa xn xc))[j]? = some u → (wA.alloc (.cells #[.int .i64 op, .int .i64 0, .slice xa xn xc] 56)).cell? ((⟨wA.heap.size, 0, none⟩ : Addr).add j) = some u := fun j u hu => by
    have ha : (⟨wA.heap.size, 0, none⟩ : Addr).add j = ⟨wA.heap.size, j, none⟩ := by unfold Addr.add; split <;> simp_all
    rw [ha, X2.cell j]
    exact hu
  have K2 : Cm.Ke 41 pb w (wA.alloc (.cells #[.int .i64 op, .int .i64 0, .slice xa xn xc] 56)) := Cm.Ke.of_below B2 (by omega)
  have hpb : pb + 1 ≤ (wA.alloc (.cells #[.int .i64 op, .int .i64 0, .slice xa xn xc] 56)).heap.size := by have := BA.size; omega
  refine Z.ready (rs := [10]) (by kernel_rfl) (by simp) (Z.val_cons (i := 10) (d := 16) (v := .slice (some ⟨wA.heap.size, 0, none⟩) 1 1) (w' := wA.alloc (.cells #[.int .i64 op, .int .i64 0, .slice xa xn xc] 56)) rfl (by rfl) ?_ (fun _ => d2) ?_ Z.All.nil)
  · intro K hK
    go_simp
    exact hK.out
  simp only [Act.put, List.setIfInBounds_toArray, List.set_cons_zero, List.set_cons_succ]
  generalize wA.alloc (.cells #[.int .i64 op, .int .i64 0, .slice xa xn xc] 56) = W2 at *
  refine Z.ready (rs := [11]) (by kernel_rfl) (by simp) (Z.All.cons rfl (fun K hK => ?_) Z.All.nil)
  refine Cm.step_append W2 rfl (.tmp 10) (.tmp 16) 24 rfl (pb + 1) 56 i0 (.agg #[.int .i64 0, .int .i64 0, .slice none 0 0]) 3 40 Try.underlying24 hi hz0 hz1 hz2 rfl (by decide) _ cs.length _ rfl S2.row.1 ⟨wA.heap.size, 0, none⟩ 1 1 (Cm.inV ⟨op, 0, l⟩ (.slice xa xn xc)) rfl rfl hnews (Cm.plain_in (⟨op, 0, l⟩ : Ic) _ rfl) (by unfold maxLen; omega) (by omega) hpb ?_
  intro v' wB ho hg _
  obtain ⟨hoB, hkB, hSp, hKe⟩ := S2.push (wA := wB) (v' := v') (x := .slice xa xn xc) (c := ⟨op, 0, l⟩) (s' := s.val op l) (by decide) (by decide) ho hg R2 HFR rfl rfl
  obtain ⟨ya, yc, hv'⟩ := hSp.row.slice
  rw [show (cs ++ [((⟨op, 0, l⟩ : Ic), Value.slice xa xn xc)]).length = cs.length + 1 by simp] at hv'
  subst hv'
  have dB := hoB.cell 1
  have zB := hoB.frozen 1
  simp only [List.cons_append, List.nil_append, List.getElem?_cons_zero, List.getElem?_cons_succ] at dB
  refine hK.out _ _ (fun _ => dB) ?_
  clear hK K
  have FIN := hide (And.intro hSp (K2.trans hKe))
  clear hoB hkB hSp hKe ho hg hnews S2 R2 X2 K2 B2 SA RA BA HSp HL
  simp only [Act.put, List.getElem_toArray, List.getElem_cons_succ, List.getElem_cons_zero, List.setIfInBounds_toArray, List.set_cons_zero, List.set_cons_succ]
  refine Z.ready (rs := [12]) (by kernel_rfl) (by simp) (Z.val_cons (i := 12) (d := 18) (v := .pointer (some ⟨pb, 0, none⟩)) (w' := wB) rfl (by rfl) ?_ (fun _ => dB) ?_ Z.All.nil)
  · intro K hK
    go_simp
    exact hK.out
  simp only [Act.put, List.setIfInBounds_toArray, List.set_cons_zero, List.set_cons_succ]
  refine Z.ready (rs := [13]) (by kernel_rfl) (by simp) (Z.val_cons (i := 13) (d := 19) (v := .pointer (some ⟨pb, 1, none⟩)) (w' := wB) rfl (by rfl) ?_ (fun _ => dB) ?_ Z.All.nil)
  · intro K hK
    go_simp
    exact hK.out
  simp only [Act.put, List.setIfInBounds_toArray, List.set_cons_zero, List.set_cons_succ]
  refine Z.last_at (w' := wB.setCell ⟨pb, 1, none⟩ (Value.slice ya (cs.length + 1) yc)) rfl (by kernel_rfl) (by rfl) (fun K hK => ?_) ?_
  · go_simp
    exact hK.out
  refine Z.done (by kernel_rfl) ?_ _
  go_wp2_with fail
  go_end0
  exact ⟨rfl, ⟨_, _, (unhide FIN).1⟩, (unhide FIN).2⟩

end Go.Proofs.Ytodpmonbfecfdaa

namespace Go.Proofs.Ytodpmonbfecfdaa
open Go.RowKit
set_option linter.unusedVariables false
set_option linter.unusedSimpArgs false

namespace Cm
/-- What was laid so far, and what is kept since wS. -/
def Lg (T : TypeId) (pb : Nat) (cv : Value) (tl : List Value) (wS : World) (s : St) (w : World) : Prop := (∃ v cs, Sp T w pb cv tl s v cs) ∧ Ke T pb wS w
theorem Lg.start {T : TypeId} {pb : Nat} {cv : Value} {tl : List Value} {s : St} {w : World} (h : ∃ v cs, Sp T w pb cv tl s v cs) : Lg T pb cv tl w s w := ⟨h, Ke.refl _ _ _⟩
theorem Lg.go {T : TypeId} {pb : Nat} {cv : Value} {tl tl' : List Value} {wS w w' : World} {s s' : St} (h : Lg T pb cv tl wS s w) (k : Lg T pb cv tl' w s' w') : Lg T pb cv tl' wS s' w' := ⟨k.1, h.2.trans k.2⟩
theorem Lg.lt {T : TypeId} {pb : Nat} {cv : Value} {tl : List Value} {wS w : World} {s : St} (h : Lg T pb cv tl wS s w) : pb < w.heap.size := by
  obtain ⟨⟨v, cs, h1⟩, _⟩ := h
  exact h1.own.lt
theorem Lg.below {T : TypeId} {pb : Nat} {cv : Value} {tl : List Value} {wS w w' : World} {s : St} (h : Lg T pb cv tl wS s w) (hb : Below w.heap.size w w') : Lg T pb cv tl wS s w' := by
  have hl := h.lt
  obtain ⟨⟨v, cs, h1⟩, h2⟩ := h
  exact ⟨⟨v, cs, h1.below hb⟩, h2.trans (Ke.of_below hb (by omega))⟩
theorem Lg.alloc {T : TypeId} {pb : Nat} {cv : Value} {tl : List Value} {wS w : World} {s : St} (h : Lg T pb cv tl wS s w) (o : Obj) : Lg T pb cv tl wS s (w.alloc o) := h.below ((Below.refl _ _).alloc (Nat.le_refl _) o)
theorem Lg.own {T : TypeId} {pb : Nat} {cv : Value} {tl : List Value} {wS w : World} {s : St} (h : Lg T pb cv tl wS s w) {b : Nat} {xs : List Value} (ho : Own wS b 48 xs) (hT : T ≠ 48) : Own w b 48 xs := h.2.own ho (by decide) (fun e => hT e.symm)
theorem Lg.since {T : TypeId} {pb : Nat} {cv : Value} {tl : List Value} {w0 wS w : World} {s : St} (h : Lg T pb cv tl wS s w) (hp : w0.heap.size ≤ pb) (hb : Below w0.heap.size w0 wS) : Below w0.heap.size w0 w := hb.trans (h.2.below.mono hp)
/-- What the code of a node does on spec's side. -/
def Lays (w0 : World) (pb : Nat) (cv : Value) (rec : Rec) (n : Nat) (a : Int) : Prop :=
  (∀ rs s, Up n s (rec a rs s)) ∧ ∀ (rs : List Int) (rv : Value) (rb : Nat) (s : St) (w : World), (∃ v cs, Sp 41 w pb cv [] s v cs) → Below w0.heap.size w0 w → w.ownsRow rb 2 1 rv rs.length (rs.map (Value.int .i64)) → rs.length = 60 → s.len + 14 * n ≤ 20000 → 0 ≤ s.regs → s.regs + 2 * (n : Int) ≤ 20000 →
    Calls Try.prog 15 #[.pointer (some ⟨pb, 0, none⟩), .int .i64 a, rv] w fun e w' => e = .returned (.tuple #[]) ∧ Lg 41 pb cv [] w (rec a rs s) w'
theorem Lays.at {w0 : World} {pb : Nat} {cv : Value} {rec : Rec} {n : Nat} {a : Int} (H : Lays w0 pb cv rec n a) {rs : List Int} {rv : Value} {rb : Nat} {s s' : St} {wS w : World} (hp : w0.heap.size ≤ pb) (hb : Below w0.heap.size w0 wS) (L : Lg 41 pb cv [] wS s w) (hr : wS.ownsRow rb 2 1 rv rs.length (rs.map (Value.int .i64))) (h60 : rs.length = 60) (h1 : s.len + 14 * n ≤ 20000) (h2 : 0 ≤ s.regs) (h3 : s.regs + 2 * (n : Int) ≤ 20000) (hs : rec a rs s = s') :
    Calls Try.prog 15 #[.pointer (some ⟨pb, 0, none⟩), .int .i64 a, rv] w fun e w' => e = .returned (.tuple #[]) ∧ Lg 41 pb cv [] wS s' w' := by
  subst hs
  refine (H.2 rs rv rb s w L.1 (L.since hp hb) (L.2.regs (by decide) hr) h60 h1 h2 h3).mono ?_
  rintro e w' ⟨rfl, k⟩
  exact ⟨rfl, L.go k⟩
theorem put_lg {pb : Nat} {cv : Value} {s s' : St} {wS w : World} (op arg : Int) (L : Lg 41 pb cv [] wS s w) (hl : s.len ≤ 100000) (hs : s.put op arg = s') :
    Calls Try.prog 16 #[.pointer (some ⟨pb, 0, none⟩), .int .i64 op, .int .i64 arg] w fun e w' => e = .returned (.int .i64 (s.len : Int)) ∧ Lg 41 pb cv [] wS s' w' := by
  subst hs
  obtain ⟨⟨v, cs, h1⟩, h2⟩ := L
  refine (l8Put_any pb cv s v cs op arg w h1 hl).mono ?_
  rintro e w' ⟨rfl, k1, k2⟩
  exact ⟨rfl, k1, h2.trans k2⟩
theorem reg_lg {pb : Nat} {cv : Value} {s s' : St} {wS w : World} (L : Lg 41 pb cv [] wS s w) (h0 : 0 ≤ s.regs) (h1 : s.regs ≤ 100000) (hs : s.reg = s') :
    Calls Try.prog 40 #[.pointer (some ⟨pb, 0, none⟩)] w fun e w' => e = .returned (.int .i64 s.regs) ∧ Lg 41 pb cv [] wS s' w' := by
  subst hs
  obtain ⟨⟨v, cs, q1⟩, h2⟩ := L
  refine (l8Reg_any pb cv s v cs w q1 h0 h1).mono ?_
  rintro e w' ⟨rfl, k1, k2⟩
  exact ⟨rfl, k1, h2.trans k2⟩
theorem here_lg {pb : Nat} {cv : Value} {s s' : St} {wS w : World} (k : Nat) (L : Lg 41 pb cv [] wS s w) (hk : k < s.len) (hl : s.len ≤ 100000) (hs : s.here k = s') :
    Calls Try.prog 36 #[.pointer (some ⟨pb, 0, none⟩), .int .i64 (k : Int)] w fun e w' => e = .returned (.tuple #[]) ∧ Lg 41 pb cv [] wS s' w' := by
  subst hs
  obtain ⟨⟨v, cs, q1⟩, h2⟩ := L
  refine (l8Here_any pb cv s v cs k w q1 hk hl).mono ?_
  rintro e w' ⟨rfl, k1, k2⟩
  exact ⟨rfl, k1, h2.trans k2⟩
theorem val_lg {pb : Nat} {cv : Value} {s s' : St} {wS w : World} (op : Int) (b off cap : Nat) (l : List M.Cl) (L : Lg 41 pb cv [] wS s w) (hl : s.len ≤ 100000) (hrow : Row w b off l) (hb : b < w.heap.size) (hn : l.length ≤ 100000) (hs : s.val op l = s') :
    Calls Try.prog 33 #[.pointer (some ⟨pb, 0, none⟩), .int .i64 op, .slice (some ⟨b, off, none⟩) l.length cap] w fun e w' => e = .returned (.tuple #[]) ∧ Lg 41 pb cv [] wS s' w' := by
  subst hs
  obtain ⟨⟨v, cs, q1⟩, h2⟩ := L
  refine (l8Val_any pb cv s v cs op b off cap l w q1 hl hrow hb hn).mono ?_
  rintro e w' ⟨rfl, k1, k2⟩
  exact ⟨rfl, k1, h2.trans k2⟩
/-- A value of one cell that was just made. -/
theorem res_val {w : World} {B : Nat} {x : Value} {c : M.Cl} (h : Res w B x [c]) : ∃ b cap, x = .slice (some ⟨b, 0, none⟩) 1 cap ∧ b < w.heap.size ∧ Row w b 0 [c] := by
  have hlt := h.lt
  obtain ⟨_, ⟨_, h2⟩ | ⟨b, cap, h1, _, _, h3⟩⟩ := h
  · cases h2
  · exact ⟨b, cap, h1, hlt b (by rw [h1]; rfl), h3.row⟩
theorem val1_lg {pb : Nat} {cv : Value} {s s' : St} {wS w : World} (op : Int) {x : Value} {B : Nat} {c : M.Cl} (L : Lg 41 pb cv [] wS s w) (hl : s.len ≤ 100000) (hx : Res w B x [c]) (hs : s.val op [c] = s') :
    Calls Try.prog 33 #[.pointer (some ⟨pb, 0, none⟩), .int .i64 op, x] w fun e w' => e = .returned (.tuple #[]) ∧ Lg 41 pb cv [] wS s' w' := by
  obtain ⟨b, cap, rfl, h1, h2⟩ := res_val hx
  exact val_lg op b 0 cap [c] L hl h2 h1 (by simp) hs
end Cm
end Go.Proofs.Ytodpmonbfecfdaa
